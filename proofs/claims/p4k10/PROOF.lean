import PyProof.Rows.All
import Wide.All
import OpenK.AllK
import Wide.FinOn
import Lean
import PyProof.EqAt
import PyProof.EqKinds
import PyProof.TupleCall
import PyProof.Rows.IntBool
import PySem.Challenge.RW_rankseals_k10_houses_at_their_bounds
set_option Elab.async false
set_option linter.all false
set_option maxRecDepth 100000
set_option maxHeartbeats 4000000
set_option autoImplicit true
open PySem renaming Value->aL,World->dD,Program->fV,KeyKind->Bg,Addr->aH,Heap->cu,sizeLine->cH,sysModules->sO,tupleKind->Ip,Within->aj8,mainGlobals->iw,bootBuiltins->uQ,Around->iz,Shared->aZ,Scope->kW,wpAny->aQ,spliced->Jb,backTo->iC,starEach->bM,Stmt->eX,wpAny_mono->uf,wpAny_Name->abZ,wpAny_truthy_bool->vP,wpAny_execs_nil->RP,wpAny_execs_cons->aiY,swapsWith->wu,assignInOrder->Hu,assignEach->wj,wpAny_assign_Name->K3,holding->rD,standAt->wF,wpAny_bind->aJ,wpAny_holding->nF,wpAny_standAt->xN,swapsWithSole->Bj,swappedStores->Bl,wpAny_pure->bz,wpAny_newObj_type->mJ,bindName->xX,wpAny_rule->ug,wpAny_bindName->Lr,PassesOwn->U7,wpAny_passesOwn->DN,pyNext->j7,letOwnedTupleGo->Az,pyIter->BZ,wpAny_load->MN,rawInt->jL,wpAny_pyIter_list->K4,wpAny_pyIter_tuple->aad,foldedSetIterable->uN,binaryOp->pC,compareOp->gM,behindInMarks->Hv,lastMarks->U8,sizeLine_eq->lN,cLine->iG,Result->zX,FuncData->wC,BindsTo->Fg,codeAny->lQ,wpAny_call->ab1,codeAny_mono->Eb,wpAny_Call_Name_kw->Dy,NameKind->Ex,bindL->Cz,bindC->CG,mem_of_lookup->zq,concat_meets->abu,noFill_tuple_add->aaD,seq_tuple_add->abl,IsPart->wJ,wpAny_field->rA,getItem->zQ,wpAny_sequenceKey->aiF,wpAny_callSpecial?_slot->uL,wpAny_call_entry->oZ,wpAny_typeOf->Mj,seqIndex?->U9,seqIndex_of->abL,seqIndex_neg->abv,subscripted->abM,typeIs_str->ab3,sliceBounds->Ec,typeIs_int->Ei,attributeBase->Hw,backToKw->Iz,keywordEach->HR,Keyword->uZ,call_meets->Bs,valueAt->Fi,atKey->zZ,tupleKind_room_in1->KZ,callerA->Fo,call->ab4,DictEntry->Iu,compEnvC->Vv,compTurn->IK,newFunctionEnv->aa4,wpAny_newFunctionEnv->Z6,lookup_relabel_local->Z7,wpAny_comprehension_free->KN,compPost->NB,exec_Assign_Name_used->ah6,comprehension->Tf,Walks->yu,PyData->aB,ZipApart->Vx,IsZip->ux,IsPair->pU,wpAny_pyIter_zip->RG,Builtin->mq,wpAny_newList->abm,wpAny_pyIter_slot->aao,wpAny_dictEntries->aap,wpAny_dictEpoch->aaQ,wpAny_attempt->Bo,wpAny_typeNameOfWhole_keyiter->Q9,wpAny_fieldsOf->Bd,wpAny_typeNameOf_keyiter->Rh,wpAny_isOneOf_keyiter->Z4,wpAny_setField->xM,newExc->Jp,newTuple->Vz,firstArgMember->Hr,wpAny_of_eq->HS,raiseNew->VB,wpAny_handled->abo,wpAny_throw->abO,wpAny_isInstance->RJ,isSubtype_stop->aa5,wpAny_pyIter_keyiter->aie,wpAny_runValue->aa6,codeAny_builtin->rZ,plainId_quiet->sH,richCompare->Ed,wpAny_loadPart'->RW,wpAny_forIn_list->ai8,richCompare_meets_room->ah1,seqSlot_of->aja,wpAny_binaryOp_repeat_ref->ZL,SetTable->BJ,relayAll->Ls,scanBound->qu,wpAny_setState_of->Hi,wpAny_storeSet_of->aiL,fits_of_scanBound->aav,codeAny_of_tree->aaU,checkBuiltinCall->ajb,wpAny_askSetting->Lf,codeAny_call_builtin->aih,builtinLookup_eq_fast->aia,isSubtype_type->aa9,entryFor->VH,argsOk->Cg,setNext->Je,wpAny_setEntries_of->KR,setsByText->acd,wpAny_ite_split->R7,pickOrder->Bu,wpAny_seqItems->rm,wpAny_setEpoch_of->aiN,updateSeq->Iv,wpAny_updateSeq->Ba,strKind->Ma,argBest->jk,seqItems?->Bv,wpAny_tryCatch->zA,wpAny_letGo->xQ,wpAny_setField_rec->K1,wpAny_onRaise->abp,wpAny_updateSeq_pair->ail
open PySem.Value renaming isInt->abI,isStrOf->abk,int->zJ,str->M6,isInt_shape->aiA,isStrOf_shape->ain,none->j6,bool->uU,float->abJ,ref->dJ,type->xT,notImplemented->Z8
open Sum renaming inl->Ff,inr->uY
open Sum.inr renaming inj->Ua
open PySem.SeqAt.EqAt renaming int_str->ais,str_int->ait,int_int->aiw
open Option.some renaming inj->jj,injEq->Rv
open PySem.W renaming instObj->aaN,methodObj->aal,Frag->bw,lookIn->aa2,plainGet->aiZ,findIn->aa3,kitOne->DR,kia_one->vU,kitx_none->aiC,kitx_bool->aiD,kitx_int->ai0,kitx_str->ai1,kitx_float->aiu,kitx_list->Rr,kitx_tuple->aiv,kitx_dict->Rt,kitx_own->ai2,keepIn->Bc,cellsFrom_some->ahX,fnOf->Bp,codeIn->Ss,OpenLaw->aaO,WalkO->ajN,kitAny->Su,kia_tup->vW,nsIn->lM,mg_of->vX,mg_none_of->ql
open PySem.Heap renaming lt_size->cL,SameBut->zE,get?_push_of_some->cG,get?_push_size->gR,get?_update_self->vM,get?_update_other->qi,size_push->sy,ExtBut->Ms,size_update->ai9,get?_update_ne->aio,IsTuple->ako
open Nat renaming lt_of_lt_of_le->pQ,lt_irrefl->Bh,ne_of_lt->gj,le_trans->kI,le_of_lt->Ea,ne_of_gt->uR,le_refl->bU,le_succ->xP,succ_le_succ->aaF,succ_mul->akf,lt_trans->Tv,zero_le->j5,le_of_eq->akg,sub_self->aby,lt_succ_of_lt->vQ,le_mul_of_pos_left->ah0,not_lt->Ij,not_lt_zero->R0,mul_comm->akj,lt_succ_self->Lg,add_sub_cancel->aiy,lt_trichotomy->aiR,zero_add->Ml,min_self->akl,le_add_right->RN,min_eq_left->aju,succ_pos->akG
open List renaming range->dh,mem_filter->o7,mem_range->qZ,filterMap_cons->aab,mem_cons_self->eV,mem_cons_of_mem->fQ,mem_cons->cg,mem_append->eO,mem_append_left->jR,getElem?_eq_some_iff->jZ,getElem_inj->aiX,getElem?_set_self->ahW,getElem?_set_ne->Dv,set_comm->Tc,mem_filterMap->aae,mem_append_right->gw,size_toArray->gK,any_eq_false->aiB,append_nil->mj,nodup_cons->mK,of_mem_zip->RQ,replicate->cN,length->vY,length_take->lZ,getElem?_append_right->tU,getElem?_replicate->ZS,getElem?_append_left->tV,getElem?_map->jC,take_sublist->Ru,mem_of_getElem?->lX,length_append->gJ,length_map->bD,length_replicate->qW,length_drop->t7,map_nil->sI,map_cons->dU,length_set->DP,all_cons->Td,any_cons->LR,replicate_succ->vN,flatten_cons->Hh,foldl->Us,append_assoc->qX,foldl_cons->vV,length_singleton->lA,find?_cons->xJ,length_cons->fY,length_nil->RT,nodup_nil->lJ,mem_singleton->gU,forIn_cons->aaP,lookup_cons->DG,map_map->fj,all_eq_true->lB,getElem_of_mem->tX,getElem?_eq_getElem->fU,getElem_mem->vR,not_mem_nil->kE,getD->pR,toArray->aki,ext_getElem->DK,length_range->oK,map_congr_left->vO,zip_cons_cons->aag,mem_map->cY,ext_getElem?->aiI,getElem?_eq_none->KQ,nil_append->gm,pairwise_iff_getElem->Aw,pairwise_lt_range->ah2,take_append_drop->Rn,pairwise_append->aif,getElem_take->aiJ,pairwise_cons->uM,foldl_append->aiM,nodup_append->mZ,range_succ->R4,map_append->j4,length_eq_zero_iff->ZW,length_eraseIdx->aii,take_zero->ajy,Sublist->abB,nil_sublist->aaJ,getElem?_set->Rw,any_map->abC,length_zip->Lj,getElem?_range->aiq,getElem?_eq_none_iff->ZM,drop_length->ajd,drop_eq_getElem_cons->ZP,getElem?_mapIdx->aij,sublist_nil->aje,getElem?_take->Ro,map_id->Mt,take_of_length_le->Rm,filter_cons->Lh,sum_cons->ajV,mem_erase_of_ne->aik,length_pos_of_mem->ah3,Nodup->acg,pairwise_map->tZ,nodup_range->aaK,any_eq_true->aaL,mem_of_mem_take->Dw,find?_map->ajB,isEmpty_nil->Li,filter_eq_self->tY,find?_eq_none->aaj,map_take->Tg,getElem_map->Ay,zipIdx_cons->ajg,zipIdx_nil->ajq,forIn_nil->ajC,pairwise_singleton->ZZ,getD_eq_getElem?_getD->zj,cons_append->iu,isEmpty_cons->RC,length_filter_le->zp,cons_lt_cons_iff->aic,lt_irrefl->abj,drop_of_length_le->ah5,map_drop->aj4,filter_eq_nil_iff->Z2,filter_sublist->air,exists_cons_of_ne_nil->ahQ,drop_sublist->aiW,mem_of_mem_drop->aaa
open Ne renaming symm->kJ
open PySem.Calls renaming Name_function_global->ahM,spliced_nil->K5,spliced_cons->Hf,callWith_builtin->ahY,evalArgs_plain->aid,call_function_entry->ahR
open Array renaming length_toList->lY,toList->aj9,getElem?_toList->G9,getD->ali,getElem?_eq_getElem->mY,getElem?_eq_none->Z1,getD_eq_getD_getElem?->vL,toList_push->aiK,getElem?_eq_some_iff->ahP,getElem_toList->aim
open False renaming elim->xU
open PySem.Flow renaming next->U6
open Bool renaming false_ne_true->jK,false_and->aa1,eq_iff_iff->uP,and_eq_true->j0,not_eq_true->ai4,false_eq_true->qj,or_eq_true->ajo,not_true->ajU,not_false->ajv,eq_false_iff->aiQ,noConfusion->ajh,true_and->Tu,and_true->aj5,true->aq,false->aA
open PySem.Builtin.Range renaming rangeSize->av3
open PyProof.Rows renaming callWith_type1->KD,callWith_builtin1->ZG,slot_tuple_getitem->Q8,boot_zip->ah7,toString_length_le->avu
open PySem.EqNone renaming eq_none_none->avB,eq_none_bool->avC,eq_none_int->avO,eq_none_str->avP,eq_bool_none->avD,eq_int_none->avQ,eq_str_none->avS,ne_none_none->avG,ne_none_bool->avH,ne_none_int->avU,ne_none_str->avV,ne_bool_none->avI,ne_int_none->avW,ne_str_none->avY
open PySem.EqMixed renaming eq_bool_str->avE,eq_int_str->avR,eq_str_bool->avF,eq_str_int->avT,ne_bool_str->avJ,ne_int_str->avX,ne_str_bool->avK,ne_str_int->avZ
open True renaming intro->qt
open Option renaming isSome_iff_exists->zm,getD_none->ai3,isSome_some->aix,isSome_map->aam,map_eq_some_iff->Ax,map_some->lC,getD_some->Hl,bind_some->m9,some_ne_none->zu,none->sJ,map->alx,map_map->Sw,bind_eq_some_iff->qU,map_eq_none_iff->ah4,some->aa,none->ao
open PySem.SeqAt renaming EqAt->Ur,shaped->nD
open PySem.F renaming slot_tuple_add->Z0,entry_tuple_add->ZV,args_tuple_add_2->ZQ,slot_list_append->aaf,slot_list_pop->ajk,slot_dict_get->Z3,entry_dict_get->ahZ,args_dict_get_3->ahV,slot_dict_iter->ai5,slot_dict_keyiterator_next->Ra,entry_dict_keyiterator_next->ahG,args_dict_keyiterator_next_1->ahF,plain_proto_collect->ahJ,plain_list_iadd->Ri,fills_int_mul->aaT,slot_int_rmul->Ho,entry_int_rmul->aaG,args_int_rmul_2->aar,slot_tuple_mul->aaH,entry_tuple_mul->aas,args_tuple_mul_2->aah,plain_set_new->ah9,slot_set_iter->ajp,plain_extend_loop->ahS,entry_max_loop->G8,plain_max_loop->rT,kind_max->ajc,plain_max->aiO,entry_max->aiP,plainAttrs_list->ZX,type_list_append->ahU,slot_tuple_iterator_next->Rf,entry_tuple_iterator_next->ahL,args_tuple_iterator_next_1->ahI,slot_zip_next->R8,entry_zip_next->ajf,args_zip_next_1->aiS
open Int renaming toNat_natCast->Dz,ediv_one->aka,natCast_mul->ajn,toNat_of_nonneg->aac,le_refl->Br,emod_nonneg->Sq,emod_lt_of_pos->Rq,eq_ofNat_of_zero_le->Rj,zero_add->akF
open PySem.Builtin.Slice renaming sliceAdjust->ZK,slicePlaces->Rg,slicePartIndex->avw,sliceApplied->ahN,sliceFields->avL
open PySem.Str renaming ofString->bI
open PySem.Builtin.Tuple renaming tupleItemsOf->ahO,tupleExact->KJ,tupleCompareSizes->avt,tupleIsExact->avy,tupleTooMany->ZJ
open PySem.Heap.IsSliceOf renaming new->av8
open PySem.Obj renaming mapSeq->o9,mapFields->abn,isFreed_of_fields->Z5,data_mapFields->Hg,cls_mapFields->aaq,putSet->Uy
open List.Pairwise renaming nil->uO,filterMap->av4,imp->aaw,of_map->av7,and_mem->av6
open PySem.Data renaming seq->adl
open Or renaming inl->Cd,inr->ym
open PySem.NameKind renaming free->sE,cell->Te
open ForInStep renaming yield->ajm
open PySem.Code renaming compLoop->Hz
open PySem.Builtin.Str renaming tooLong->avM,strSliceIndices->KH
open PySem.Walks renaming list->Uv
open PySem.PyData renaming hasDict->Hq,hasDictAll->aan,shown->HF,showable->RV,noDict_hsm->aiG,int->pA,str->gh,eqv->Ik,tuple->HH,depth->Mm,showableAll->aai,depthAll->Bb,shownAll->Ln,strOk->Tz,canLayAll0->K7,canLay0->ajA,bool->abU
open PySem.WalksT renaming zip2->akQ
open List.Perm renaming refl->xK,of_eq->aaR,swap->Sv,append_left->aib
open List.cons renaming inj->sG,injEq->aaV
open PySem.Heap.SameBut renaming update->rW,refl->aau
open PySem.Builtin.Dict renaming dictSlotNone->avN,showsAll->ah8
open PySem.Builtin.Dict_items renaming ownsTuple->ahH
open PySem.Around renaming under_plainId->tW
open PySem.Builtin.List renaming listExtendWith->Rb,listLengthHint->ahK,listSameRef->ZR
open PySem.AutoSeq1 renaming sub_tuple_tuple->ahT
open PySem.SetTable.below renaming go->K6
open PySem.SetTable renaming below->lK,has->akk,slot->ajR,grown->DW
open PySem.SetTable.probe renaming go->aat
open PySem.SetTable.Met.empty renaming injEq->av0
open Prod.mk renaming injEq->ajS
open PyProof.Rows.F renaming entry_set_update_loop->ahD,plain_set_update_loop->ZF
open PySem.Builtin.Frozenset renaming newClass->avz,updateFrom->avx,slot0->av5,sizeOf->av1,oneOther->avA,addrOf->av2
open PySem.Shared renaming TypeIs->ajT,heap->akX
open PySem.pickOrder renaming go->abz
open PySem.Bind renaming checkArgs->ajx
open PySem.Builtin.Builtins renaming bindParams->Rc
open List.Sublist renaming refl->rY,append->KY
open Prod renaming snd->N7
open PySem.Builtin.SmallTypes renaming nextOf->Du,ownedTupleIsFree->Q7,ownedTupleHandOut->ahE
open PySem.Heap.IsTuple renaming push->av9
open PySem.StrLaws renaming seqIndex_nonneg->avv
open PySem.PassesOwn renaming never->qm
theorem bC{c:Prop}[i:Decidable c](h:c){α:Sort _}{t e:α}:ite c t e=t:=if_pos h
theorem bB{c:Prop}[i:Decidable c](h:¬c){α:Sort _}{t e:α}:ite c t e=e:=if_neg h
theorem dW{p:Prop}[i:Decidable p](h:p):decide p=true:=decide_eq_true h
theorem jy{p:Prop}[i:Decidable p](h:¬p):decide p=false:=decide_eq_false h
noncomputable section
theorem bL{p:Prop}(h:p:=by decide +kernel):p:=h
theorem bA{p:Prop}(h:p:=by decide):p:=h
theorem az{p:Prop}(h:p:=by lia):p:=h
theorem bF{p:Prop}(h:p:=by simp):p:=h
theorem eqT{p:Prop}(h:p:=by lia):p=True:=eq_true h
namespace L2
open PySem PySem.Spec PyProof.Rows
abbrev Key:=Sum Int Str
def Gj:Key->aL->Bool
 |.inl k,v=>abI k v
 |.inr x,v=>abk x v
def asT(w:dD):Key->Int
 |.inl k=>hashInt k
 |.inr x=>hashStr w x
theorem uT:∀{k:Key}{v:aL},Gj k v=aq->(∃i t,k=Ff i/\v=zJ i t)\/(∃x t,k=uY x/\v=M6 x t)
 |.inl i,v,h=>by
  obtain⟨t,e⟩:=aiA (k:=i) (v:=v) h
  exact .inl ⟨i,t,rfl,e⟩
 |.inr x,v,h=>by
  obtain⟨t,e⟩:=ain (x:=x) (v:=v) h
  exact .inr ⟨x,t,rfl,e⟩
theorem al1(i:Int)(t:Tok):Gj (.inl i) (.int i t)=aq:=by simp[Gj,abI]
theorem al2(x:Str)(t:Tok):Gj (.inr x) (.str x t)=aq:=by simp[Gj,abk]
theorem aqi(a b:Int):decide ((Ff a:Key)=Ff b)=(a==b):=by
 by_cases e:a=b
 .subst e;simp
 .have h:¬(Ff a:Key)=Ff b:=λq=>e (Sum.inl.inj q)
  rw[jy h]
  exact(beq_eq_false_iff_ne.mpr e).symm
theorem aqj(a b:Str):decide ((uY a:Key)=uY b)=decide (a=b):=by
 by_cases e:a=b
 .subst e;simp
 .have h:¬(uY a:Key)=uY b:=λq=>e (Ua q)
  rw[jy h,jy e]
theorem aqk(a:Int)(b:Str):decide ((Ff a:Key)=uY b)=aA:=jy (λq=>nomatch q)
theorem aql(a:Str)(b:Int):decide ((uY a:Key)=Ff b)=aA:=jy (λq=>nomatch q)
def ou(prog:fV)(w:dD):Bg prog w Key where
 is:=Gj
 hash:=asT w
 inj:=λv a b ha hb=>by
  rcases uT ha with⟨i,t,rfl,rfl⟩|⟨x,t,rfl,rfl⟩
  .rcases uT hb with⟨j,u,rfl,e⟩|⟨y,u,rfl,e⟩
   .injection e with e1 _;rw[e1]
   .exact nomatch e
  .rcases uT hb with⟨j,u,rfl,e⟩|⟨y,u,rfl,e⟩
   .exact nomatch e
   .injection e with e1 _;rw[e1]
 byValue:=λk v h=>by
  rcases uT h with⟨i,t,rfl,rfl⟩|⟨x,t,rfl,rfl⟩<;>rfl
 pyHash:=λhv h=>by
  rcases uT hv with⟨i,t,rfl,rfl⟩|⟨x,t,rfl,rfl⟩
  .exact wpAny_pyHash_int h
  .exact wpAny_pyHash_str h
 eqBool:=λhu hv h=>by
  rcases uT hu with⟨i,t,rfl,rfl⟩|⟨x,t,rfl,rfl⟩
  .rcases uT hv with⟨j,u,rfl,rfl⟩|⟨y,u,rfl,rfl⟩
   .rw[aqi] at h;exact wpAny_eqBool_int h
   .rw[aqk] at h;exact ais i t y u _ _ _ _ h
  .rcases uT hv with⟨j,u,rfl,rfl⟩|⟨y,u,rfl,rfl⟩
   .rw[aql] at h;exact ait x t j u _ _ _ _ h
   .rw[aqj] at h;exact wpAny_eqBool_str h
 «strs»:=λk x t v h=>by
  rcases uT h with⟨i,u,rfl,e⟩|⟨y,u,rfl,e⟩
  .exact nomatch e
  .injection e with e1 _
   subst e1;cases v<;>rfl
theorem akL(prog:fV)(w:dD)(i:Int)(t:Tok):(ou prog w).is (.inl i) (.int i t)=aq:=al1 i t
theorem akM(prog:fV)(w:dD)(x:Str)(t:Tok):(ou prog w).is (.inr x) (.str x t)=aq:=al2 x t
inductive V where
 |non|bl (b:Bool)|int (i:Int)|str (x:Str)|tQ (b:Array UInt8)|flt (b:UInt64)|ref (a:aH)|ty (n:String)
 deriving DecidableEq
def RelV:V->aL->Prop
 |.non,u=>u=j6
 |.bl b,u=>u=uU b
 |.int i,u=>∃t,u=zJ i t
 |.str x,u=>∃t,u=M6 x t
 |.tQ b,u=>∃t,u=Value.bytes b t
 |.flt b,u=>∃t,u=abJ b t
 |.ref a,u=>u=dJ a
 |.ty n,u=>u=xT n
abbrev Vals:List V->List aL->Prop:=Paired RelV
theorem Vals.length(r:Vals xs us):xs.length=us.length:=Paired.length r
theorem Vals.get:∀{xs:List V}{us:List aL}{i:Nat}{x:V},Vals xs us->xs[i]?=aa x->∃u,us[i]?=aa u/\RelV x u
 |_,_,_,_,.nil,e=>by simp at e
 |_,_,0,_,.cons r _,e=>by simp at e;subst e;exact⟨_,rfl,r⟩
 |_,_,i+1,x,.cons _ t,e=>by
  obtain⟨u,h1,h2⟩:=Vals.get (i:=i) (x:=x) t (by simpa using e)
  exact⟨u,by simpa using h1,h2⟩
theorem Vals.set(r:RelV x u):∀{xs:List V}{us:List aL}(i:Nat),Vals xs us->Vals (xs.set i x) (us.set i u)
 |_,_,_,.nil=>.nil
 |_,_,0,.cons _ t=>.cons r t
 |_,_,i+1,.cons q t=>.cons q (Vals.set r i t)
theorem Vals.append:∀{xs ys:List V}{us ws:List aL},Vals xs us->Vals ys ws->Vals (xs++ys) (us++ws)
 |_,_,_,_,.nil,s=>s
 |_,_,_,_,.cons r t,s=>.cons r (Vals.append t s)
theorem Vals.take:∀{xs:List V}{us:List aL}(n:Nat),Vals xs us->Vals (xs.take n) (us.take n)
 |_,_,0,_=>.nil
 |_,_,_+1,.nil=>.nil
 |_,_,n+1,.cons r t=>.cons r (Vals.take n t)
theorem Vals.drop:∀{xs:List V}{us:List aL}(n:Nat),Vals xs us->Vals (xs.drop n) (us.drop n)
 |_,_,0,r=>r
 |_,_,_+1,.nil=>.nil
 |_,_,n+1,.cons _ t=>Vals.drop n t
def tK:Option V->Option aL->Prop
 |some v,some u=>RelV v u
 |none,none=>True
 |_,_=>False
def KV{κ:Type}:List (κ×V)->List (κ×aL)->Prop:=Paired λ(p:κ×V)(q:κ×aL)=>p.1=q.1/\RelV p.2 q.2
def kV:Key->V
 |.inl i=>.int i
 |.inr x=>.str x
inductive HO where
 |lst (xs:List V)
 |tup (xs:List V)
 |dK (aC:List (Key×V)) (ep:Nat)|dT (aC:List (List Key×V)) (ep:Nat)
 |set (S:Int->Bool) (n:Nat)
 |ins (C dx:aH) (fs:List (Str×V))
 |own (x:aH)
 |xd (fs:List (Str×V))
 |met (f x:aH)
 |YQ (lo hi:Int)
 |qb (o:Obj) (u:HO)
 |Di (ps:Array aL)
 |ext (φ:cu->Prop)
abbrev Hp:=aH->Option HO
def upd(H:Hp)(a:aH)(o:HO):Hp:=λb=>if b=a then aa o else H b
theorem gV:upd H a o a=aa o:=by unfold upd;rw[bC rfl]
theorem fD(h:b≠a):upd H a o b=H b:=by unfold upd;rw[bB h]
theorem aeh:upd (upd H a o) a u=upd H a u:=by
 funext b;unfold upd;split<;>rfl
theorem X3{H:Hp}(h:H a=aa o)(h':H b=aa u)(d:o≠u):a≠b:=by
 intro e;subst e;rw[h] at h';exact d (jj h')
theorem ue{H:Hp}(h:H a=aa o)(h':H b=ao):a≠b:=by
 intro e;subst e;rw[h] at h';cases h'
section
variable(P:fV)(w:dD)
def gn(H:Hp)(h:cu)(a:aH):HO->Prop
 |.lst xs=>xs.length<=cH/\∃(aK:List aL)(n:Nat),Vals xs aK/\h.get? a=aa {cls:=.type "list",data:=.seq aK.toArray n}
 |.tup xs=>xs.length<=cH/\∃aK:List aL,Vals xs aK/\IsTup h a aK.toArray
 |.dK aC ep=>aC.length<=cH/\(a==sO)=aA/\∃vs,KV aC vs/\h.DictAt (ou P w) a vs ep
 |.dT aC ep=>aC.length<=cH/\(a==sO)=aA/\∃xs:List (List Key×aH×aL),
   Paired (λ(p:List Key×V)(q:List Key×aH×aL)=>p.1=q.1/\H q.2.1=aa (.tup (p.1.map kV))/\RelV p.2 q.2.2) aC xs/\
   ∃o es,h.get? a=aa o/\o.ExactDict/\o.data=.dict es ep/\es.toList=xs.map (entryOfKey (Ip (ou P w)))/\(xs.map (·.1)).Nodup
 |.set S n=>h.SetOf (intKind P w) a S n
 |.ins C dx fs=>H dx=aa (.own a)/\fs.length<=1000/\dx≠a/\h.get? a=aa (aaN C dx)/\
   ∃mA,h.Ns1 dx mA/\(∀f,tK (fs.lookup f) (mA f))/\aj8 mA (fs.map (·.1))
 |.own _=>∃o,h.get? a=aa o
 |.xd fs=>∃mA,h.Ns1 a mA/\∀f,tK (fs.lookup f) (mA f)
 |.YQ lo hi=>∃t u v,h.get? a=aa {cls:=.type "range",data:=.fields #[.int lo t,.int hi u,.int 1 v]}
 |.qb o u=>h.get? a=aa o/\gn H h a u
 |.Di ps=>h.get? a=aa {cls:=.none,data:=.fields ps}
 |.met f x=>h.get? a=aa (aal (.ref f) (.ref x))
 |.ext φ=>φ h/\(∃o,h.get? a=aa o)/\∀h1 h2:cu,φ h1->(∀o,h1.get? a=aa o->h2.get? a=aa o)->φ h2
def jM(H:Hp)(h:cu):Prop:=∀a o,H a=aa o->gn P w H h a o
end
section
variable{H H':Hp}{a:aH}{o:HO}
theorem gn.lt(x:gn P w H h a o):a<h.objs.size:=by
 cases o with
 |lst xs=>obtain⟨_,_,_,_,e⟩:=x;exact cL e
 |tup xs=>obtain⟨_,_,_,p⟩:=x;exact p.lt
 |dK aC ep=>obtain⟨_,_,_,_,o,_,e,_⟩:=x;exact cL e
 |dT aC ep=>obtain⟨_,_,_,_,o,_,e,_⟩:=x;exact cL e
 |set S n=>obtain⟨o,_,_,_,e,_⟩:=x;exact cL e
 |ins C dx fs=>obtain⟨_,_,_,e,_⟩:=x;exact cL e
 |own y=>obtain⟨_,e⟩:=x;exact cL e
 |xd fs=>obtain⟨_,⟨_,_,_,e,_⟩,_⟩:=x;exact cL e
 |YQ lo hi=>obtain⟨_,_,_,e⟩:=x;exact cL e
 |qb ob u=>obtain⟨e,_⟩:=x;exact cL e
 |Di ps=>exact cL (show h.get? a=aa _ from x)
 |met f y=>exact cL (show h.get? a=aa _ from x)
 |ext φ=>obtain⟨_,⟨_,e⟩,_⟩:=x;exact cL e
theorem Paired.Yn:∀{l₁:List α}{l₂:List β},Paired F l₁ l₂->(∀a b,F a b->G a b)->Paired G l₁ l₂
 |_,_,.nil,_=>.nil
 |_,_,.cons r t,f=>.cons (f _ _ r) (Paired.Yn t f)
theorem gn.stay(x:gn P w H h a o)(k:∀b u,(b=a\/H b=aa (.own a))->h.get? b=aa u->h'.get? b=aa u)
  (ho:∀b,H b=aa (.own a)->H' b=aa (.own a))(ht:∀b xs,H b=aa (.tup xs)->H' b=aa (.tup xs)):gn P w H' h' a o:=by
 induction o with
 |lst xs=>obtain⟨z,aK,n,r,e⟩:=x;exact⟨z,aK,n,r,k _ _ (.inl rfl) e⟩
 |tup xs=>obtain⟨z,aK,r,ob,e,c⟩:=x;exact⟨z,aK,r,ob,k _ _ (.inl rfl) e,c⟩
 |dK aC ep=>obtain⟨z,y,vs,r,ob,es,e,c⟩:=x;exact⟨z,y,vs,r,ob,es,k _ _ (.inl rfl) e,c⟩
 |dT aC ep=>
  obtain⟨z,y,xs,r,ob,es,e,c⟩:=x
  exact⟨z,y,xs,Paired.Yn r λp q z=>⟨z.1,ht _ _ z.2.1,z.2.2⟩,ob,es,k _ _ (.inl rfl) e,c⟩
 |set S n=>obtain⟨ob,es,ep,t,e,c⟩:=x;exact⟨ob,es,ep,t,k _ _ (.inl rfl) e,c⟩
 |ins C dx fs=>
  obtain⟨d,z,ne,e,mA,⟨od,es,ep,e2,c⟩,r⟩:=x
  exact⟨ho _ d,z,ne,k _ _ (.inl rfl) e,mA,⟨od,es,ep,k _ _ (.inr d) e2,c⟩,r⟩
 |own y=>obtain⟨ob,e⟩:=x;exact⟨ob,k _ _ (.inl rfl) e⟩
 |xd fs=>obtain⟨mA,⟨od,es,ep,e,c⟩,r⟩:=x;exact⟨mA,⟨od,es,ep,k _ _ (.inl rfl) e,c⟩,r⟩
 |YQ lo hi=>obtain⟨t,u,v,e⟩:=x;exact⟨t,u,v,k _ _ (.inl rfl) e⟩
 |qb ob u ih=>obtain⟨e,q⟩:=x;exact⟨k _ _ (.inl rfl) e,ih q⟩
 |Di ps=>
  have e:h.get? a=aa {cls:=.none,data:=.fields ps}:=x;show h'.get? a=aa {cls:=.none,data:=.fields ps};exact k a _ (.inl rfl) e
 |met f y=>
  have e:h.get? a=aa (aal (.ref f) (.ref y)):=x;show h'.get? a=aa (aal (.ref f) (.ref y));exact k a _ (.inl rfl) e
 |ext φ=>obtain⟨p,⟨o,e⟩,st⟩:=x;exact⟨st _ _ p λo q=>k _ _ (.inl rfl) q,⟨o,k _ _ (.inl rfl) e⟩,st⟩
theorem jM.lt(x:jM P w H h)(e:H a=aa o):a<h.objs.size:=(x a o e).lt
theorem jM.fresh(x:jM P w H h)(e:h.objs.size<=a):H a=ao:=by
 cases q:H a with
 |none=>rfl
 |some u=>exact absurd (pQ (x.lt q) e) (Bh _)
theorem jM.kept(x:jM P w H h)(k:∀b u,h.get? b=aa u->h'.get? b=aa u):jM P w H h':=λa o e=>
 (x a o e).stay (λb u _ q=>k b u q) (λ_ q=>q) λ_ _ q=>q
theorem jM.laid(x:jM P w H h)(k:∀b u,h.get? b=aa u->h'.get? b=aa u)(hp:h.objs.size<=a)(new:gn P w (upd H a o) h' a o):jM P w (upd H a o) h':=λb u e=>by
 have hn:=x.fresh hp;by_cases hb:b=a
 .subst hb;rw[gV] at e;cases e;exact new
 .rw[fD hb] at e
  exact(x b u e).stay (λc v _ q=>k c v q) (λc q=>by rw[fD (ue q hn)];exact q) λc xs q=>by rw[fD (ue q hn)];exact q
end
def Rd(H:Hp)(a:aH)(u:HO):Prop:=H a=aa u\/∃o,H a=aa (.qb o u)
theorem Rd.ok(r:Rd H a u)(x:jM P w H h):gn P w H h a u:=by
 rcases r with r|⟨o,r⟩
 .exact x a u r
 .obtain⟨_,q⟩:=x a _ r
  exact q
def JV:Option HO->Prop
 |some (.lst _)=>True
 |some (.dK _ _)=>True
 |some (.dT _ _)=>True
 |some (.set _ _)=>True
 |some (.ins _ _ _)=>True
 |some (.ext _)=>True
 |_=>False
section
variable{P:fV}{w:dD}{H:Hp}{h h':cu}{x e:aH}{o':HO}
theorem jM.write(ok:jM P w H h)(mu:JV (H x))(he:e=x\/H e=aa (.own x))(k:∀b u,b≠e->h.get? b=aa u->h'.get? b=aa u)(heo:∃u,h'.get? e=aa u)
  (new:gn P w (upd H x o') h' x o'):jM P w (upd H x o') h':=λb u q=>by
 have agu:∀c y,H c=aa (.own y)->c≠x:=λc y r z=>by subst z;rw[r] at mu;exact mu
 have asU:∀c xs,H c=aa (.tup xs)->c≠x:=λc xs r z=>by subst z;rw[r] at mu;exact mu
 by_cases hb:b=x
 .subst hb;rw[gV] at q;cases q;exact new
 .rw[fD hb] at q;by_cases hbe:b=e
  .have q':H b=aa (.own x):=by
    rcases he with z|z
    .exact absurd (hbe.trans z) hb
    .rw[hbe];exact z
   rw[q] at q';cases q'
   obtain⟨v,hv⟩:=heo
   exact⟨v,by rw[hbe];exact hv⟩
  .refine(ok b u q).stay (λc v hc r=>k c v ?_ r) (λc r=>by rw[fD (agu c b r)];exact r) λc xs r=>by rw[fD (asU c xs r)];exact r
   rcases hc with rfl|hc
   .exact hbe
   .rintro rfl;rcases he with z|z
    .exact agu c b hc z
    .rw[hc] at z;cases z;exact hb rfl
end
structure Un(fs ex:List aH)(H H':Hp)(h h':cu):Prop where
 keep:∀b o,h.get? b=aa o->H b=ao->b∉fs->b∉ex->h'.get? b=aa o
 slot:∀b o,h.get? b=aa o->H b=ao->b∈fs->b∉ex->∃sl,h'.get? b=aa {o with slots:=sl}
 free:∀b o,h.get? b=aa o->H b=ao->b∉ex->H' b=ao
 there:∀b o,h.get? b=aa o->b∉ex->∃o',h'.get? b=aa o'
 tups:∀b xs,H b=aa (.tup xs)->H' b=aa (.tup xs)
 yH:∀b o u,H b=aa (.qb o u)->H' b=aa (.qb o u)
 Ae:∀b ps,H b=aa (.Di ps)->∃more,H' b=aa (.Di (ps++more))
section
variable{h h1 h2 h':cu}{a x e:aH}{o:HO}
theorem Un.any(u:Un fs ex H H1 h h1)(q:h.get? b=aa ob)(n:H b=ao)(hx:b∉ex):∃sl,h1.get? b=aa {ob with slots:=sl}:=by
 by_cases hb:b∈fs
 .exact u.slot b ob q n hb hx
 .exact⟨ob.slots,u.keep b ob q n hb hx⟩
theorem Un.kept(k:∀b u,h.get? b=aa u->h'.get? b=aa u):Un fs ex H H h h':=
 ⟨λb ob q _ _ _=>k b ob q,λb ob q _ _ _=>⟨ob.slots,k b ob q⟩,λ_ _ _ n _=>n,λb ob q _=>⟨ob,k b ob q⟩,λ_ _ q=>q,λ_ _ _ q=>q,λ_ ps q=>⟨#[],by rw[q];simp⟩⟩
theorem Un.refl:Un fs ex H H h h:=Un.kept λ_ _ q=>q
theorem Un.laid(k:∀b u,h.get? b=aa u->h'.get? b=aa u)(hp:h.objs.size<=a)(hn:H a=ao):Un fs ex H (upd H a o) h h' where
 keep:=λb u q _ _ _=>k b u q
 slot:=λb u q _ _ _=>⟨u.slots,k b u q⟩
 free:=λb u q n _=>by rw[fD (gj (pQ (cL q) hp))];exact n
 there:=λb u q _=>⟨u,k b u q⟩
 tups:=λb xs q=>by rw[fD (ue q hn)];exact q
 yH:=λb u xs q=>by rw[fD (ue q hn)];exact q
 Ae:=λb ps q=>⟨#[],by rw[fD (ue q hn),q];simp⟩
theorem Un.write(mu:JV (H x))(he:e=x\/H e=aa (.own x))(k:∀b u,b≠e->h.get? b=aa u->h'.get? b=aa u)(heo:∃u,h'.get? e=aa u):Un fs ex H (upd H x o) h h':=by
 have hx:∀b,H b=ao->b≠x:=λb n z=>by subst z;rw[n] at mu;exact mu
 have hb:∀b,H b=ao->b≠e:=λb n z=>by
  subst z;rcases he with r|r
  .exact hx b n r
  .rw[n] at r;cases r
 have hm:∀b u,H b=aa u->¬JV (aa u)->b≠x:=λb u q nm z=>by subst z;rw[q] at mu;exact nm mu
 refine⟨λb u q n _ _=>k b u (hb b n) q,λb u q n _ _=>⟨u.slots,k b u (hb b n) q⟩,λb u q n _=>by rw[fD (hx b n)];exact n,λb u q _=>?_,
  λb xs q=>by rw[fD (hm b _ q λz=>z)];exact q,λb u xs q=>by rw[fD (hm b _ q λz=>z)];exact q,λb ps q=>⟨#[],by rw[fD (hm b _ q λz=>z),q];simp⟩⟩
 by_cases hbe:b=e
 .subst hbe;exact heo
 .exact⟨u,k b u hbe q⟩
end
def QJ(h:cu)(H:Hp):List aH:=(dh h.objs.size).filter λa=>(H a).isSome
def yI(h:cu)(H:Hp):cu:=PySem.W.hideAll h (QJ h H)
theorem al3(h:cu)(H:Hp):(yI h H).objs.size=h.objs.size:=PySem.W.hideAll_size _ _
theorem ane(e:h.get? b=aa o)(n:H b=ao):(yI h H).get? b=aa o:=
 PySem.W.hideAll_get _ e λhm=>by
  have q:(H b).isSome=aq:=(o7.mp hm).2;rw[n] at q;simp at q
theorem aoE(e:(yI h H).get? b=aa o):h.get? b=aa o/\H b=ao:=by
 have e':h.get? b=aa o:=PySem.W.of_hideAll (QJ h H) e
 refine⟨e',?_⟩
 cases q:H b with
 |none=>rfl
 |some x=>
  have hm:b∈QJ h H:=o7.mpr ⟨qZ.mpr (cL e'),by simp[q]⟩;have z:(yI h H).get? b=ao:=PySem.W.hideAll_none (QJ h H) hm;rw[z] at e;cases e
def aoF(g h:cu)(L:aH):List (aH×Obj):=(dh h.objs.size).filterMap λa=>if a=L\/(g.get? a).isSome=aq then ao else(h.get? a).map λo=>(a,o)
def rest(g h:cu)(L d:aH):List (aH×Obj):=(aoF g h L).filter λp=>decide (p.1≠d)
structure Mod(K:bw)(mg:Str->Option aL)(base:cu):Prop where
 YS:K.In base
 glob:base.Ns iw mg
 blt:∃mb,base.Ns builtinsNs mb/\∀x:Str,x≠"__name__"->mb x=uQ x
 nolimit:base.NoLimit
structure Cx where
 prog:fV
 w:dD
 K:bw
 mg:Str->Option aL
 base:cu
 A:iz
 N:List Str
 s₀:aZ
 H₀:Hp
 env:Env
 outer:List Env
 stack:List Env
 ex:List aH
 fn:Str->Bool
 calm:Bool
 pn:List (aH×Obj)
 xe:aL->aZ->Prop
def frs(l:List Env):List aH:=l.filterMap (·.frame)
abbrev Cx.fs(X:Cx):List aH:=frs X.outer
def JW(sc:kW)(x:Str):Prop:=sc.names.lookup x=aa .local\/sc.names.lookup x=aa .cell\/sc.names.lookup x=aa .free
def Loc(sc:kW)(x:Str):Prop:=sc.names.lookup x=aa .local\/sc.names.lookup x=aa .cell
def Look(aj:Env)(h:cu)(m:Str->Option aL)(x:Str)(u:aL):Prop:=
 (aj.kindOf x=aa .local/\m x=aa u)\/((aj.kindOf x=aa .cell\/aj.kindOf x=aa .free)/\∃c,aj.cells.lookup x=aa c/\h.IsCell c (aa u))
structure Cx.Ok(X:Cx):Prop where
 mod:Mod X.K X.mg X.base
 kind:X.env.scope.kind=.function
 glob:X.env.globals=iw
 blt:X.env.builtins=builtinsNs
 above:X.s₀.heap.objs.size<=X.env.locals
 inj:∀x y c,X.env.cells.lookup x=aa c->X.env.cells.lookup y=aa c->x=y
 has:∀x,(X.env.kindOf x=aa .cell\/X.env.kindOf x=aa .free)->∃c,X.env.cells.lookup x=aa c
 cab:∀x c,X.fn x=aq->X.env.cells.lookup x=aa c->X.s₀.heap.objs.size<=c
 hd:X.calm=aq->X.A.handled=ao
 frames:X.A.frames=aa X.stack
 stk:X.stack=X.outer\/(X.stack=X.env::X.outer/\X.env.frame=aa X.env.locals)
 exf:∀b∈X.ex,b≠X.env.locals/\∀x c,X.env.cells.lookup x=aa c->c≠b
 bs:∀b o,X.base.get? b=aa o->X.s₀.heap.get? b=aa o/\X.H₀ b=ao
 Ai:X.base.objs.size<=X.s₀.heap.objs.size
 JK:∀b o,X.base.get? b=aa o->b∉X.ex
 Qt:∀b∈X.ex,b∉X.fs
 vp:X.s₀.heap.FunFrames X.base X.outer
 GJ:∀b∈X.fs,X.H₀ b=ao
structure Inv(X:Cx)(au:List (aH×Obj))(σ:List (Option V))(H:Hp)(s:aZ):Prop where
 ok:X.Ok
 os:s.os=X.s₀.os
 bare:AllBare s.gens
 base:Un X.fs X.ex X.H₀ H X.s₀.heap s.heap
 loc:∃m,s.heap.Ns X.env.locals m/\∀(i:Nat)(x:Str)(v:V),X.N[i]?=aa x->σ[i]?=aa (aa v)->JW X.env.scope x->∃u,RelV v u/\Look X.env s.heap m x u
 cell:∀x c,X.env.cells.lookup x=aa c->∃v,s.heap.IsCell c v
 free:H X.env.locals=ao
 vg:∀x c,X.env.cells.lookup x=aa c->H c=ao
 pin:∀p∈X.pn++au,s.heap.get? p.1=aa p.2/\H p.1=ao/\p.1≠X.env.locals/\p.1∉X.fs/\∀v,p.2.data≠.cell v
 hok:jM X.prog X.w H s.heap
 len:σ.length=X.N.length
section
variable{X:Cx}{H H':Hp}{h':cu}
theorem Cx.Ok.asV(ok:X.Ok)(e:X.base.get? b=aa o):b∉X.fs:=λhb=>by
 have:=(ok.vp.mem hb).1;rw[e] at this;cases this
theorem Inv.bs(I:Inv X au σ H s):∀b o,X.base.get? b=aa o->s.heap.get? b=aa o/\H b=ao:=λb o e=>
 ⟨I.base.keep b o (I.ok.bs b o e).1 (I.ok.bs b o e).2 (I.ok.asV e) (I.ok.JK b o e),I.base.free b o (I.ok.bs b o e).1 (I.ok.bs b o e).2 (I.ok.JK b o e)⟩
theorem Inv.bk(I:Inv X au σ H s):∀b o,X.base.get? b=aa o->s.heap.get? b=aa o:=λb o e=>(I.bs b o e).1
theorem Inv.mod(I:Inv X au σ H s):Mod X.K X.mg X.base:=I.ok.mod
theorem Inv.jY(I:Inv X au σ H s):X.K.In s.heap:=I.ok.mod.YS.keeps I.bk
theorem Inv.lt(I:Inv X au σ H s):X.env.locals<s.heap.objs.size:=let ⟨_,hn,_⟩:=I.loc;hn.lt
theorem Inv.sz(I:Inv X au σ H s):X.s₀.heap.objs.size<=s.heap.objs.size:=kI I.ok.above (Ea I.lt)
theorem Inv.asW(I:Inv X au σ H s){a:aH}(h:s.heap.objs.size<=a):a∉X.fs:=λhb=>by
 obtain⟨_,o,ho,_⟩:=I.ok.vp.mem hb
 exact absurd (pQ (cL ho) (kI I.sz h)) (Bh _)
theorem Inv.Dj(I:Inv X au σ H s):∀x c,X.env.cells.lookup x=aa c->c≠X.env.locals:=λx c e z=>by
 obtain⟨v,o,ho,hd⟩:=I.cell x c e
 obtain⟨m,⟨o',es,ep,ho',hd',_⟩,_⟩:=I.loc
 rw[z,ho'] at ho;cases ho;rw[hd'] at hd;cases hd
theorem Inv.vp(I:Inv X au σ H s):s.heap.FunFrames X.base X.outer:=by
 have all:∀(l:List Env),(∀b∈frs l,b∈X.fs)->X.s₀.heap.FunFrames X.base l->s.heap.FunFrames X.base l:=by
  intro l;induction l with
  |nil=>intro _ _;trivial
  |cons aj r ih=>
   intro hs hl
   obtain⟨hk,⟨L,o,hf,hn,ho,hd⟩,hr⟩:=hl
   have hL:L∈X.fs:=hs L (by unfold frs;rw[aab,hf];exact eV)
   obtain⟨sl,e⟩:=I.base.slot L o ho (I.ok.GJ L hL) hL λz=>I.ok.Qt L z hL
   exact⟨hk,⟨L,_,hf,hn,e,hd⟩,ih (λb hb=>hs b (by unfold frs;rw[aab,hf];exact fQ _ hb)) hr⟩
 exact all X.outer (λ_ hb=>hb) I.ok.vp
theorem Inv.stack(I:Inv X au σ H s):s.heap.FunFrames X.base X.stack:=by
 rcases I.ok.stk with e|⟨e,hf⟩
 .rw[e];exact I.vp
 .rw[e]
  obtain⟨m,hn,_⟩:=I.loc
  refine .cons (by rw[I.ok.kind];decide) hf hn ?_ I.vp;exact Heap.get?_none_of_le (kI I.ok.Ai I.ok.above)
theorem Inv.FJ(I:Inv X au σ H s):∀b∈frs X.stack,b∈X.env.locals::X.fs:=λb hb=>by
 rcases I.ok.stk with e|⟨e,hf⟩
 .rw[e] at hb;exact fQ _ hb
 .rw[e] at hb;unfold frs at hb;rw[aab,hf] at hb;exact hb
theorem Inv.aei(I:Inv X au σ H s):∀b∈frs X.stack,H b=ao:=λb hb=>by
 rcases cg.mp (I.FJ b hb) with e|hb
 .rw[e];exact I.free
 .obtain⟨_,o,ho,_⟩:=I.ok.vp.mem hb
  exact I.base.free b o ho (I.ok.GJ b hb) λz=>I.ok.Qt b z hb
theorem Inv.step{g':Array GenState}{t':Nat}{d':Drawn}{ch:List aH}(I:Inv X au σ H s)
  (hch:∀b∈ch,(b∈X.ex\/X.s₀.heap.objs.size<=b)/\b≠X.env.locals/\(∀x c,X.env.cells.lookup x=aa c->c≠b)/\∀p∈X.pn++au,p.1≠b)
  (keep:∀b o,b≠X.env.locals->b∉X.fs->b∉ch->s.heap.get? b=aa o->H b=ao->h'.get? b=aa o)
  (slot:∀b o,b≠X.env.locals->b∈X.fs->b∉ch->s.heap.get? b=aa o->H b=ao->∃sl,h'.get? b=aa {o with slots:=sl})(free:∀b o,b∉ch->s.heap.get? b=aa o->H b=ao->H' b=ao)
  (there:∀b o,b∉ch->s.heap.get? b=aa o->∃o',h'.get? b=aa o')
  (tups:∀b xs,H b=aa (.tup xs)->H' b=aa (.tup xs))(yH:∀b o u,H b=aa (.qb o u)->H' b=aa (.qb o u))(Ae:∀b ps,H b=aa (.Di ps)->∃more,H' b=aa (.Di (ps++more)))
  (ns:∀m,s.heap.Ns X.env.locals m->h'.Ns X.env.locals m)(hok:jM X.prog X.w H' h')(hg:AllBare g'):
  Inv X au σ H' {s with heap:=h',gens:=g',drawn:=d',toks:=t'}:=by
 have neL:∀b o,X.s₀.heap.get? b=aa o->b≠X.env.locals:=λb o e=>gj (pQ (cL e) I.ok.above)
 have QK:∀b o,X.s₀.heap.get? b=aa o->b∉X.ex->b∉ch:=λb o e hx hb=>by
  rcases(hch b hb).1 with z|z
  .exact hx z
  .exact absurd (pQ (cL e) z) (Bh _)
 have cellK:∀x c,X.env.cells.lookup x=aa c->∀v,s.heap.IsCell c v->h'.IsCell c v:=λx c e v aY=>by
  obtain⟨o,ho,hd⟩:=aY
  have JX:c∉ch:=λz=>(hch c z).2.2.1 x c e rfl
  by_cases hc:c∈X.fs
  .obtain⟨sl,q⟩:=slot c o (I.Dj x c e) hc JX ho (I.vg x c e)
   exact⟨_,q,hd⟩
  .exact⟨o,keep c o (I.Dj x c e) hc JX ho (I.vg x c e),hd⟩
 refine⟨I.ok,I.os,hg,⟨λb o e n hb hx=>?_,λb o e n hb hx=>?_,λb o e n hx=>?_,λb o e hx=>?_,λb xs e=>tups b xs (I.base.tups b xs e),λb o xs e=>yH b o xs (I.base.yH b o xs e),λb ps e=>?_⟩,?_,λx c e=>?_,?_,λx c e=>?_,λp hp=>?_,hok,I.len⟩
 .exact keep b o (neL b o e) hb (QK b o e hx) (I.base.keep b o e n hb hx) (I.base.free b o e n hx)
 .obtain⟨sl,e1⟩:=I.base.slot b o e n hb hx
  obtain⟨sl',e2⟩:=slot b _ (neL b o e) hb (QK b o e hx) e1 (I.base.free b o e n hx)
  exact⟨sl',e2⟩
 .obtain⟨o',e1⟩:=I.base.there b o e hx
  exact free b o' (QK b o e hx) e1 (I.base.free b o e n hx)
 .obtain⟨o',e1⟩:=I.base.there b o e hx
  exact there b o' (QK b o e hx) e1
 .obtain⟨m1,e1⟩:=I.base.Ae b ps e
  obtain⟨m2,e2⟩:=Ae b _ e1
  exact⟨m1++m2,by rw[e2,Array.append_assoc]⟩
 .obtain⟨m,hn,hl⟩:=I.loc
  refine⟨m,ns m hn,λi x v e1 e2 e3=>?_⟩
  obtain⟨u,r,l⟩:=hl i x v e1 e2 e3
  refine⟨u,r,?_⟩
  rcases l with l|⟨k,c,e,z⟩
  .exact .inl l
  .exact .inr ⟨k,c,e,cellK x c e _ z⟩
 .obtain⟨v,z⟩:=I.cell x c e
  exact⟨v,cellK x c e v z⟩
 .obtain⟨m,⟨o,_,_,ho,_⟩,_⟩:=I.loc
  exact free _ o (λz=>(hch _ z).2.1 rfl) ho I.free
 .obtain⟨v,o,ho,hd⟩:=I.cell x c e
  exact free c o (λz=>(hch c z).2.2.1 x c e rfl) ho (I.vg x c e)
 .obtain⟨e,n,ne,nf,d⟩:=I.pin p hp
  have JX:p.1∉ch:=λz=>(hch p.1 z).2.2.2 p hp rfl
  exact⟨keep p.1 p.2 ne nf JX e n,free p.1 p.2 JX e n,ne,nf,d⟩
theorem Inv.un(I:Inv X au σ H s)(u:Un X.fs [] H H' s.heap h')(hok:jM X.prog X.w H' h'):Inv X au σ H' {s with heap:=h',toks:=t'}:=by
 obtain⟨m,⟨o,es,ep,ho,r⟩,_⟩:=id I.loc
 obtain⟨sl,hL⟩:=u.any ho I.free bF
 exact I.step (g':=s.gens) (d':=s.drawn) (ch:=[]) (λ_ z=>nomatch z) (λb o _ hb _ e n=>u.keep b o e n hb bF) (λb o _ hb _ e n=>u.slot b o e n hb bF) (λb o _ e n=>u.free b o e n bF) (λb o _ e=>u.there b o e bF) u.tups u.yH u.Ae (λm' hm=>by
  obtain⟨o',es',ep',ho',r'⟩:=hm
  rw[ho] at ho';cases ho'
  exact⟨_,es',ep',hL,r'⟩) hok I.bare
theorem Inv.call(I:Inv X au σ H s)(u:Un (frs X.stack) ch H H' s.heap h')(hok:jM X.prog X.w H' h')(hg:AllBare g')
  (hch:∀b∈ch,(b∈X.ex\/X.s₀.heap.objs.size<=b)/\b≠X.env.locals/\(∀x c,X.env.cells.lookup x=aa c->c≠b)/\∀p∈X.pn++au,p.1≠b):
  Inv X au σ H' {s with heap:=h',gens:=g',drawn:=d',toks:=t'}:=by
 obtain⟨m,⟨o,es,ep,ho,r⟩,_⟩:=id I.loc
 obtain⟨sl,hL⟩:=u.any ho I.free λz=>(hch _ z).2.1 rfl
 exact I.step (ch:=ch) hch (λb o hL hb hc e n=>u.keep b o e n (λz=>(cg.mp (I.FJ b z)).elim hL hb) hc) (λb o _ _ hc e n=>u.any e n hc) (λb o hc e n=>u.free b o e n hc) (λb o hc e=>u.there b o e hc) u.tups u.yH u.Ae (λm' hm=>by
  obtain⟨o',es',ep',ho',r'⟩:=hm
  rw[ho] at ho';cases ho'
  exact⟨_,es',ep',hL,r'⟩) hok hg
theorem Inv.turned(I:Inv X au σ H s)(k:∀b o,b≠it->s.heap.get? b=aa o->h'.get? b=aa o)(hn:H it=ao)(hL:it≠X.env.locals)
  (h1:it∈X.ex\/X.s₀.heap.objs.size<=it)(h2:∀x c,X.env.cells.lookup x=aa c->c≠it)(h3:∀p∈X.pn++au,p.1≠it):Inv X au σ H {s with heap:=h',toks:=t'}:=by
 have JZ:∀b u,H b=aa u->b≠it:=λb u e z=>by rw[z,hn] at e;cases e
 refine I.step (g':=s.gens) (d':=s.drawn) (ch:=[it]) (λb hb=>?_) (λb o _ _ hc e _=>k b o (λz=>hc (by simp[z])) e) (λb o _ _ hc e _=>⟨o.slots,k b o (λz=>hc (by simp[z])) e⟩) (λ_ _ _ _ n=>n)
  (λb o hc e=>⟨o,k b o (λz=>hc (by simp[z])) e⟩) (λ_ _ e=>e) (λ_ _ _ e=>e) (λb ps e=>⟨#[],by rw[e];simp⟩) (λm hm=>?_) (λb u e=>?_) I.bare
 .have e:b=it:=by simpa using hb
  subst e
  exact⟨h1,hL,h2,h3⟩
 .obtain⟨o,es,ep,ho,r⟩:=hm
  exact⟨o,es,ep,k _ o (kJ hL) ho,r⟩
 .refine(I.hok b u e).stay (λc v hc q=>k c v ?_ q) (λ_ q=>q) λ_ _ q=>q
  rcases hc with z|z
  .rw[z];exact JZ b u e
  .exact JZ c _ z
theorem Inv.tok(I:Inv X au σ H s)(t:Nat):Inv X au σ H {s with toks:=t}:=I.un (h':=s.heap) (t':=t) Un.refl I.hok
theorem Inv.kept(I:Inv X au σ H s)(k:∀b u,s.heap.get? b=aa u->h'.get? b=aa u):Inv X au σ H {s with heap:=h',toks:=t'}:=I.un (Un.kept k) (I.hok.kept k)
theorem Inv.laid{a:aH}(I:Inv X au σ H s)(k:∀b u,s.heap.get? b=aa u->h'.get? b=aa u)(hp:s.heap.objs.size<=a)(new:gn X.prog X.w (upd H a o) h' a o):
  Inv X au σ (upd H a o) {s with heap:=h',toks:=t'}:=I.un (Un.laid k hp (I.hok.fresh hp)) (I.hok.laid k hp new)
theorem Inv.write(I:Inv X au σ H s)(mu:JV (H x))(he:e=x\/H e=aa (.own x))(k:∀b u,b≠e->s.heap.get? b=aa u->h'.get? b=aa u)(heo:∃u,h'.get? e=aa u)
  (new:gn X.prog X.w (upd H x o) h' x o):Inv X au σ (upd H x o) {s with heap:=h',toks:=t'}:=I.un (Un.write mu he k heo) (I.hok.write mu he k heo new)
theorem Inv.weak(I:Inv X au σ H s)(hl:σ'.length=σ.length)(w:∀(i:Nat) v,σ'[i]?=aa (aa v)->σ[i]?=aa (aa v)):Inv X au σ' H s:=
 ⟨I.ok,I.os,I.bare,I.base,let ⟨m,hn,hl'⟩:=I.loc;⟨m,hn,λi x v e1 e2 e3=>hl' i x v e1 (w i v e2) e3⟩,I.cell,I.free,I.vg,I.pin,I.hok,hl.trans I.len⟩
theorem Inv.aej(I:Inv X au σ H s)(h:∀p∈af5,s.heap.get? p.1=aa p.2/\H p.1=ao/\p.1≠X.env.locals/\p.1∉X.fs/\∀v,p.2.data≠.cell v):Inv X af5 σ H s:=
 ⟨I.ok,I.os,I.bare,I.base,I.loc,I.cell,I.free,I.vg,λp hp=>(eO.mp hp).elim (λz=>I.pin p (jR _ z)) (h p),I.hok,I.len⟩
theorem adf{N:List Str}(hN:N.Nodup){i j:Nat}(a:N[i]?=aa x)(b:N[j]?=aa x):i=j:=by
 obtain⟨h1,e1⟩:=jZ.mp a
 obtain⟨h2,e2⟩:=jZ.mp b
 exact(aiX hN).mp (e1.trans e2.symm)
theorem U4(I:Inv X au σ H s)(hN:X.N.Nodup)(hi:X.N[i]?=aa x)(hx:Loc X.env.scope x)(r:RelV v u)
  (h:∀s',Inv X au (σ.set i (aa v)) H s'->(∃a,zE a s.heap s'.heap/\(a=X.env.locals\/X.env.cells.lookup x=aa a))->Q () s')(hf:X.fn x=aq\/X.env.scope.names.lookup x=aa .local:=by first|exact .inl rfl|exact .inr rfl|assumption):aQ M A (storeName X.env x u) Q E s:=by
 obtain⟨m,hn,hl⟩:=id I.loc
 have hcls:(X.env.scope.kind==.class||(X.env.scope.kind==.module&&X.env.locals != X.env.globals))=aA:=by rw[I.ok.kind];rfl
 have hiσ:i<σ.length:=by rw[I.len];exact(jZ.mp hi).1
 have Dj:=I.Dj;have tracked:∀{a:aH}{h':cu},(∃o,s.heap.get? a=aa o/\H a=ao)->zE a s.heap h'->jM X.prog X.w H h':=λ{a h'} ha hs b ob e=>by
  obtain⟨_,_,hfree⟩:=ha
  refine(I.hok b ob e).stay (λc w' hc q=>(hs.2 c ?_).trans q) (λ_ q=>q) λ_ _ q=>q
  rintro rfl;rcases hc with rfl|hc
  .rw[hfree] at e;cases e
  .rw[hfree] at hc;cases hc
 rcases hx with hk|hk
 .refine wpAny_storeName_local hk hn (λh' hn' hs=>?_) hcls
  obtain⟨oL,_,_,hoL,_⟩:=id hn
  refine h _ ⟨I.ok,I.os,I.bare,⟨λb o e n hb hx=>?_,λb o e n hb hx=>?_,I.base.free,λb o e hx=>?_,I.base.tups,I.base.yH,I.base.Ae⟩,⟨_,hn',λj y v' e1 e2 e3=>?_⟩,λy c e=>?_,I.free,I.vg,λp hp=>?_,tracked ⟨oL,hoL,I.free⟩ hs,by simpa using I.len⟩ ⟨_,hs,.inl rfl⟩
  .exact(hs.2 b (gj (pQ (cL e) I.ok.above))).trans (I.base.keep b o e n hb hx)
  .obtain⟨sl,e1⟩:=I.base.slot b o e n hb hx
   exact⟨sl,(hs.2 b (gj (pQ (cL e) I.ok.above))).trans e1⟩
  .obtain⟨o',e1⟩:=I.base.there b o e hx
   exact⟨o',(hs.2 b (gj (pQ (cL e) I.ok.above))).trans e1⟩
  .by_cases hj:j=i
   .subst hj;rw[hi] at e1;cases e1;rw[ahW hiσ] at e2;cases e2
    exact⟨u,r,.inl ⟨hk,bF⟩⟩
   .rw[Dv (kJ hj)] at e2
    obtain⟨u',r',q⟩:=hl j y v' e1 e2 e3
    refine⟨u',r',?_⟩
    rcases q with⟨k,e⟩|⟨k,c,e,z⟩
    .refine .inl ⟨k,?_⟩;have:y≠x:=λe=>hj (adf hN e1 (e▸hi))
     simp[this,e]
    .exact .inr ⟨k,c,e,z.sameBut hs (Dj y c e)⟩
  .obtain⟨w',z⟩:=I.cell y c e
   exact⟨w',z.sameBut hs (Dj y c e)⟩
  .obtain⟨e,n,ne,nf,d⟩:=I.pin p hp
   exact⟨(hs.2 p.1 ne).trans e,n,ne,nf,d⟩
 .have hfn:X.fn x=aq:=by
   rcases hf with z|z
   .exact z
   .rw[z] at hk;cases hk
  obtain⟨c,hc⟩:=I.ok.has x (.inl hk)
  obtain⟨w',z⟩:=I.cell x c hc
  refine wpAny_storeName_cell I.ok.kind hk hc z (λh' hc' hs=>?_)
  obtain⟨oc,hoc,asY⟩:=id z
  refine h {s with heap:=h'} ⟨I.ok,I.os,I.bare,⟨λb o e n hb hx=>?_,λb o e n hb hx=>?_,I.base.free,λb o e hx=>?_,I.base.tups,I.base.yH,I.base.Ae⟩,⟨m,hn.sameBut hs (kJ (Dj x c hc)),λj y v' e1 e2 e3=>?_⟩,λy c' e=>?_,I.free,I.vg,λp hp=>?_,tracked ⟨oc,hoc,I.vg x c hc⟩ hs,by simpa using I.len⟩ ⟨c,hs,.inr hc⟩
  .exact(hs.2 b (gj (pQ (cL e) (I.ok.cab x c hfn hc)))).trans (I.base.keep b o e n hb hx)
  .obtain⟨sl,e1⟩:=I.base.slot b o e n hb hx
   exact⟨sl,(hs.2 b (gj (pQ (cL e) (I.ok.cab x c hfn hc)))).trans e1⟩
  .obtain⟨o',e1⟩:=I.base.there b o e hx
   exact⟨o',(hs.2 b (gj (pQ (cL e) (I.ok.cab x c hfn hc)))).trans e1⟩
  .by_cases hj:j=i
   .subst hj;rw[hi] at e1;cases e1;rw[ahW hiσ] at e2;cases e2
    exact⟨u,r,.inr ⟨.inl hk,c,hc,hc'⟩⟩
   .rw[Dv (kJ hj)] at e2
    obtain⟨u',r',q⟩:=hl j y v' e1 e2 e3
    refine⟨u',r',?_⟩
    rcases q with q|⟨k,c',e,z'⟩
    .exact .inl q
    .refine .inr ⟨k,c',e,z'.sameBut hs ?_⟩;rintro rfl;exact hj (adf hN e1 (I.ok.inj _ _ _ e hc▸hi))
  .by_cases hcc:c'=c
   .subst hcc;exact⟨_,hc'⟩
   .obtain⟨w2,z2⟩:=I.cell y c' e
    exact⟨w2,z2.sameBut hs hcc⟩
  .obtain⟨e,n,ne,nf,d⟩:=I.pin p hp
   refine⟨(hs.2 p.1 ?_).trans e,n,ne,nf,d⟩
   intro q;rw[q,hoc] at e;have q':oc=p.2:=jj e;exact d w' (by rw[<-q'];exact asY)
theorem xW(I:Inv X au σ H s)(hN:X.N.Nodup)(hi:X.N[i]?=aa x)(hx:Loc X.env.scope x)(r:RelV v u)
  (h:∀s',Inv X au (σ.set i (aa v)) H s'->Q () s')(hf:X.fn x=aq\/X.env.scope.names.lookup x=aa .local:=by first|exact .inl rfl|exact .inr rfl|assumption):aQ M A (storeName X.env x u) Q E s:=
 U4 I hN hi hx r (λs' I' _=>h s' I') hf
theorem Inv.call'(I:Inv X au σ H s)(ho:s'.os=s.os)(u:Un (frs X.stack) ch H H' s.heap s'.heap)(hok:jM X.prog X.w H' s'.heap)(hg:AllBare s'.gens)
  (hch:∀b∈ch,(b∈X.ex\/X.s₀.heap.objs.size<=b)/\b≠X.env.locals/\(∀x c,X.env.cells.lookup x=aa c->c≠b)/\∀p∈X.pn++au,p.1≠b):Inv X au σ H' s':=by
 obtain⟨h',g',d',t',o'⟩:=s'
 have e:o'=s.os:=ho;subst e;exact I.call (g':=g') (t':=t') (d':=d') u hok hg hch
end
abbrev XK:=aL->Option aH->Hp->Prop
abbrev St:=List (Option V)
abbrev VK:=V->Hp->Prop
abbrev TE:=St->Hp->VK->Prop
abbrev TT:=St->Hp->(Bool->Hp->Prop)->Prop
abbrev TA:=St->Hp->(List V->Hp->Prop)->Prop
structure Ends where
 nx:St->Hp->Prop
 rt:VK
 bk:St->Hp->Prop:=λ_ _=>False
 ct:St->Hp->Prop:=λ_ _=>False
abbrev TS:=Ends->St->Hp->Prop
def EP(X:Cx)(au:List (aH×Obj))(σ:St)(Q:VK)(u:aL)(s':aZ):Prop:=∃v H',Inv X au σ H' s'/\RelV v u/\Q v H'
def TP(X:Cx)(au:List (aH×Obj))(σ:St)(Q:Bool->Hp->Prop)(b:Bool)(s':aZ):Prop:=∃H',Inv X au σ H' s'/\Q b H'
def AP(X:Cx)(au:List (aH×Obj))(σ:St)(Q:List V->Hp->Prop)(us:List aL)(s':aZ):Prop:=∃vs H',Inv X au σ H' s'/\Vals vs us/\Q vs H'
def SP(X:Cx)(au:List (aH×Obj))(D:Ends)(f:Flow)(s':aZ):Prop:=
 match f with
 |.next=>∃σ' H',Inv X au σ' H' s'/\D.nx σ' H'
 |.brk=>∃σ' H',Inv X au σ' H' s'/\D.bk σ' H'
 |.cont=>∃σ' H',Inv X au σ' H' s'/\D.ct σ' H'
 |.ret u=>∃v σ' H',Inv X au σ' H' s'/\RelV v u/\D.rt v H'
def PE(X:Cx)(e:Expr)(t:TE):Prop:=
 ∀(au:List (aH×Obj))(s:aZ)(σ:St)(H:Hp)(Q:VK),Inv X au σ H s->t σ H Q->aQ (model X.prog X.w) X.A (eval e X.env) (EP X au σ Q) X.xe s
def PT(X:Cx)(e:Expr)(t:TT):Prop:=
 ∀(au:List (aH×Obj))(s:aZ)(σ:St)(H:Hp)(Q:Bool->Hp->Prop),Inv X au σ H s->t σ H Q->aQ (model X.prog X.w) X.A (isTrue e X.env (eval e X.env)) (TP X au σ Q) X.xe s
def PW(X:Cx)(e:Expr)(t:TT):Prop:=
 ∀(whole:Sem aL)(au:List (aH×Obj))(s:aZ)(σ:St)(H:Hp)(Q:Bool->Hp->Prop),Inv X au σ H s->t σ H Q->aQ (model X.prog X.w) X.A (isTrue e X.env whole) (TP X au σ Q) X.xe s
theorem PW.pt(h:PW X e t):PT X e t:=h _
def PA(X:Cx)(es:List Expr)(t:TA):Prop:=
 ∀(pos:Pos)(au:List (aH×Obj))(s:aZ)(σ:St)(H:Hp)(Q:List V->Hp->Prop),Inv X au σ H s->t σ H Q->aQ (model X.prog X.w) X.A (Jb (iC pos (bM es X.env))) (AP X au σ Q) X.xe s
def PS(X:Cx)(st:eX)(t:TS):Prop:=
 ∀(au:List (aH×Obj))(s:aZ)(σ:St)(H:Hp)(D:Ends),Inv X au σ H s->t D σ H->aQ (model X.prog X.w) X.A (exec st X.env) (SP X au D) X.xe s
def lg(X:Cx)(st:List eX)(t:TS):Prop:=
 ∀(au:List (aH×Obj))(s:aZ)(σ:St)(H:Hp)(D:Ends),Inv X au σ H s->t D σ H->aQ (model X.prog X.w) X.A (execs st X.env) (SP X au D) X.xe s
theorem b7{α:Type}{t:Sem α}{Q Q':α->aZ->Prop}{M:Model}{s:aZ}(h:aQ M A t Q E s)(hQ:∀a s,Q a s->Q' a s):aQ M A t Q' E s:=uf h hQ λ_ _ x=>x
section
variable{X:Cx}
def uD(i:Nat):TE:=λσ H Q=>∃v,σ[i]?=aa (aa v)/\Q v H
def tC(v:V):TE:=λ_ H Q=>Q v H
theorem Xi{pos:Pos}(hN:X.N[i]?=aa x)(hv:JW X.env.scope x)(hd:(x==("__debug__":Str))=aA:=by decide)(hcd:(x==("__classdict__":Str))=aA:=by decide):PE X (.Name x pos) (uD i):=by
 intro au s σ H Q I h
 obtain⟨v,e,h⟩:=h
 obtain⟨m,hn,hl⟩:=I.loc
 obtain⟨u,r,l⟩:=hl i x v hN e hv
 have fin:EP X au σ Q u s:=⟨v,H,I,r,h⟩
 rcases l with⟨hk,hm⟩|⟨hk,c,hc,hcell⟩
 .exact abZ (wpAny_loadName_local I.ok.kind hk hn hm fin) hd
 .rcases hk with hk|hk
  .exact abZ (wpAny_loadName_cell I.ok.kind hk hc hcell fin) hd
  .exact abZ (wpAny_loadName_free I.ok.kind hk hc hcell fin hcd) hd
theorem aqm{i j pos}:PE X (.Constant (.int i) j pos) (tC (.int i)):=λ_ _ _ H _ I h=>wpAny_Constant_int ⟨.int i,H,I.tok _,⟨_,rfl⟩,h⟩
theorem jE{b j pos}:PE X (.Constant (.bool b) j pos) (tC (.bl b)):=λ_ _ _ H _ I h=>Constant_bool ⟨.bl b,H,I,rfl,h⟩
theorem afe{j pos}:PE X (.Constant .none j pos) (tC .non):=λ_ _ _ H _ I h=>Constant_none ⟨.non,H,I,rfl,h⟩
theorem nH{x j pos}:PE X (.Constant (.str x) j pos) (tC (.str x)):=λ_ _ _ H _ I h=>Calls.Constant_str ⟨.str x,H,I.tok _,⟨_,rfl⟩,h⟩
def Gl(X:Cx)(x:Str):Prop:=X.env.kindOf x=aa .globalImplicit
theorem aek{s:aZ}{σ:St}{H:Hp}{x:Str}{u:aL}{pos:Pos}(I:Inv X au σ H s)(hg:Gl X x)(hm:X.mg x=aa u)(h:Q u s)
  (hd:(x==("__debug__":Str))=aA:=by decide):aQ (model X.prog X.w) X.A (eval (.Name x pos) X.env) Q E s:=
 ahM I.ok.kind hg (Calls.loadGlobal_global (by rw[I.ok.glob];exact I.mod.glob.keeps I.bk) hm h) hd
theorem wI{E:aL->aZ->Prop}{s:aZ}{σ:St}{H:Hp}{x:Str}{u:aL}{pos:Pos}(I:Inv X au σ H s)(hg:Gl X x)(hm:X.mg x=ao)(hv:uQ x=aa u)(h:Q u s)
  (hn:x≠"__name__":=by decide)(hd:(x==("__debug__":Str))=aA:=by decide):aQ (model X.prog X.w) X.A (eval (.Name x pos) X.env) Q E s:=by
 obtain⟨mb,h1,h2⟩:=I.mod.blt
 exact ahM I.ok.kind hg (Calls.loadGlobal_builtin (by rw[I.ok.glob];exact I.mod.glob.keeps I.bk) hm (by rw[I.ok.blt];exact h1.keeps I.bk) ((h2 x hn).trans hv) h) hd
theorem zP(hg:Gl X x)(hm:X.mg x=aa u)(r:RelV v u)(hd:(x==("__debug__":Str))=aA:=by decide):PE X (.Name x pos) (tC v):=
 λ_ _ _ H _ I h=>aek I hg hm ⟨v,H,I,r,h⟩ hd
theorem pF{v:V}{pos:Pos}(hg:Gl X x)(hm:X.mg x=ao)(hv:uQ x=aa u)(r:RelV v u)(hn:x≠"__name__":=by decide)(hd:(x==("__debug__":Str))=aA:=by decide):PE X (.Name x pos) (tC v):=
 λ_ _ _ H _ I h=>wI I hg hm hv ⟨v,H,I,r,h⟩ hn hd
variable{a b:Expr}{ta tb:TE}{pos:Pos}
variable{rest:List Expr}
def agv(t u:TT):TT:=λσ H Q=>t σ H λc H1=>if c=aq then u σ H1 Q else Q aA H1
def tOr(t u:TT):TT:=λσ H Q=>t σ H λc H1=>if c=aq then Q aq H1 else u σ H1 Q
def asZ(t:TT):TT:=λσ H Q=>t σ H λc H1=>Q (!c) H1
theorem pw_and1(ha:PT X a tA):PW X (.BoolOp .And [a] pos) tA:=by
 intro wh au s σ H Q I h;refine isTrue_and (b7 (ha au s σ H Q I h) λc s1 e=>?_);cases c with
 |true=>exact isTrue_and_nil e
 |false=>exact e
theorem pw_or1(ha:PT X a tA):PW X (.BoolOp .Or [a] pos) tA:=by
 intro wh au s σ H Q I h;refine isTrue_or (b7 (ha au s σ H Q I h) λc s1 e=>?_);cases c with
 |false=>exact isTrue_or_nil e
 |true=>exact e
theorem pw_and(ha:PT X a tA)(hb:PW X (.BoolOp .And (b::rest) pos) YT):PW X (.BoolOp .And (a::b::rest) pos) (agv tA YT):=by
 intro wh au s σ H Q I h;refine isTrue_and (b7 (ha au s σ H _ I h) λc s1 aY=>?_)
 obtain⟨H1,I1,q1⟩:=aY
 cases c with
 |true=>exact hb wh au s1 σ H1 Q I1 q1
 |false=>exact⟨H1,I1,q1⟩
theorem pw_or(ha:PT X a tA)(hb:PW X (.BoolOp .Or (b::rest) pos) YT):PW X (.BoolOp .Or (a::b::rest) pos) (tOr tA YT):=by
 intro wh au s σ H Q I h;refine isTrue_or (b7 (ha au s σ H _ I h) λc s1 aY=>?_)
 obtain⟨H1,I1,q1⟩:=aY
 cases c with
 |true=>exact⟨H1,I1,q1⟩
 |false=>exact hb wh au s1 σ H1 Q I1 q1
theorem aqn(ha:PT X a tA):PT X (.UnaryOp .Not a pos) (asZ tA):=by
 intro au s σ H Q I h;exact isTrue_not (ha au s σ H (λc H1=>Q (!c) H1) I h)
def arH(ta tb:TE):TE:=λσ H Q=>ta σ H λx H1=>∃c,x=.bl c/\if c=aq then tb σ H1 Q else Q (.bl aA) H1
def as3(ta tb:TE):TE:=λσ H Q=>ta σ H λx H1=>∃c,x=.bl c/\if c=aq then Q (.bl aq) H1 else tb σ H1 Q
def arI(ta:TE):TE:=λσ H Q=>ta σ H λx H1=>∃c,x=.bl c/\Q (.bl (!c)) H1
theorem aqo{op}(h:PE X a t):PE X (.BoolOp op [a] pos) t:=λau s σ H Q I hw=>BoolOp_one (h au s σ H Q I hw)
theorem aqp(ha:PE X a ta)(hb:PE X (.BoolOp .And (b::rest) pos) tb):PE X (.BoolOp .And (a::b::rest) pos) (arH ta tb):=by
 intro au s σ H Q I h;refine BoolOp_and (b7 (ha au s σ H _ I h) λv s1 aY=>?_)
 obtain⟨x,H1,I1,r1,q1⟩:=aY
 obtain⟨c,rfl,q1⟩:=q1
 cases r1;refine vP ?_;cases c with
 |true=>exact hb au s1 σ H1 Q I1 q1
 |false=>exact⟨.bl aA,H1,I1,rfl,q1⟩
theorem arJ(ha:PE X a ta)(hb:PE X (.BoolOp .Or (b::rest) pos) tb):PE X (.BoolOp .Or (a::b::rest) pos) (as3 ta tb):=by
 intro au s σ H Q I h;refine BoolOp_or (b7 (ha au s σ H _ I h) λv s1 aY=>?_)
 obtain⟨x,H1,I1,r1,q1⟩:=aY
 obtain⟨c,rfl,q1⟩:=q1
 cases r1;refine vP ?_;cases c with
 |false=>exact hb au s1 σ H1 Q I1 q1
 |true=>exact⟨.bl aq,H1,I1,rfl,q1⟩
theorem aqq(ha:PE X a ta):PE X (.UnaryOp .Not a pos) (arI ta):=by
 intro au s σ H Q I h;refine UnaryOp_ (b7 (ha au s σ H _ I h) λv s1 aY=>?_)
 obtain⟨x,H1,I1,r1,q1⟩:=aY
 obtain⟨c,rfl,q1⟩:=q1
 cases r1;exact not_of (vP ⟨.bl (!c),H1,I1,rfl,q1⟩)
def tIf(t:TT)(ta tb:TE):TE:=λσ H Q=>t σ H λc H1=>if c=aq then ta σ H1 Q else tb σ H1 Q
theorem anf(hc:PT X c tA)(ha:PE X a ta)(hb:PE X b tb):PE X (.IfExp c a b pos) (tIf tA ta tb):=by
 intro au s σ H Q I h;refine wpAny_IfExp (b7 (hc au s σ H _ I h) λd s1 aY=>?_)
 obtain⟨H1,I1,q1⟩:=aY
 cases d with
 |true=>exact ha au s1 σ H1 Q I1 q1
 |false=>exact hb au s1 σ H1 Q I1 q1
end
def cj(K:bw)(H:Hp)(a:aH)(xs:List V):Prop:=
 Rd H a (.lst xs)\/
  ∃(o:Obj)(aK:Array aL)(n:Nat),K.lookup a=aa o/\o.cls=.type "list"/\o.dict=ao/\o.data=.seq aK n/\aK.size<=cH/\Vals xs aK.toList
def dg(K:bw)(H:Hp)(a:aH)(xs:List V):Prop:=
 Rd H a (.tup xs)\/
  ∃(o:Obj)(aK:Array aL)(n:Nat),K.lookup a=aa o/\o.cls=.type "tuple"/\o.data=.seq aK n/\aK.size<=cH/\Vals xs aK.toList
def as4:aL->Option V
 |.none=>aa .non
 |.bool b=>aa (.bl b)
 |.int i _=>aa (.int i)
 |.str x _=>aa (.str x)
 |.bytes b _=>aa (.tQ b)
 |.float b _=>aa (.flt b)
 |.ref a=>aa (.ref a)
 |.type n=>aa (.ty n)
 |_=>ao
theorem RelV.abs(r:RelV x u):as4 u=aa x:=by
 cases x with
 |non=>cases r;rfl
 |bl _=>cases r;rfl
 |int _=>obtain⟨t,rfl⟩:=r;rfl
 |str _=>obtain⟨t,rfl⟩:=r;rfl
 |tQ _=>obtain⟨t,rfl⟩:=r;rfl
 |flt _=>obtain⟨t,rfl⟩:=r;rfl
 |ref _=>cases r;rfl
 |ty _=>cases r;rfl
theorem RelV.inj(r:RelV x u)(q:RelV y u):x=y:=jj (r.abs.symm.trans q.abs)
theorem Vals.inj:∀{xs ys:List V}{us:List aL},Vals xs us->Vals ys us->xs=ys
 |_,_,_,.nil,.nil=>rfl
 |_,_,_,.cons r t,.cons r' t'=>by rw[r.inj r',Vals.inj t t']
section
variable{X:Cx}{σ:St}{H:Hp}{a:aH}
theorem cj.of{K:bw}(h:H a=aa (.lst xs)):cj K H a xs:=.inl (.inl h)
theorem dg.of{K:bw}(h:H a=aa (.tup xs)):dg K H a xs:=.inl (.inl h)
theorem Inv.list(I:Inv X au σ H s)(h:cj X.K H a xs):∃aK:List aL,Vals xs aK/\PlainL s.heap a aK.toArray/\xs.length<=cH:=by
 rcases h with h|⟨o,aK,n,hk,hc,hd,hs,hz,r⟩
 .obtain⟨z,aK,n,r,e⟩:=h.ok I.hok
  exact⟨aK,r,⟨_,n,e,rfl,rfl,rfl⟩,z⟩
 .refine⟨aK.toList,r,⟨o,n,I.jY a o hk,hc,hd,by simpa using hs⟩,?_⟩
  have e:=r.length;simp only[lY] at e;lia
theorem Inv.tuple(I:Inv X au σ H s)(h:dg X.K H a xs):∃aK:List aL,Vals xs aK/\IsTup s.heap a aK.toArray/\xs.length<=cH:=by
 rcases h with h|⟨o,aK,n,hk,hc,hs,hz,r⟩
 .obtain⟨z,aK,r,p⟩:=h.ok I.hok
  exact⟨aK,r,p,z⟩
 .refine⟨aK.toList,r,⟨o,I.jY a o hk,hc,n,by simpa using hs⟩,?_⟩
  have e:=r.length;simp only[lY] at e;lia
theorem Inv.Vu(I:Inv X au σ H s)(h:cj X.K H a xs)(h':cj X.K H a ys):xs=ys:=by
 obtain⟨aK,r,⟨o,n,e,_,_,d⟩,_⟩:=I.list h
 obtain⟨its',r',⟨o',n',e',_,_,d'⟩,_⟩:=I.list h'
 rw[e] at e';cases e';rw[d] at d';injection d' with d1 _
 have:aK=its':=by simpa using congrArg aj9 d1
 subst this;exact r.inj r'
theorem Inv.U5(I:Inv X au σ H s)(h:dg X.K H a xs)(h':dg X.K H a ys):xs=ys:=by
 obtain⟨aK,r,⟨o,e,_,n,d⟩,_⟩:=I.tuple h
 obtain⟨its',r',⟨o',e',_,n',d'⟩,_⟩:=I.tuple h'
 rw[e] at e';cases e';rw[d] at d';injection d' with d1 _
 have:aK=its':=by simpa using congrArg aj9 d1
 subst this;exact r.inj r'
end
abbrev Cx.wish(X:Cx)(E:aL->aZ->Prop):Cx:={X with xe:=E}
abbrev Cx.J0(X:Cx):Cx:=X.wish λ_ _=>False
theorem Cx.Ok.wish{X:Cx}(ok:X.Ok)(E:aL->aZ->Prop):(X.wish E).Ok:=
 ⟨ok.mod,ok.kind,ok.glob,ok.blt,ok.above,ok.inj,ok.has,ok.cab,ok.hd,ok.frames,ok.stk,ok.exf,ok.bs,ok.Ai,ok.JK,ok.Qt,ok.vp,ok.GJ⟩
theorem Cx.Ok.zW{X:Cx}(ok:(X.wish E).Ok):X.Ok:=
 ⟨ok.mod,ok.kind,ok.glob,ok.blt,ok.above,ok.inj,ok.has,ok.cab,ok.hd,ok.frames,ok.stk,ok.exf,ok.bs,ok.Ai,ok.JK,ok.Qt,ok.vp,ok.GJ⟩
section
variable{X:Cx}{σ:St}{H:Hp}
theorem Inv.wish(I:Inv X au σ H s)(E:aL->aZ->Prop):Inv (X.wish E) au σ H s:=⟨I.ok.wish E,I.os,I.bare,I.base,I.loc,I.cell,I.free,I.vg,I.pin,I.hok,I.len⟩
theorem Inv.zW(I:Inv (X.wish E) au σ H s):Inv X au σ H s:=⟨I.ok.zW,I.os,I.bare,I.base,I.loc,I.cell,I.free,I.vg,I.pin,I.hok,I.len⟩
theorem SP.zW(h:SP (X.wish E) au D f s'):SP X au D f s':=by
 cases f with
 |next=>obtain⟨σ',H',I,q⟩:=h;exact⟨σ',H',I.zW,q⟩
 |brk=>obtain⟨σ',H',I,q⟩:=h;exact⟨σ',H',I.zW,q⟩
 |cont=>obtain⟨σ',H',I,q⟩:=h;exact⟨σ',H',I.zW,q⟩
 |ret u=>obtain⟨v,σ',H',I,r,q⟩:=h;exact⟨v,σ',H',I.zW,r,q⟩
theorem lg.J0{st:List eX}(h:lg X.J0 st t):lg X st t:=λau s σ H D I hw=>
 uf (h au s σ H D (I.wish _) hw) (λ_ _ q=>q.zW) λ_ _ z=>xU z
end
section
variable{X:Cx}{st:eX}{rest:List eX}{t u:TS}{e:Expr}{te:TE}
def arK:TS:=λD σ H=>D.nx σ H
def agw(t u:TS):TS:=λD σ H=>t {D with nx:=u D} σ H
theorem aoG:lg X [] arK:=λ_ _ σ H _ I h=>RP ⟨σ,H,I,h⟩
theorem ang(h1:PS X st t)(h2:lg X rest u):lg X (st::rest) (agw t u):=by
 intro au s σ H D I h;refine aiY (b7 (h1 au s σ H {D with nx:=u D} I h) λf s1 q=>?_);cases f with
 |next=>
  obtain⟨σ',H',I',q⟩:=q
  exact h2 au s1 σ' H' D I' q
 |ret v=>exact q
 |brk=>exact q
 |cont=>exact q
theorem aoH(h1:PS X st t):lg X [st] t:=by
 intro au s σ H D I h;refine aiY (b7 (h1 au s σ H D I h) λf s1 q=>?_);cases f with
 |next=>exact RP q
 |ret v=>exact q
 |brk=>exact q
 |cont=>exact q
theorem Inv.quiet{σ:St}{H:Hp}(I:Inv X au σ H s):interactive X.env=aA:=by simp[interactive,I.ok.kind]
def arL(te:TE):TS:=λD σ H=>te σ H λ_ H1=>D.nx σ H1
theorem ael(he:PE X e te)(hs:wu e ao pos.line X.env=pure aA:=by rfl):PS X (.Expr e pos) (arL te):=by
 intro au s σ H D I h;exact wpAny_Expr_any (b7 (he au s σ H _ I h) λv s1 ⟨x,H1,I1,r1,q1⟩=>⟨σ,H1,I1,q1⟩) I.quiet hs
def as5(te:TE):TS:=λD σ H=>te σ H D.rt
theorem afg(he:PE X e te):PS X (.Return (aa e) pos) (as5 te):=by
 intro au s σ H D I h;exact wpAny_Return_some (b7 (he au s σ H _ I h) λv s1 ⟨x,H1,I1,r1,q1⟩=>⟨x,σ,H1,I1,r1,q1⟩)
def as6(c:TT)(t u:TS):TS:=λD σ H=>c σ H λb H1=>if b=aq then t D σ H1 else u D σ H1
theorem arM(hc:PT X c tc)(ha:lg X a t)(hb:lg X b u):PS X (.If c a b pos) (as6 tc t u):=by
 intro au s σ H D I h;refine wpAny_If (b7 (hc au s σ H _ I h) λd s1 aY=>?_)
 obtain⟨H1,I1,q1⟩:=aY
 cases d with
 |true=>exact ha au s1 σ H1 D I1 q1
 |false=>exact hb au s1 σ H1 D I1 q1
end
abbrev TG:=V->St->Hp->(St->Hp->Prop)->Prop
abbrev Dk:=List V->St->Hp->(St->Hp->Prop)->Prop
def PG(X:Cx)(target:Expr)(t:TG):Prop:=
 ∀(au:List (aH×Obj))(s:aZ)(σ:St)(H:Hp)(v:V)(u:aL)(Q:St->Hp->Prop),Inv X au σ H s->RelV v u->t v σ H Q->
  aQ (model X.prog X.w) X.A (assign target X.env u) (λ_ s'=>∃σ' H',Inv X au σ' H' s'/\Q σ' H') X.xe s
def QL(X:Cx)(ts:List Expr)(t:Dk):Prop:=
 ∀(au:List (aH×Obj))(s:aZ)(σ:St)(H:Hp)(vs:List V)(us:List aL)(Q:St->Hp->Prop),Inv X au σ H s->Vals vs us->t vs σ H Q->
  aQ (model X.prog X.w) X.A (Hu ((wj ts X.env).map (·.2)) us) (λ_ s'=>∃σ' H',Inv X au σ' H' s'/\Q σ' H') X.xe s
abbrev agx:=V->V->V->Hp->(Hp->Prop)->Prop
def yJ(X:Cx)(t:agx):Prop:=
 ∀(au:List (aH×Obj))(s:aZ)(σ:St)(H:Hp)(o i v:V)(ov iv u:aL)(Q:Hp->Prop),Inv X au σ H s->RelV o ov->RelV i iv->RelV v u->t o i v H Q->
  aQ (model X.prog X.w) X.A (setItem ov iv u) (λ_ s'=>∃H',Inv X au σ H' s'/\Q H') X.xe s
section
variable{pos:Pos}
def yr(i:Nat):TG:=λv σ H Q=>Q (σ.set i (aa v)) H
theorem aoI(hN:X.N.Nodup)(hi:X.N[i]?=aa x)(hx:Loc X.env.scope x)(hf:X.fn x=aq\/X.env.scope.names.lookup x=aa .local:=by first|exact .inl rfl|exact .inr rfl|assumption):PG X (.Name x pos) (yr i):=by
 intro au s σ H v u Q I r h;exact K3 (xW I hN hi hx r (λs' I'=>⟨_,H,I',h⟩) hf)
def Yo:Dk:=λvs σ H Q=>vs=[]/\Q σ H
def X4(t:TG)(u:Dk):Dk:=λvs σ H Q=>∃v r,vs=v::r/\t v σ H λσ' H'=>u r σ' H' Q
theorem rC:QL X [] Yo:=by
 intro au s σ H vs us Q I r h
 obtain⟨e,h⟩:=h
 subst e;cases r;exact assignInOrder_nil ⟨σ,H,I,h⟩
theorem fH(h1:PG X e t)(h2:QL X es u)
  (hs:(wj (e::es) X.env).map (·.2)=assign e X.env::(wj es X.env).map (·.2):=by rfl):QL X (e::es) (X4 t u):=by
 intro au s σ H vs us Q I r h
 obtain⟨v,vr,e1,h⟩:=h
 subst e1;cases r with
 |cons r rr=>
  rw[hs];refine assignInOrder_cons (b7 (h1 au s σ H _ _ _ I r h) λ_ s1 aY=>?_)
  obtain⟨σ1,H1,I1,q1⟩:=aY
  exact h2 au s1 σ1 H1 _ _ Q I1 rr q1
def Yp(K:bw)(n:Nat)(t:Dk):TG:=λv σ H Q=>∃a xs,v=.ref a/\dg K H a xs/\xs.length=n/\t xs σ H Q
theorem rH{es:List Expr}{k:Nat}{n:Nat}(hc:X.calm=aq)(h:QL X es t)
  (hn:(wj es X.env).length=n:=by rfl)(hst:(wj es X.env).findIdx? (·.1)=ao:=by rfl):PG X (.Tuple es k pos) (Yp X.K n t):=by
 intro au s σ H v u Q I r hw
 obtain⟨a,xs,e1,hq,hl,hw⟩:=hw
 subst e1;cases r
 obtain⟨aK,rv,ht,hz⟩:=I.tuple hq
 refine assign_Tuple_tuple (I.ok.hd hc) ht (by simp[hn,<-hl,rv.length]) hst λh' hx=>?_
 have I1:Inv X au σ H {s with heap:=h'}:=I.kept (t':=s.toks) λb o e=>hx b o (gj (cL e)) e
 exact h au _ σ H xs _ Q I1 (by simpa using rv) hw
def as7(to ti:TE)(t:agx):TG:=λv σ H Q=>to σ H λo H1=>ti σ H1 λi H2=>t o i v H2 λH3=>Q σ H3
theorem aqr(ho:PE X o to)(hi:PE X i ti)(hs:yJ X t)
  (ha:∀v,assign (.Subscript o i pos) X.env v=(do
   let ov <-rD [v] (eval o X.env)
   let iv <-rD [v,ov] (eval i X.env)
   wF pos
   rD [v,ov,iv] (setItem ov iv v)
   release [v,ov,iv] []):=by intro _;rfl):PG X (.Subscript o i pos) (as7 to ti t):=by
 intro au s σ H v u Q I r h;rw[ha];refine aJ (nF (b7 (ho au s σ H _ I h) λov s1 aY=>?_))
 obtain⟨x,H1,I1,r1,q1⟩:=aY
 refine aJ (nF (b7 (hi au s1 σ H1 _ I1 q1) λiv s2 aY=>?_))
 obtain⟨y,H2,I2,r2,q2⟩:=aY
 refine aJ (xN (aJ (nF (b7 (hs au s2 σ H2 x y v ov iv u _ I2 r1 r2 r q2) λ_ s3 aY=>?_))))
 obtain⟨H3,I3,q3⟩:=aY
 exact wpAny_release ⟨σ,H3,I3,q3⟩
def Gw(te:TE)(g:TG):TS:=λD σ H=>te σ H λx H1=>g x σ H1 D.nx
theorem Xj{tg e:Expr}(he:PE X e te)(hg:PG X tg g)(hs:Bj [tg] e pos.line X.env=pure aA:=by rfl)(hw:Bl [tg] e X.env=pure ao:=by rfl)
  (h1:(wj [tg] X.env).map (·.2)=[assign tg X.env]:=by rfl):PS X (.Assign [tg] e pos) (Gw te g):=by
 intro au s σ H D I h;refine wpAny_Assign_stores (b7 (he au s σ H _ I h) λv s1 aY=>?_) hs hw
 obtain⟨x,H1,I1,r1,q1⟩:=aY
 rw[h1];exact b7 (hg au s1 σ H1 x v _ I1 r1 q1) λ_ s2 q=>q
theorem afh{x:Str}{te:TE}{pos':Pos}(hN:X.N.Nodup)(hi:X.N[i]?=aa x)(hx:Loc X.env.scope x)(he:PE X e te)(hs:wu e (aa (.Name x pos')) pos.line X.env=pure aA:=by rfl)(hf:X.fn x=aq\/X.env.scope.names.lookup x=aa .local:=by first|exact .inl rfl|exact .inr rfl|assumption):
  PS X (.Assign [.Name x pos'] e pos) (Gw te (yr i)):=by
 intro au s σ H D I h;refine wpAny_Assign_Name (b7 (he au s σ H _ I h) λv s1 aY=>?_) hs
 obtain⟨y,H1,I1,r1,q1⟩:=aY
 exact xW I1 hN hi hx r1 (λs2 I2=>⟨_,H1,I2,q1⟩) hf
def as8(i j:Nat)(ta:TA):TS:=λD σ H=>ta σ H λvs H1=>∃v w,vs=[v,w]/\D.nx ((σ.set i (aa v)).set j (aa w)) H1
theorem aqs{kt k2 qO}(hc:X.calm=aq)(hN:X.N.Nodup)(hi:X.N[i]?=aa x)(hj:X.N[j]?=aa y)(hij:i≠j)
  (hx:X.env.scope.names.lookup x=aa .local)(hy:X.env.scope.names.lookup y=aa .local)(ha:PA X [a,b] ta)
  (hw:Bl [.Tuple [.Name x px,.Name y py] kt pt] (.Tuple [a,b] k2 qO) X.env=pure (aa [x,y]))
  (hs:Bj [.Tuple [.Name x px,.Name y py] kt pt] (.Tuple [a,b] k2 qO) pos.line X.env=pure aA:=by rfl):
  PS X (.Assign [.Tuple [.Name x px,.Name y py] kt pt] (.Tuple [a,b] k2 qO) pos) (as8 i j ta):=by
 intro au s σ H D I h;rw[exec_Assign_arm];refine aJ (xN ?_);rw[hs];refine aJ (bz ?_);rw[bB bA];refine aJ (Tuple_ (b7 (ha _ au s σ H _ I h) λus s1 aY=>?_))
 obtain⟨vs,H1,I1,r1,q1⟩:=aY
 obtain⟨v,w,e1,q1⟩:=q1
 subst e1
 obtain⟨u1,u2,rfl,rv,rw'⟩:∃u1 u2,us=[u1,u2]/\RelV v u1/\RelV w u2:=by
  cases r1 with
  |cons p q=>
   cases q with
   |cons p' q'=>
    cases q'
    exact⟨_,_,rfl,p,p'⟩
 refine mJ ?_ (by show 2<=cH;decide);have I2:Inv X au σ H1 {s1 with heap:=s1.heap.push {cls:=.type "tuple",data:=.seq [u1,u2].toArray}}:=I1.kept (t':=s1.toks) λb o e=>cG _ e
 rw[hw];refine aJ (bz ?_);show aQ (model X.prog X.w) X.A (do rule "assign.swapped-stores";let items <-unpackItems (.ref s1.heap.objs.size) 2 ao;Hu [λv=>xX X.env y v,λv=>xX X.env x v] items.reverse;pure U6) _ _ _;refine aJ (ug (aJ (unpackItems_tuple (items:=#[u1,u2]) (I.ok.hd hc) (IsTup.new s1.heap _) λh' hx'=>?_)));have I3:=I2.kept (h':=h') (t':=s1.toks) λb o e=>hx' b o (gj (cL e)) e
 show aQ _ _ (Hu [λv=>xX X.env y v,λv=>xX X.env x v] [u2,u1] >>= λ_=>pure U6) _ _ _;refine aJ (assignInOrder_cons (Lr (xW I3 hN hj (.inl hy) rw' (λs2 I4=>?_) (.inr hy))));refine assignInOrder_cons (Lr (xW I4 hN hi (.inl hx) rv (λs3 I5=>assignInOrder_nil (bz ?_)) (.inr hx)));rw[Tc _ _ (kJ hij)] at I5
 exact⟨_,H1,I5,q1⟩
end
section
variable{X:Cx}{pos:Pos}
def afi(c:TT)(tb:TS):TS:=λD σ H=>∃W:Nat->St->Hp->Prop,(∃m,W m σ H)/\∀m σ H,W m σ H->
 c σ H λb H1=>if b=aq then ∃N:St->Hp->Prop,(∀σ' H',N σ' H'->∃m',m'<m/\W m' σ' H')/\tb {D with nx:=N,ct:=N,bk:=D.nx} σ H1 else D.nx σ H1
theorem anh(hp:U7 (model X.prog X.w) X.A X.env X.xe)(hc:PT X c tc)(hb:lg X body tb):PS X (.While c body [] pos) (afi tc tb):=by
 intro au s σ H D I h
 obtain⟨W,⟨m0,w0⟩,turn⟩:=h
 refine wpAny_While (codeAny_whileLoop (λn s'=>∃σ' H',Inv X au σ' H' s'/\W n σ' H') ?_ m0 ⟨σ,H,I,w0⟩);rintro n s1 ⟨σ1,H1,I1,w1⟩;refine DN hp (b7 (hc au s1 σ1 H1 _ I1 (turn n σ1 H1 w1)) λb s2 aY=>?_)
 obtain⟨H2,I2,q2⟩:=aY
 cases b with
 |true=>
  obtain⟨N,hN,q2⟩:=q2
  rw[bC rfl];refine DN hp (b7 (hb au s2 σ1 H2 _ I2 q2) λf s3 q3=>?_);cases f with
  |next=>
   obtain⟨σ3,H3,I3,n3⟩:=q3
   obtain⟨m',hm,w3⟩:=hN σ3 H3 n3
   exact⟨m',hm,σ3,H3,I3,w3⟩
  |cont=>
   obtain⟨σ3,H3,I3,n3⟩:=q3
   obtain⟨m',hm,w3⟩:=hN σ3 H3 n3
   exact⟨m',hm,σ3,H3,I3,w3⟩
  |brk=>exact q3
  |ret v=>exact q3
 |false=>
  rw[bB jK];exact RP ⟨σ1,H2,I2,q2⟩
end
structure It where
 go:Nat->Hp->Prop
 J1:Nat->Hp->V->Hp->Prop
 stop:Nat->Hp->Prop
def lU(X:Cx)(au:List (aH×Obj))(H:Hp)(b:aH):Prop:=
 H b=ao/\b≠X.env.locals/\b∉X.fs/\(b∈X.ex\/X.s₀.heap.objs.size<=b)/\(∀x c,X.env.cells.lookup x=aa c->c≠b)/\∀p∈X.pn++au,p.1≠b
theorem Inv.wY{X:Cx}{σ:St}{b:aH}(I:Inv X au σ H s)(hb:s.heap.objs.size<=b)(hn:H' b=ao):lU X au H' b:=by
 refine⟨hn,uR (pQ I.lt hb),I.asW hb,.inr (kI I.sz hb),λx c e z=>?_,λp hp z=>?_⟩
 .obtain⟨v,q⟩:=I.cell x c e
  exact absurd (pQ q.lt (by rw[z];exact hb)) (Bh _)
 .exact absurd (pQ (cL (I.pin p hp).1) (by rw[z];exact hb)) (Bh _)
structure Turn(P:fV)(w:dD)(K:bw)(tg:Expr)(J:It)(fp:List aH)(it:aH)(tn:Nat->cu->Prop):Prop where
 mem:it∈fp
 obj:∀i h,tn i h->∀b∈fp,∃o,h.get? b=aa o/\∀v,o.data≠.cell v
 keep:∀i h h',tn i h->(∀b∈fp,∀o,h.get? b=aa o->h'.get? b=aa o)->tn i h'
 item:∀(X:Cx),X.prog=P->X.w=w->X.K=K->X.calm=aq->∀(i:Nat)(au:List (aH×Obj))(s:aZ)(σ:St)(H:Hp)(E:aL->aZ->Prop),Inv X au σ H s->(∀b∈fp,lU X au H b)->tn i s.heap->J.go i H->
  aQ (model P w) X.A (j7 (.ref it)) (λr s1=>∃u,r=aa u/\
   aQ (model P w) X.A (Az tg (.ref it) u) (λ_ s2=>∃x H',Inv X au σ H' s2/\RelV x u/\J.J1 i H x H'/\tn (i+1) s2.heap/\∀b∈fp,H' b=ao) E s1) E s
 done:∀(X:Cx),X.prog=P->X.w=w->X.K=K->X.calm=aq->∀(i:Nat)(au:List (aH×Obj))(s:aZ)(σ:St)(H:Hp)(E:aL->aZ->Prop),Inv X au σ H s->(∀b∈fp,lU X au H b)->tn i s.heap->J.stop i H->
  aQ (model P w) X.A (j7 (.ref it)) (λr s1=>r=ao/\Inv X au σ H s1) E s
 self:∀(A:iz)(i:Nat)(s:aZ)(Q:aL->aZ->Prop)(E:aL->aZ->Prop),tn i s.heap->Q (.ref it) s->aQ (model P w) A (BZ (.ref it)) Q E s
abbrev TI:=St->Hp->(It->Hp->Prop)->Prop
def PIE(X:Cx)(au:List (aH×Obj))(σ:St)(tg:Expr)(R:It->Hp->Prop)(itv:aL)(s2:aZ):Prop:=
 ∃(it:aH)(fp:List aH)(tn:Nat->cu->Prop)(J:It)(H':Hp),itv=.ref it/\Inv X au σ H' s2/\Turn X.prog X.w X.K tg J fp it tn/\tn 0 s2.heap/\(∀b∈fp,lU X au H' b)/\R J H'
def PI(X:Cx)(tg iter:Expr)(wi:TI):Prop:=
 ∀(au:List (aH×Obj))(s:aZ)(σ:St)(H:Hp)(R:It->Hp->Prop),Inv X au σ H s->wi σ H R->
  aQ (model X.prog X.w) X.A (eval iter X.env) (λv s1=>aQ (model X.prog X.w) X.A (BZ v) (PIE X au σ tg R) X.xe s1) X.xe s
theorem P0(ho:s.heap.get? it=aa o)(hc:o.cls=.type n)(hd:o.data=.fields vs)
  (hn:["enumerate","zip","dict_itemiterator","dict_reverseitemiterator","odict_iterator","itertools.zip_longest","itertools.pairwise"].contains n=aA)(hQ:Q () s):aQ M A (Az tg (.ref it) u) Q E s:=by
 unfold Az;cases tg<;>first
  |exact bz hQ
  |(cases u<;>first
    |exact bz hQ
    |(refine aJ (MN ho ?_)
      rw[hc,hd];show aQ M A (if(["enumerate","zip","dict_itemiterator","dict_reverseitemiterator","odict_iterator","itertools.zip_longest","itertools.pairwise"].contains n&&vs[0]?==aa (jL _))=aq then _ else _) Q E s;rw[bB (by intro h;rw[hn,aa1] at h;cases h)];exact bz hQ))
def YW(K:bw)(a:aH):It:=
 ⟨λi H=>∃xs x,cj K H a xs/\xs[i]?=aa x,λi H x H'=>H'=H/\∀xs,cj K H a xs->xs[i]?=aa x,λi H=>∃xs,cj K H a xs/\xs.length<=i⟩
def YX(K:bw)(a:aH):It:=
 ⟨λi H=>∃xs x,dg K H a xs/\xs[i]?=aa x,λi H x H'=>H'=H/\∀xs,dg K H a xs->xs[i]?=aa x,λi H=>∃xs,dg K H a xs/\xs.length<=i⟩
def QM(lo:Int)(n:Nat):It:=⟨λi _=>i<n,λi H x H'=>H'=H/\x=.int (lo+i),λi _=>n<=i⟩
theorem al4{P:fV}{w:dD}{K:bw}{tg:Expr}(a it:aH):Turn P w K tg (YW K a) [it] it (λi h=>h.IsListIter it a i) where
 mem:=bF
 obj:=λi h st b hb=>by
  have e:b=it:=by simpa using hb
  subst e
  obtain⟨o,e,c,d⟩:=st
  exact⟨o,e,λv z=>by rw[d] at z;cases z⟩
 keep:=λi h h' st k=>st.at λo e=>k it bF o e
 item:=by
  intro X hP hw hK hc i au s σ H E I hf st hg;subst hP hw hK
  obtain⟨xs,x,hq,hx⟩:=hg
  obtain⟨aK,rv,p,hz⟩:=I.list hq
  obtain⟨u,hu,ru⟩:=rv.get hx
  obtain⟨f0,f1,f2,f3,f4,f5⟩:=hf it bF
  refine wpAny_pyNext_list_item st p.isList (x:=u) (by simpa using hu) λh' st' sb=>?_
  have I1:Inv X au σ H {s with heap:=h'}:=I.turned (t':=s.toks) (λb o hb e=>(sb.2 b hb).trans e) f0 f1 f3 f4 f5
  obtain⟨o,e,c,d⟩:=id st'
  exact⟨u,rfl,P0 (s:={s with heap:=h'}) e c d bA ⟨x,H,I1,ru,⟨rfl,λys hy=>by rw[I.Vu hy hq];exact hx⟩,st',λb hb=>(hf b hb).1⟩⟩
 done:=by
  intro X hP hw hK hc i au s σ H E I hf st hg;subst hP hw hK
  obtain⟨xs,hq,hx⟩:=hg
  obtain⟨aK,rv,p,hz⟩:=I.list hq
  obtain⟨f0,f1,f2,f3,f4,f5⟩:=hf it bF
  have hl:=rv.length;exact wpAny_pyNext_list_end (I.ok.hd hc) st p.isList (by simp;lia) λh' eb=>⟨rfl,I.turned (t':=s.toks) (λb o hb e=>eb b o hb e) f0 f1 f3 f4 f5⟩
 self:=λ_ _ _ _ _ st h=>wpAny_pyIter_listiter st h
theorem ak8{P:fV}{w:dD}{K:bw}{tg:Expr}(a it:aH):Turn P w K tg (YX K a) [it] it (λi h=>h.IsTupleIter it a i) where
 mem:=bF
 obj:=λi h st b hb=>by
  have e:b=it:=by simpa using hb
  subst e
  obtain⟨o,e,c,d⟩:=st
  exact⟨o,e,λv z=>by rw[d] at z;cases z⟩
 keep:=λi h h' st k=>st.at λo e=>k it bF o e
 item:=by
  intro X hP hw hK hc i au s σ H E I hf st hg;subst hP hw hK
  obtain⟨xs,x,hq,hx⟩:=hg
  obtain⟨aK,rv,p,hz⟩:=I.tuple hq
  obtain⟨u,hu,ru⟩:=rv.get hx
  obtain⟨f0,f1,f2,f3,f4,f5⟩:=hf it bF
  refine wpAny_pyNext_tuple_item st (show s.heap.IsTuple a aK.toArray from p) (x:=u) (by simpa using hu) λh' st' sb=>?_
  have I1:Inv X au σ H {s with heap:=h'}:=I.turned (t':=s.toks) (λb o hb e=>(sb.2 b hb).trans e) f0 f1 f3 f4 f5
  obtain⟨o,e,c,d⟩:=id st'
  exact⟨u,rfl,P0 (s:={s with heap:=h'}) e c d bA ⟨x,H,I1,ru,⟨rfl,λys hy=>by rw[I.U5 hy hq];exact hx⟩,st',λb hb=>(hf b hb).1⟩⟩
 done:=by
  intro X hP hw hK hc i au s σ H E I hf st hg;subst hP hw hK
  obtain⟨xs,hq,hx⟩:=hg
  obtain⟨aK,rv,p,hz⟩:=I.tuple hq
  obtain⟨f0,f1,f2,f3,f4,f5⟩:=hf it bF
  have hl:=rv.length;exact wpAny_pyNext_tuple_end (I.ok.hd hc) st (show s.heap.IsTuple a aK.toArray from p) (by simp;lia) λh' eb=>⟨rfl,I.turned (t':=s.toks) (λb o hb e=>eb b o hb e) f0 f1 f3 f4 f5⟩
 self:=λ_ _ _ _ _ st h=>wpAny_pyIter_tupleiter st h
theorem ak9{P:fV}{w:dD}{K:bw}{tg:Expr}(it:aH)(lo:Int)(n:Nat):Turn P w K tg (QM lo n) [it] it (λi h=>IsRangeIter h it (lo+(i:Nat)*1) ((n:Int)-(i:Nat)) 1) where
 mem:=bF
 obj:=λi h st b hb=>by
  have e:b=it:=by simpa using hb
  subst e
  exact⟨_,st,λv z=>by
   have z':Data.fields _=Data.cell v:=z;cases z'⟩
 keep:=λi h h' st k=>k it bF _ st
 item:=by
  intro X hP hw hK hc i au s σ H E I hf st hg;subst hP hw hK
  obtain⟨f0,f1,f2,f3,f4,f5⟩:=hf it bF
  have W:=Walks.range (prog:=X.prog) (w:=X.w) (I.ok.hd hc) it lo 1 n;refine W.item i s _ _ hg st λv h' tk hv st' kk=>?_
  obtain⟨t,rfl⟩:=hv
  have I1:Inv X au σ H {s with heap:=h',toks:=tk}:=I.turned (λb o hb e=>kk b o (by simpa using hb) e) f0 f1 f3 f4 f5
  refine⟨_,rfl,P0 (s:={s with heap:=h',toks:=tk}) (n:="range_iterator") st' rfl rfl bA ⟨.int (lo+i),H,I1,⟨t,?_⟩,⟨rfl,rfl⟩,st',λb hb=>(hf b hb).1⟩⟩
  rw[Int.mul_one]
 done:=by
  intro X hP hw hK hc i au s σ H E I hf st hg;subst hP hw hK
  obtain⟨f0,f1,f2,f3,f4,f5⟩:=hf it bF
  exact wpAny_pyNext_range_end (I.ok.hd hc) st (by have:n<=i:=hg;lia) λh' eb=>⟨rfl,I.turned (t':=s.toks) (λb o hb e=>eb b o hb e) f0 f1 f3 f4 f5⟩
 self:=λ_ _ _ _ _ st h=>wpAny_pyIter_rangeiter st h
def arN(K:bw)(tl:TE):TI:=λσ H R=>tl σ H λx H1=>∃a,x=.ref a/\(∃xs,cj K H1 a xs)/\R (YW K a) H1
def as9(K:bw)(tl:TE):TI:=λσ H R=>tl σ H λx H1=>∃a,x=.ref a/\(∃xs,dg K H1 a xs)/\R (YX K a) H1
theorem Oe(hl:PE X l tl):PI X tg l (arN X.K tl):=by
 intro au s σ H R I h;refine b7 (hl au s σ H _ I h) λv s1 aY=>?_
 obtain⟨x,H1,I1,r1,q1⟩:=aY
 obtain⟨a,e,⟨xs,hq⟩,q⟩:=q1
 subst e;cases r1
 obtain⟨aK,rv,p,hz⟩:=I1.list hq
 refine K4 p.isList ?_
 refine⟨s1.heap.objs.size,[s1.heap.objs.size],_,_,H1,rfl,I1.kept (t':=s1.toks) λb o e=>cG _ e,al4 a _,⟨_,gR _ rfl,rfl,rfl⟩,λb hb=>?_,q⟩
 have e:b=s1.heap.objs.size:=by simpa using hb
 subst e;exact I1.wY (bU _) (I1.hok.fresh (bU _))
theorem Pa(hl:PE X l tl):PI X tg l (as9 X.K tl):=by
 intro au s σ H R I h;refine b7 (hl au s σ H _ I h) λv s1 aY=>?_
 obtain⟨x,H1,I1,r1,q1⟩:=aY
 obtain⟨a,e,⟨xs,hq⟩,q⟩:=q1
 subst e;cases r1
 obtain⟨aK,rv,p,hz⟩:=I1.tuple hq
 refine aad (show s1.heap.IsTuple a aK.toArray from p) ?_
 refine⟨s1.heap.objs.size,[s1.heap.objs.size],_,_,H1,rfl,I1.kept (t':=s1.toks) λb o e=>cG _ e,ak8 a _,⟨_,gR _ rfl,rfl,rfl⟩,λb hb=>?_,q⟩
 have e:b=s1.heap.objs.size:=by simpa using hb
 subst e;exact I1.wY (bU _) (I1.hok.fresh (bU _))
theorem ani{σ:St}{H:Hp}{s:aZ}{lo hi:Int}{t u v:Tok}{tk:Nat}(I:Inv X au σ H s)(h1:-(2^62)<=lo)(h2:lo<2^62)(h3:-(2^62)<=hi)(h4:hi<2^62)
  (q:R (QM lo (hi-lo).toNat) H):aQ (model X.prog X.w) X.A (BZ (.ref s.heap.objs.size)) (PIE X au σ tg R) E {s with heap:=s.heap.push {cls:=.type "range",data:=.fields #[.int lo t,.int hi u,.int 1 v]},toks:=tk}:=by
 refine wpAny_pyIter_range (IsRange.new ..) (small_one h1 h2 h3 h4) ?_;have I1:Inv X au σ H {s with heap:=s.heap.push {cls:=.type "range",data:=.fields #[.int lo t,.int hi u,.int 1 v]},toks:=tk}:=I.kept λb o e=>cG _ e
 refine⟨(s.heap.push {cls:=.type "range",data:=.fields #[.int lo t,.int hi u,.int 1 v]}).objs.size,[(s.heap.push {cls:=.type "range",data:=.fields #[.int lo t,.int hi u,.int 1 v]}).objs.size],_,_,H,rfl,
  I1.kept (t':=tk) λb o e=>cG _ e,ak9 _ lo (hi-lo).toNat,?_,λb hb=>?_,q⟩
 .have e1:lo+((0:Nat):Int)*1=lo:=bF;have e2:(((hi-lo).toNat:Nat):Int)-((0:Nat):Int)=av3 lo hi 1:=by rw[rangeSize_one];split<;>lia
  show IsRangeIter _ _ (lo+((0:Nat):Int)*1) ((((hi-lo).toNat:Nat):Int)-((0:Nat):Int)) 1;rw[e1,e2];exact gR _ rfl
 .have e:b=(s.heap.push {cls:=.type "range",data:=.fields #[.int lo t,.int hi u,.int 1 v]}).objs.size:=by simpa using hb
  subst e;exact I1.wY (bU _) (I1.hok.fresh (bU _))
def arO(ta:TA):TI:=λσ H R=>ta σ H λvs H1=>∃j:Int,vs=[.int j]/\-(2^62)<=j/\j<2^62/\R (QM 0 j.toNat) H1
theorem al5(hg:Gl X "range")(hm:X.mg "range"=ao)(ha:PA X [a] ta)(hs:bM [a] X.env=[(aA,eval a X.env)]:=by rfl):PI X tg (.Call (.Name "range" p) [a] [] pos) (arO ta):=by
 intro au s σ H R I h;refine Call_ (wI I hg hm boot_range (KD (b7 (ha pos au s σ H _ I h) λus s1 aY=>?_) hs rfl))
 obtain⟨vs,H1,I1,r1,q1⟩:=aY
 obtain⟨j,e,q1,q2,q⟩:=q1
 subst e;cases r1 with
 |cons r rr=>
  cases rr
  obtain⟨t,rfl⟩:=r
  exact call_range_1 (ani I1 az az q1 q2 (by simpa using q))
def agy(wi:TI)(g:TG)(tb:TS):TS:=λD σ H=>wi σ H λJ H1=>∃W:Nat->Nat->St->Hp->Prop,(∃m,W 0 m σ H1)/\∀i m σ H,W i m σ H->
 (J.stop i H/\D.nx σ H)\/(J.go i H/\∃N:St->Hp->Prop,(∀σ' H',N σ' H'->∃m',m'<m/\W (i+1) m' σ' H')/\∀x H',J.J1 i H x H'->g x σ H' λσ2 H2=>tb {D with nx:=N,ct:=N,bk:=D.nx} σ2 H2)
def Jm(fp:List aH)(h:cu):List (aH×Obj):=fp.filterMap λb=>(h.get? b).map λo=>(b,o)
theorem MP(hb:b∈fp)(e:h.get? b=aa o):(b,o)∈Jm fp h:=aae.mpr ⟨b,hb,by rw[e];rfl⟩
theorem al6(hp:p∈Jm fp h):p.1∈fp/\h.get? p.1=aa p.2:=by
 obtain⟨b,hb,e⟩:=aae.mp hp
 cases q:h.get? b with
 |none=>rw[q] at e;cases e
 |some o=>
  rw[q] at e;have e':(b,o)=p:=jj e;subst e'
  exact⟨hb,q⟩
theorem Inv.pinned{σ:St}{H:Hp}(I:Inv X au σ H s)(hf:∀b∈fp,lU X au H b)(ho:∀b∈fp,∃o,s.heap.get? b=aa o/\∀v,o.data≠.cell v):Inv X (au++Jm fp s.heap) σ H s:=
 I.aej λp hp=>(eO.mp hp).elim (λz=>I.pin p (gw _ z)) λz=>by
  obtain⟨hb,e⟩:=al6 z
  obtain⟨f0,f1,f2,_⟩:=hf p.1 hb
  obtain⟨o,e',d⟩:=ho p.1 hb
  rw[e] at e';cases e'
  exact⟨e,f0,f1,f2,d⟩
theorem Inv.Nv{σ:St}{H:Hp}(I:Inv X (au++pl) σ H s):Inv X au σ H s:=I.aej λp hp=>I.pin p (gw _ (jR _ hp))
theorem aqt(hp:U7 (model X.prog X.w) X.A X.env X.xe)(hc:X.calm=aq)(hi:PI X tg iter wi)(hg:PG X tg g)(hb:lg X body tb)
  (hs:∀x,uN iter X.env x=pure x:=by intro _;rfl):PS X (.For tg iter body [] pos) (agy wi g tb):=by
 intro au s σ H D I h;refine wpAny_For (b7 (hi au s σ H _ I h) λv s1 h1=>b7 h1 λitv s2 h2=>?_) hs
 obtain⟨it,fp,tn,J,H2,e,I2,T,st2,f2,W,⟨m0,w0⟩,turn⟩:=h2
 subst e;have stat:∀{H':Hp},(∀b∈fp,H' b=ao)->∀b∈fp,lU X au H' b:=λhn b hb=>⟨hn b hb,(f2 b hb).2⟩
 refine codeAny_forLoop_any (λn s'=>∃i σ' H',Inv X au σ' H' s'/\tn i s'.heap/\(∀b∈fp,H' b=ao)/\W i n σ' H') ?_ m0 ⟨0,σ,H2,I2,st2,λb hb=>(f2 b hb).1,w0⟩;rintro n s3 ⟨i,σ3,H3,I3,st3,J2,w3⟩;rcases turn i n σ3 H3 w3 with⟨stop,qn⟩|⟨go,N,hN,step⟩
 .refine DN hp (b7 (T.done X rfl rfl rfl hc i au s3 σ3 H3 X.xe I3 (stat J2) st3 stop) λr s4 aY=>?_)
  obtain⟨hr,I4⟩:=aY
  subst hr;exact RP ⟨σ3,H3,I4,qn⟩
 .refine DN hp (b7 (T.item X rfl rfl rfl hc i au s3 σ3 H3 X.xe I3 (stat J2) st3 go) λr s4 aY=>?_)
  obtain⟨u,hr,h4⟩:=aY
  subst hr;refine DN hp (b7 h4 λ_ s5 aY=>?_)
  obtain⟨x,H5,I5,r5,y5,Dl,YZ⟩:=aY
  have Y0:=I5.pinned (stat YZ) (T.obj _ _ Dl);refine DN hp (b7 (hg _ s5 σ3 H5 x u _ Y0 r5 (step x H5 y5)) λ_ s6 aY=>?_)
  obtain⟨σ6,H6,I6,q6⟩:=aY
  refine DN hp (b7 (hb _ s6 σ6 H6 _ I6 q6) λf s7 q7=>?_);have again:∀{σ7:St}{H7:Hp},Inv X (au++Jm fp s5.heap) σ7 H7 s7->N σ7 H7->∃m,m<n/\∃i σ' H',Inv X au σ' H' s7/\tn i s7.heap/\(∀b∈fp,H' b=ao)/\W i m σ' H':=λ{σ7 H7} I7 n7=>by
   obtain⟨m',hm,w7⟩:=hN σ7 H7 n7
   refine⟨m',hm,i+1,σ7,H7,I7.Nv,T.keep _ _ _ Dl λb hb o e=>(I7.pin (b,o) (gw _ (gw _ (MP hb e)))).1,λb hb=>?_,w7⟩
   obtain⟨o,e,d⟩:=T.obj _ _ Dl b hb
   exact(I7.pin (b,o) (gw _ (gw _ (MP hb e)))).2.1
  cases f with
  |next=>obtain⟨σ7,H7,I7,n7⟩:=q7;exact again I7 n7
  |cont=>obtain⟨σ7,H7,I7,n7⟩:=q7;exact again I7 n7
  |brk=>obtain⟨σ7,H7,I7,q7⟩:=q7;exact⟨σ7,H7,I7.Nv,q7⟩
  |ret v=>obtain⟨x7,σ7,H7,I7,r7,q7⟩:=q7;exact⟨x7,σ7,H7,I7.Nv,r7,q7⟩
abbrev R2:=V->V->Hp->VK->Prop
def dR(X:Cx)(f:aL->aL->Sem aL)(r:R2):Prop:=
 ∀(au:List (aH×Obj))(s:aZ)(σ:St)(H:Hp)(x y:V)(v u:aL)(Q:VK),Inv X au σ H s->RelV x v->RelV y u->r x y H Q->
  aQ (model X.prog X.w) X.A (f v u) (EP X au σ Q) X.xe s
def Y4(X:Cx)(f:aL->Sem aL)(r:V->Hp->VK->Prop):Prop:=
 ∀(au:List (aH×Obj))(s:aZ)(σ:St)(H:Hp)(x:V)(v:aL)(Q:VK),Inv X au σ H s->RelV x v->r x H Q->
  aQ (model X.prog X.w) X.A (f v) (EP X au σ Q) X.xe s
def jm(X:Cx)(f:aL)(r:List V->Hp->VK->Prop):Prop:=
 ∀(au:List (aH×Obj))(s:aZ)(σ:St)(H:Hp)(xs:List V)(us:List aL)(Q:VK),Inv X au σ H s->Vals xs us->r xs H Q->
  aQ (model X.prog X.w) X.A (call f us) (EP X au σ Q) X.xe s
def ata(X:Cx)(r:V->Hp->(Bool->Hp->Prop)->Prop):Prop:=
 ∀(au:List (aH×Obj))(s:aZ)(σ:St)(H:Hp)(x:V)(v:aL)(Q:Bool->Hp->Prop),Inv X au σ H s->RelV x v->r x H Q->
  aQ (model X.prog X.w) X.A (truthy v) (TP X au σ Q) X.xe s
def J3(r:R2)(ta tb:TE):TE:=λσ H Q=>ta σ H λx H1=>tb σ H1 λy H2=>r x y H2 Q
def tUn(r:V->Hp->VK->Prop)(ta:TE):TE:=λσ H Q=>ta σ H λx H1=>r x H1 Q
def rI(C:Int->Int->Prop)(g:Int->Int->V):R2:=λx y H Q=>∃i j,x=.int i/\y=.int j/\C i j/\Q (g i j) H
def tR(g:Int->Int->V):R2:=λx y H Q=>∃i j,x=.int i/\y=.int j/\Q (g i j) H
def rU(g:Int->V):V->Hp->VK->Prop:=λx H Q=>∃i,x=.int i/\Q (g i) H
theorem Yq(ha:PE X a ta)(hb:PE X b tb){s:aZ}{σ:St}{H:Hp}{R:V->V->Hp->Prop}(I:Inv X au σ H s)
  (h:ta σ H λx H1=>tb σ H1 λy H2=>R x y H2){f:aL->aL->Sem aL}
  (hf:∀v u s2 x y H2,Inv X au σ H2 s2->RelV x v->RelV y u->R x y H2->aQ (model X.prog X.w) X.A (f v u) Q X.xe s2):
  aQ (model X.prog X.w) X.A (eval a X.env) (λv s₁=>aQ (model X.prog X.w) X.A (eval b X.env) (λu s₂=>aQ (model X.prog X.w) X.A (f v u) Q X.xe s₂) X.xe s₁) X.xe s:=by
 refine b7 (ha au s σ H _ I h) λv s1 aY=>?_
 obtain⟨x,H1,I1,r1,q1⟩:=aY
 refine b7 (hb au s1 σ H1 _ I1 q1) λu s2 aY=>?_
 obtain⟨y,H2,I2,r2,q2⟩:=aY
 exact hf v u s2 x y H2 I2 r1 r2 q2
theorem arP(ho:dR X (pC op) r)(ha:PE X a ta)(hb:PE X b tb):PE X (.BinOp a op b pos) (J3 r ta tb):=by
 intro au s σ H Q I h;exact wpAny_BinOp (Yq ha hb I h λv u s2 x y H2 I2 rx ry q=>ho au s2 σ H2 x y v u Q I2 rx ry q)
theorem arQ(ho:Y4 X (unaryOp op) r)(ha:PE X a ta):PE X (.UnaryOp op a pos) (tUn r ta):=by
 intro au s σ H Q I h;exact UnaryOp_ (b7 (ha au s σ H _ I h) λv s1 ⟨x,H1,I1,r1,q1⟩=>ho au s1 σ H1 x v Q I1 r1 q1)
theorem QS{g:Int->Int->Int}
  (rule:∀(i j:Int)(t u:Tok)(s:aZ)(Q:aL->aZ->Prop)(E:aL->aZ->Prop),C i j->Q (.int (g i j) s.toks) {s with toks:=s.toks+1}->aQ (model X.prog X.w) X.A (f (.int i t) (.int j u)) Q E s):
  dR X f (rI C λi j=>.int (g i j)):=by
 intro au s σ H x y v u Q I rx ry h
 obtain⟨i,j,rfl,rfl,hc,q⟩:=h
 obtain⟨t,rfl⟩:=rx
 obtain⟨t',rfl⟩:=ry
 exact rule i j t t' s _ _ hc ⟨.int (g i j),H,I.tok _,⟨_,rfl⟩,q⟩
theorem agz{g:Int->Int->Int}
  (rule:∀(i j:Int)(t u:Tok)(s:aZ)(Q:aL->aZ->Prop)(E:aL->aZ->Prop),Q (.int (g i j) s.toks) {s with toks:=s.toks+1}->aQ (model X.prog X.w) X.A (f (.int i t) (.int j u)) Q E s):
  dR X f (tR λi j=>.int (g i j)):=by
 intro au s σ H x y v u Q I rx ry h
 obtain⟨i,j,rfl,rfl,q⟩:=h
 obtain⟨t,rfl⟩:=rx
 obtain⟨t',rfl⟩:=ry
 exact rule i j t t' s _ _ ⟨.int (g i j),H,I.tok _,⟨_,rfl⟩,q⟩
theorem Yr{g:Int->Int->Bool}
  (rule:∀(i j:Int)(t u:Tok)(s:aZ)(Q:aL->aZ->Prop)(E:aL->aZ->Prop),Q (.bool (g i j)) s->aQ (model X.prog X.w) X.A (f (.int i t) (.int j u)) Q E s):
  dR X f (tR λi j=>.bl (g i j)):=by
 intro au s σ H x y v u Q I rx ry h
 obtain⟨i,j,rfl,rfl,q⟩:=h
 obtain⟨t,rfl⟩:=rx
 obtain⟨t',rfl⟩:=ry
 exact rule i j t t' s _ _ ⟨.bl (g i j),H,I,rfl,q⟩
def agA(i j:Int):Prop:=0<j/\j<1073741824
def agB(i j:Int):Prop:=0<=j/\j<=1000000/\i.natAbs<2^64
def Qu(i j:Int):Prop:=(-(2^64)<i/\i<2^64)\/(-(2^64)<j/\j<2^64)
theorem Qu.ok(h:Qu i j):IntMulOk i j:=by
 rcases h with⟨h1,h2⟩|⟨h1,h2⟩
 .exact .of_left (intBits_le_64 h1 h2)
 .exact .of_right (intBits_le_64 h1 h2)
theorem aqu:dR X (pC .Add) (tR λi j=>.int (i+j)):=agz λ_ _ _ _ _ _ _ q=>add_int q
theorem FP:dR X (pC .Sub) (tR λi j=>.int (i-j)):=agz λ_ _ _ _ _ _ _ q=>sub_int q
theorem yh:dR X (pC .Mult) (rI Qu λi j=>.int (i*j)):=QS λ_ _ _ _ _ _ _ hc q=>mul_int q hc.ok
theorem aem:dR X (pC .FloorDiv) (rI agA λi j=>.int (i / j)):=QS λi j _ _ _ _ _ hc q=>by
 have h1:(0:Int)<j:=hc.1;have h2:j<1073741824:=hc.2;exact floordiv_int az (by rw[Int.fdiv_eq_ediv_of_nonneg i az];exact q) (.inl (PyProof.noPylong_small az))
theorem Ca:dR X (pC .Mod) (rI (λ_ j=>0<j) λi j=>.int (i%j)):=QS λi j _ _ _ _ _ hc q=>by
 have h1:(0:Int)<j:=hc;exact mod_int' az (by rw[Int.fmod_eq_emod_of_nonneg i az];exact q)
theorem Jo:dR X (pC .Pow) (rI agB λi j=>.int (i^j.toNat)):=QS λ_ _ _ _ _ _ _ hc q=>pow_int_small hc.1 hc.2.1 hc.2.2 q
theorem unI{g:Int->Int}
  (rule:∀(i:Int)(t:Tok)(s:aZ)(Q:aL->aZ->Prop)(E:aL->aZ->Prop),Q (.int (g i) s.toks) {s with toks:=s.toks+1}->aQ (model X.prog X.w) X.A (f (.int i t)) Q E s):
  Y4 X f (rU λi=>.int (g i)):=by
 intro au s σ H x v Q I rx h
 obtain⟨i,rfl,q⟩:=h
 obtain⟨t,rfl⟩:=rx
 exact rule i t s _ _ ⟨.int (g i),H,I.tok _,⟨_,rfl⟩,q⟩
theorem aqv:Y4 X (unaryOp .USub) (rU λi=>.int (-i)):=unI λ_ _ _ _ _ q=>neg_int q
def Ys:V->V->Bool
 |.non,.non=>aq|.non,.int _=>aq|.int _,.non=>aq|.non,.bl _=>aq|.bl _,.non=>aq|.non,.str _=>aq|.str _,.non=>aq
 |.int _,.int _=>aq|.bl _,.bl _=>aq|.str _,.str _=>aq|.tQ _,.tQ _=>aq
 |.int _,.str _=>aq|.str _,.int _=>aq|.bl _,.str _=>aq|.str _,.bl _=>aq
 |_,_=>aA
def rEq:R2:=λx y H Q=>Ys x y=aq/\Q (.bl (decide (x=y))) H
def rNe:R2:=λx y H Q=>Ys x y=aq/\Q (.bl (!decide (x=y))) H
theorem Wv:decide (V.int i=V.int j)=(i==j):=by
 rw[uP];simp
theorem Xk:decide (V.bl i=V.bl j)=(i==j):=by
 rw[uP];simp
theorem Ww:decide (V.str i=V.str j)=(i==j):=by
 rw[uP];simp
theorem aen:decide (V.tQ i=V.tQ j)=(i.toList==j.toList):=by
 rw[uP];cases i;cases j;simp
section
variable{X:Cx}{a b c:Expr}{ta tb tc:TE}{pos:Pos}
theorem jf{σ:St}{H:Hp}{Q:VK}(I:Inv X au σ H s)(q:Q (.bl k) H)(e:k=k'):EP X au σ Q (.bool k') s:=by
 subst e
 exact⟨.bl k,H,I,rfl,q⟩
theorem arR:dR X (gM .Eq) rEq:=by
 intro au s σ H x y v u Q I rx ry h
 obtain⟨hs,q⟩:=h
 cases x with
 |non=>
  cases rx;cases y with
  |non=>cases ry;exact avB (jf I q bF)
  |bl j=>cases ry;exact avC (jf I q bF)
  |int j=>obtain⟨t',rfl⟩:=ry;exact avO (jf I q bF)
  |str j=>obtain⟨t',rfl⟩:=ry;exact avP (jf I q bF)
  |_=>exact absurd (show aA=aq from hs) jK
 |bl i=>
  cases rx;cases y with
  |non=>cases ry;exact avD (jf I q bF)
  |bl j=>cases ry;exact eq_bool (jf I q Xk)
  |str j=>obtain⟨t',rfl⟩:=ry;exact avE (jf I q bF)
  |_=>exact absurd (show aA=aq from hs) jK
 |int i=>
  obtain⟨t,rfl⟩:=rx
  cases y with
  |non=>cases ry;exact avQ (jf I q bF)
  |int j=>obtain⟨t',rfl⟩:=ry;exact eq_int (jf I q Wv)
  |str j=>obtain⟨t',rfl⟩:=ry;exact avR (jf I q bF)
  |_=>exact absurd (show aA=aq from hs) jK
 |str i=>
  obtain⟨t,rfl⟩:=rx
  cases y with
  |non=>cases ry;exact avS (jf I q bF)
  |bl j=>cases ry;exact avF (jf I q bF)
  |int j=>obtain⟨t',rfl⟩:=ry;exact avT (jf I q bF)
  |str j=>obtain⟨t',rfl⟩:=ry;exact eq_str (jf I q Ww)
  |_=>exact absurd (show aA=aq from hs) jK
 |tQ i=>
  obtain⟨t,rfl⟩:=rx
  cases y with
  |tQ j=>obtain⟨t',rfl⟩:=ry;exact PySem.W.eq_bytes (jf I q aen)
  |_=>exact absurd (show aA=aq from hs) jK
 |_=>cases y<;>exact absurd (show aA=aq from hs) jK
theorem arT:dR X (gM .NotEq) rNe:=by
 intro au s σ H x y v u Q I rx ry h
 obtain⟨hs,q⟩:=h
 cases x with
 |non=>
  cases rx;cases y with
  |non=>cases ry;exact avG (jf I q bF)
  |bl j=>cases ry;exact avH (jf I q bF)
  |int j=>obtain⟨t',rfl⟩:=ry;exact avU (jf I q bF)
  |str j=>obtain⟨t',rfl⟩:=ry;exact avV (jf I q bF)
  |_=>exact absurd (show aA=aq from hs) jK
 |bl i=>
  cases rx;cases y with
  |non=>cases ry;exact avI (jf I q bF)
  |bl j=>cases ry;exact ne_bool (jf I q (congrArg not Xk))
  |str j=>obtain⟨t',rfl⟩:=ry;exact avJ (jf I q bF)
  |_=>exact absurd (show aA=aq from hs) jK
 |int i=>
  obtain⟨t,rfl⟩:=rx
  cases y with
  |non=>cases ry;exact avW (jf I q bF)
  |int j=>obtain⟨t',rfl⟩:=ry;exact ne_int (jf I q (congrArg not Wv))
  |str j=>obtain⟨t',rfl⟩:=ry;exact avX (jf I q bF)
  |_=>exact absurd (show aA=aq from hs) jK
 |str i=>
  obtain⟨t,rfl⟩:=rx
  cases y with
  |non=>cases ry;exact avY (jf I q bF)
  |bl j=>cases ry;exact avK (jf I q bF)
  |int j=>obtain⟨t',rfl⟩:=ry;exact avZ (jf I q bF)
  |str j=>obtain⟨t',rfl⟩:=ry;exact ne_str (jf I q (congrArg not Ww))
  |_=>exact absurd (show aA=aq from hs) jK
 |tQ i=>
  obtain⟨t,rfl⟩:=rx
  cases y with
  |tQ j=>obtain⟨t',rfl⟩:=ry;exact PySem.W.ne_bytes (jf I q (congrArg not aen))
  |_=>exact absurd (show aA=aq from hs) jK
 |_=>cases y<;>exact absurd (show aA=aq from hs) jK
theorem arU:dR X (gM .LtE) (tR λi j=>.bl (decide (i<=j))):=Yr λ_ _ _ _ _ _ _ q=>le_int q
theorem af6:dR X (gM .Gt) (tR λi j=>.bl (decide (j<i))):=Yr λ_ _ _ _ _ _ _ q=>gt_int q
theorem Qa:dR X (gM .GtE) (tR λi j=>.bl (decide (j<=i))):=Yr λ_ _ _ _ _ _ _ q=>ge_int q
theorem afj:dR X (gM .Is) (λx y H Q=>y=.non/\Q (.bl (decide (x=.non))) H):=by
 intro au s σ H x y v u Q I rx ry h
 obtain⟨rfl,q⟩:=h
 cases ry;refine is_none_gen (jf I q ?_);cases x<;>first
  |(cases rx;rfl)
  |(obtain⟨t,rfl⟩:=rx;rfl)
theorem dR.or(h:dR X f r)(h':dR X f r'):dR X f (λx y H Q=>r x y H Q\/r' x y H Q):=by
 intro au s σ H x y v u Q I rx ry q;rcases q with q|q
 .exact h au s σ H x y v u Q I rx ry q
 .exact h' au s σ H x y v u Q I rx ry q
theorem iD(b:Expr)(h:op≠.In:=by decide)(h2:op≠.NotIn:=by decide):Hv op b=aA:=by
 have e1:(op==CmpOp.In)=aA:=by cases op<;>first|rfl|exact absurd rfl h
 have e2:(op==CmpOp.NotIn)=aA:=by cases op<;>first|rfl|exact absurd rfl h2
 cases b<;>simp[Hv,e1,e2]
theorem aoJ(ho:dR X (gM op) r)(ha:PE X a ta)(hb:PE X b tb)(hm:Hv op b=aA):PE X (.Compare a [op] [b] pos) (J3 r ta tb):=by
 intro au s σ H Q I h;exact wpAny_Compare1 (Yq ha hb I h λv u s2 x y H2 I2 rx ry q=>ho au s2 σ H2 x y v u Q I2 rx ry q) hm
def X5(t:TE):TT:=λσ H Q=>t σ H λx H'=>∃k,x=.bl k/\Q k H'
theorem aoK(ho:dR X (gM op) r)(ha:PE X a ta)(hb:PE X b tb)(hm:Hv op b=aA):PT X (.Compare a [op] [b] pos) (X5 (J3 r ta tb)):=by
 intro au s σ H Q I h;refine wpAny_isTrue_Compare1 (b7 (ha au s σ H _ I h) λv s1 ⟨x,H1,I1,r1,q1⟩=>b7 (hb au s1 σ H1 _ I1 q1) λu s2 ⟨y,H2,I2,r2,q2⟩=>
  b7 (ho au s2 σ H2 x y v u _ I2 r1 r2 q2) λc s3 ⟨z,H3,I3,r3,k,e,q3⟩=>?_) hm
 subst e;cases r3;exact vP ⟨H3,I3,q3⟩
def Xl(r r':R2)(ta tb tc:TE):TE:=λσ H Q=>ta σ H λx H1=>tb σ H1 λy H2=>r x y H2 λz H3=>∃k,z=.bl k/\
 (if k=aq then tc σ H3 λw' H4=>r' y w' H4 Q else Q (.bl aA) H3)
theorem anj(ho:dR X (gM op) r)(ho':dR X (gM op') r')(ha:PE X a ta)(hb:PE X b tb)(hc:PE X c tc)
  (hm:U8 [op,op'] [b,c]=aA:=by with_unfolding_all rfl):PE X (.Compare a [op,op'] [b,c] pos) (Xl r r' ta tb tc):=by
 intro au s σ H Q I h;refine Compare_chain (b7 (ha au s σ H _ I h) λv s1 ⟨x,H1,I1,r1,q1⟩=>chain_link (b7 (hb au s1 σ H1 _ I1 q1) λu s2 ⟨y,H2,I2,r2,q2⟩=>
  b7 (ho au s2 σ H2 x y v u _ I2 r1 r2 q2) λd s3 ⟨z,H3,I3,r3,k,e,q3⟩=>?_)) hm
 subst e;cases r3;refine vP ?_;cases k with
 |false=>exact ite_ff ⟨.bl aA,H3,I3,rfl,q3⟩
 |true=>exact ite_tt (chain_last (b7 (hc au s3 σ H3 _ I3 q3) λw' s4 ⟨z',H4,I4,r4,q4⟩=>ho' au s4 σ H4 y z' u w' Q I4 r2 r4 q4))
theorem ank(ho:dR X (gM op) r)(ho':dR X (gM op') r')(ha:PE X a ta)(hb:PE X b tb)(hc:PE X c tc)
  (hm:U8 [op,op'] [b,c]=aA:=by with_unfolding_all rfl):PT X (.Compare a [op,op'] [b,c] pos) (X5 (Xl r r' ta tb tc)):=by
 intro au s σ H Q I h;refine isTrue_chain (b7 (ha au s σ H _ I h) λv s1 ⟨x,H1,I1,r1,q1⟩=>test_link (b7 (hb au s1 σ H1 _ I1 q1) λu s2 ⟨y,H2,I2,r2,q2⟩=>
  b7 (ho au s2 σ H2 x y v u _ I2 r1 r2 q2) λd s3 ⟨z,H3,I3,r3,k,e,q3⟩=>?_)) hm
 subst e;cases r3;refine vP ?_;cases k with
 |false=>
  obtain⟨k',e',q'⟩:=q3
  cases e';exact ite_ff ⟨H3,I3,q'⟩
 |true=>
  refine ite_tt (test_last (b7 (hc au s3 σ H3 _ I3 q3) λw' s4 ⟨z',H4,I4,r4,q4⟩=>b7 (ho' au s4 σ H4 y z' u w' _ I4 r2 r4 q4) λd' s5 aY=>?_))
  obtain⟨z2,H5,I5,r5,k2,e2,q5⟩:=aY
  subst e2;cases r5;exact vP ⟨H5,I5,q5⟩
def Yt(K:bw)(x:V)(H:Hp)(k:Bool):Prop:=
 match x with
 |.non=>k=aA
 |.bl b=>k=b
 |.int i=>k=(i != 0)
 |.str y=>y.length<=cH/\k=((y.length:Int) != 0)
 |.tQ y=>y.size<=cH/\k=((y.size:Int) != 0)
 |.ref p=>(∃xs,cj K H p xs/\k=!xs.isEmpty)\/(∃xs,dg K H p xs/\k=!xs.isEmpty)\/∃aC ep,H p=aa (.dK aC ep)/\k=!aC.isEmpty
 |_=>False
theorem ala{aC:List (κ×V)}{vs:List (κ×aL)}(r:KV aC vs):(!vs.isEmpty)=!aC.isEmpty:=by
 cases r<;>rfl
theorem ab0(r:Vals xs aK):(!aK.toArray.isEmpty)=!xs.isEmpty:=by
 cases r<;>simp
theorem yj:(cH:Nat)<2^63:=by rw[lN];decide
theorem aqw:ata X (λx H Q=>∃k,Yt X.K x H k/\Q k H):=by
 intro au s σ H x v Q I rx h
 obtain⟨k,e,q⟩:=h
 have hl:=yj;have hs:cH=16777216:=lN;cases x with
 |non=>
  cases rx;have e':k=aA:=e;subst e';exact truthy_none ⟨H,I,q⟩
 |bl b=>
  cases rx;have e':k=b:=e;subst e';exact vP ⟨H,I,q⟩
 |int i=>
  obtain⟨t,rfl⟩:=rx
  have e':k=(i != 0):=e;subst e';exact PySem.P.truthy_int ⟨H,I,q⟩
 |str y=>
  obtain⟨t,rfl⟩:=rx
  obtain⟨hy,e'⟩:y.length<=cH/\k=((y.length:Int) != 0):=e
  subst e';exact PySem.P.truthy_str az ⟨H,I.tok _,q⟩
 |tQ y=>
  obtain⟨t,rfl⟩:=rx
  obtain⟨hy,e'⟩:y.size<=cH/\k=((y.size:Int) != 0):=e
  subst e';exact PySem.W.truthy_bytes az ⟨H,I.tok _,q⟩
 |ref p=>
  cases rx;have e':(∃xs,cj X.K H p xs/\k=!xs.isEmpty)\/(∃xs,dg X.K H p xs/\k=!xs.isEmpty)\/∃aC ep,H p=aa (.dK aC ep)/\k=!aC.isEmpty:=e;rcases e' with⟨xs,hx,e'⟩|⟨xs,hx,e'⟩|⟨aC,ep,hx,e'⟩
  .subst e'
   obtain⟨aK,r,pl,hz⟩:=I.list hx
   have hlen:=r.length;exact wpAny_truthy_list pl.isList (by simp only[gK];lia) ⟨H,I.tok _,by rw[ab0 r];exact q⟩
  .subst e'
   obtain⟨aK,r,pl,hz⟩:=I.tuple hx
   have hlen:=r.length;exact truthy_tuple pl (by simp only[gK];lia) ⟨H,I.tok _,by rw[ab0 r];exact q⟩
  .subst e'
   obtain⟨hz,hS,vs,r,m⟩:aC.length<=cH/\(p==sO)=aA/\∃vs,KV aC vs/\s.heap.DictAt (ou X.prog X.w) p vs ep:=I.hok p _ hx
   have hlen:aC.length=vs.length:=Paired.length r;exact wpAny_truthy_dict hS m.dictOf az ⟨H,I.tok _,by rw[ala r];exact q⟩
 |_=>exact(show False from e).elim
theorem anl(ha:PE X a ta)(he:∀whole,isTrue a X.env whole=(do let v <-whole;wF a.pos;rD [v] (truthy v))):
  PT X a (λσ H Q=>ta σ H λx H'=>∃k,Yt X.K x H' k/\Q k H'):=by
 intro au s σ H Q I h;exact isTrue_plain (b7 (ha au s σ H _ I h) λv s1 ⟨x,H1,I1,r1,q1⟩=>aqw au s1 σ H1 x v Q I1 r1 q1) (he _)
theorem alb:dR X (pC .Add) (λx y H Q=>∃i j,x=.str i/\y=.str j/\i.length+j.length<=cH/\Q (.str (i++j)) H):=by
 intro au s σ H x y v u Q I rx ry h
 obtain⟨i,j,rfl,rfl,hz,q⟩:=h
 obtain⟨t,rfl⟩:=rx
 obtain⟨t',rfl⟩:=ry
 exact add_str (λt' tk=>⟨.str (i++j),H,I.tok _,⟨_,rfl⟩,q⟩) hz
theorem vals1(r:Vals [x] us):∃u,us=[u]/\RelV x u:=by
 cases r with
 |cons r1 r2=>cases r2;exact⟨_,rfl,r1⟩
theorem vals2(r:Vals [x,y] us):∃u w',us=[u,w']/\RelV x u/\RelV y w':=by
 cases r with
 |cons r1 r2=>
  cases r2 with
  |cons r3 r4=>cases r4;exact⟨_,_,rfl,r1,r3⟩
theorem adg:jm X (.builtin "abs") (λxs H Q=>∃i,xs=[.int i]/\Q (.int (if i<0 then -i else i)) H):=by
 intro au s σ H xs us Q I r h
 obtain⟨i,rfl,q⟩:=h
 obtain⟨u,rfl,t,rfl⟩:=vals1 r
 exact call_abs_int λu tk=>⟨.int (if i<0 then -i else i),H,I.tok _,⟨_,rfl⟩,q⟩
theorem acz(hc:X.calm=aq):jm X (.builtin "max") (λxs H Q=>∃i j,xs=[.int i,.int j]/\Q (.int (if j>i then j else i)) H):=by
 intro au s σ H xs us Q I r h
 obtain⟨i,j,rfl,q⟩:=h
 obtain⟨u,w',rfl,⟨t,rfl⟩,⟨t',rfl⟩⟩:=vals2 r
 refine max_two_ints (I.ok.hd hc) λh' tk k=>⟨_,H,I.kept k,?_,q⟩
 by_cases hj:j>i
 .rw[bC hj,bC hj];exact⟨_,rfl⟩
 .rw[bB hj,bB hj];exact⟨_,rfl⟩
theorem al7(hc:X.calm=aq):jm X (.builtin "min") (λxs H Q=>∃i j,xs=[.int i,.int j]/\Q (.int (if j<i then j else i)) H):=by
 intro au s σ H xs us Q I r h
 obtain⟨i,j,rfl,q⟩:=h
 obtain⟨u,w',rfl,⟨t,rfl⟩,⟨t',rfl⟩⟩:=vals2 r
 refine min_two_ints (I.ok.hd hc) λh' tk k=>⟨_,H,I.kept k,?_,q⟩
 by_cases hj:j<i
 .rw[bC hj,bC hj];exact⟨_,rfl⟩
 .rw[bB hj,bB hj];exact⟨_,rfl⟩
theorem al8:jm X (.type "int") (λxs H Q=>(∃i,xs=[.int i]/\Q (.int i) H)\/∃k,xs=[.bl k]/\Q (.int (if k then 1 else 0)) H):=by
 intro au s σ H xs us Q I r h;rcases h with⟨i,rfl,q⟩|⟨k,rfl,q⟩
 .obtain⟨u,rfl,t,rfl⟩:=vals1 r
  exact call_int_int ⟨.int i,H,I,⟨_,rfl⟩,q⟩
 .obtain⟨u,rfl,r1⟩:=vals1 r
  cases r1;exact call_int_bool ⟨.int (if k then 1 else 0),H,I.tok _,⟨_,rfl⟩,q⟩
end
structure Yu(h:cu)(x dx C:aH)(mA:Str->Option aL):Prop where
 obj:h.get? x=aa (aaN C dx)
 ns:h.Ns1 dx mA
 ne:dx≠x
theorem al9{h:cu}(n:h.Ns1 dx mA):∃od,h.get? dx=aa od/\∀name,aa2 name od=aa (mA name):=by
 obtain⟨o,es,ep,ho,hd,hk,_,hm⟩:=n
 refine⟨o,ho,λname=>?_⟩
 have e:=hm name;unfold nsFind findBy at e;rw[<-Array.find?_toList] at e;unfold aa2;rw[hd];dsimp only;split
 .rename_i y q;rw[q] at e;exact congrArg aa e
 .rename_i q;rw[q] at e;have a:es.toList.any (·.refKey)=aA:=by
   rw[aiB];intro y hy
   obtain⟨z,t,hkey⟩:=hk y (Array.mem_toList_iff.mp hy)
   simp[DictEntry.refKey,hkey]
  have a':¬es.toList.any (·.refKey)=aq:=by rw[a];exact jK
  rw[bB a'];exact congrArg aa e
theorem Yu.look(I:Yu h x dx C mA):∃od,PySem.W.InstAt h x (aaN C dx) C (aa od)/\∀name,aa2 name od=aa (mA name):=
 let ⟨od,ho,hl⟩:=al9 I.ns
 ⟨od,⟨I.obj,rfl,rfl,ho⟩,hl⟩
theorem tK.some_of(r:tK (aa v) o):∃u,o=aa u/\RelV v u:=by
 cases o with
 |none=>exact(show False from r).elim
 |some u=>exact⟨u,rfl,r⟩
theorem aeo(hok:jM P w H h)(e:H a=aa (.ins C dx fs)):∃mA,Yu h a dx C mA/\(∀f,tK (fs.lookup f) (mA f))/\aj8 mA (fs.map (·.1))/\fs.length<=1000/\H dx=aa (.own a):=by
 obtain⟨d,z,ne,ob,mA,n,r,q⟩:=(show gn P w H h a (.ins C dx fs) from hok a _ e)
 exact⟨mA,⟨ob,n,ne⟩,r,q,z,d⟩
structure Y5(K:bw)(C:aH):Prop where
 pg:aiZ K C Str.empty=aq
 hd:PySem.W.hasDictIn K C=aq
 po:PySem.W.plainOver K C=aq
 sa:aa3 K (.ref C) "__setattr__"=aa (aa (.builtin "object.__setattr__"))
theorem Y5.get{K:bw}(c:Y5 K C)(f:Str):aiZ K C f=aq:=c.pg
section
variable{X:Cx}{au:List (aH×Obj)}{σ:St}{H:Hp}{s:aZ}{A:iz}{E:aL->aZ->Prop}{Q:aL->aZ->Prop}{c:aL}{b:Bool}
inductive pK(K:bw)(H:Hp):V->aL->Prop where
 |non:pK K H .non (.type "NoneType")
 |bl (x:Bool):pK K H (.bl x) (.type "bool")
 |int (i:Int):pK K H (.int i) (.type "int")
 |str (x:Str):pK K H (.str x) (.type "str")
 |flt (x:UInt64):pK K H (.flt x) (.type "float")
 |lst {a:aH} {xs:List V} (e:H a=aa (.lst xs)):pK K H (.ref a) (.type "list")
 |qb {a:aH} {o:Obj} {xs:List V} (e:H a=aa (.qb o (.lst xs))):pK K H (.ref a) (.type "list")
 |tup {a:aH} {xs:List V} (e:H a=aa (.tup xs)):pK K H (.ref a) (.type "tuple")
 |dK {a:aH} {aC:List (Key×V)} {ep:Nat} (e:H a=aa (.dK aC ep)):pK K H (.ref a) (.type "dict")
 |dT {a:aH} {aC:List (List Key×V)} {ep:Nat} (e:H a=aa (.dT aC ep)):pK K H (.ref a) (.type "dict")
 |ins {a C dx:aH} {fs:List (Str×V)} (e:H a=aa (.ins C dx fs)) (cl:Y5 K C) (ha:aa3 K (.ref C) "__class__"=aa (aa (.builtin "object.__class__")))
   (hn:PySem.W.specialIn K (.builtin "object.__class__") "__get__"=aa (aa (.builtin "getset_descriptor.__get__"))) (htk:PySem.W.takesIn K (.builtin "object.__class__")=aa aq)
   (hm:PySem.W.mroIn K C (.type "object")=aa aq):pK K H (.ref a) (.ref C)
theorem ama(I:Inv X au σ H s)(rx:RelV x u)(ty:pK X.K H x t)(e:DR X.K t c=aa b)(h:∀tk,Q (.bool b) {s with toks:=tk}):
  aQ (model X.prog X.w) A (call (.builtin "isinstance") [u,c]) Q E s:=by
 cases ty with
 |non=>cases(show u=j6 from rx);exact vU aiC I.jY qt e (λz=>nomatch z) h
 |bl y=>cases(show u=uU y from rx);exact vU aiD I.jY qt e (λz=>nomatch z) h
 |int i=>obtain⟨t,q⟩:=(show ∃t,u=zJ i t from rx);cases q;exact vU ai0 I.jY qt e (λz=>nomatch z) h
 |str y=>obtain⟨t,q⟩:=(show ∃t,u=M6 y t from rx);cases q;exact vU ai1 I.jY qt e (λz=>nomatch z) h
 |flt y=>obtain⟨t,q⟩:=(show ∃t,u=abJ y t from rx);cases q;exact vU aiu I.jY qt e (λz=>nomatch z) h
 |@lst a xs ea=>
  cases(show u=dJ a from rx)
  obtain⟨_,_,n,_,h1⟩:=(show gn X.prog X.w H s.heap a (.lst xs) from I.hok a _ ea)
  exact vU Rr I.jY ⟨_,h1,rfl⟩ e (λz=>nomatch z) h
 |@qb a ob xs ea=>
  cases(show u=dJ a from rx)
  obtain⟨_,_,_,n,_,h1⟩:=(show gn X.prog X.w H s.heap a (.qb ob (.lst xs)) from I.hok a _ ea)
  exact vU Rr I.jY ⟨_,h1,rfl⟩ e (λz=>nomatch z) h
 |@tup a xs ea=>
  cases(show u=dJ a from rx)
  obtain⟨_,_,_,p⟩:=(show gn X.prog X.w H s.heap a (.tup xs) from I.hok a _ ea)
  obtain⟨o,h1,h2,_⟩:=p
  exact vU aiv I.jY ⟨o,h1,h2⟩ e (λz=>nomatch z) h
 |@dK a aC epo ea=>
  cases(show u=dJ a from rx)
  obtain⟨_,_,vs,_,p⟩:=(show gn X.prog X.w H s.heap a (.dK aC epo) from I.hok a _ ea)
  obtain⟨o,es,h1,h2,_⟩:=p
  exact vU Rt I.jY ⟨o,h1,h2.1⟩ e (λz=>nomatch z) h
 |@dT a aC epo ea=>
  cases(show u=dJ a from rx)
  obtain⟨_,_,xs,_,o,es,h1,h2,_⟩:=(show gn X.prog X.w H s.heap a (.dT aC epo) from I.hok a _ ea)
  exact vU Rt I.jY ⟨o,h1,h2.1⟩ e (λz=>nomatch z) h
 |@ins a C dx fs ea cl ha hn htk hm=>
  cases(show u=dJ a from rx)
  obtain⟨mA,O,_⟩:=aeo I.hok ea
  obtain⟨od,J,_⟩:=O.look
  exact vU (ai2 (cl.get _) cl.hd ha hn htk hm) I.jY J e (λz=>nomatch z) h
end
structure kY(k:Nat)(A:iz):Prop where
 hd:A.handled=ao
 dp:A.depth+3*k+5<recursionLimit
 un:A.units+16*k+200<iG
 gd:A.guards=aa []
theorem kY.mono(r:kY k A)(h:j<=k):kY j A:=⟨r.hd,by have:=r.dp;lia,by have:=r.un;lia,r.gd⟩
theorem kY.deeper(r:kY (k+1) A)(aj:Env):kY k (A.deeper aj):=
 ⟨r.hd,by have:=r.dp;show A.depth+1+3*k+5<_;lia,by have:=r.un;show A.units+3+16*k+200<_;lia,r.gd⟩
theorem kY.depth(r:kY k A):A.depth<recursionLimit:=by have:=r.dp;lia
theorem kY.units(r:kY k A):A.units+64<iG:=by have:=r.un;lia
theorem kY.Xm(r:kY k A):A.units<iG:=by have:=r.un;lia
def atb:TA:=λ_ H Q=>Q [] H
def arV(ta:TE)(tr:TA):TA:=λσ H Q=>ta σ H λx H1=>tr σ H1 λxs H2=>Q (x::xs) H2
theorem ur:PA X [] atb:=λ_ _ _ _ H Q I h=>K5 ⟨[],H,I,.nil,h⟩
theorem qx(ha:PE X e te)(hr:PA X es t)(hs:bM (e::es) X.env=(aA,eval e X.env)::bM es X.env:=by rfl):PA X (e::es) (arV te t):=by
 intro pos au s σ H Q I h;rw[hs];show aQ _ _ (Jb ((aA,eval e X.env)::iC pos (bM es X.env))) _ _ s;refine Hf (b7 (ha au s σ H _ I h) λu s1 aY=>?_)
 obtain⟨x,H1,I1,r1,q1⟩:=aY
 exact b7 (hr pos au s1 σ H1 _ I1 q1) λus s2 ⟨xs,H2,I2,r2,q2⟩=>⟨x::xs,H2,I2,.cons r1 r2,q2⟩
def atc(t:TA):TE:=λσ H Q=>t σ H λxs H1=>xs.length<=cH/\∀p,H1 p=ao->Q (.ref p) (upd H1 p (.tup xs))
def atd(t:TA):TE:=λσ H Q=>t σ H λxs H1=>xs.length<=cH/\∀p,H1 p=ao->Q (.ref p) (upd H1 p (.lst xs))
theorem Xn{x1}(h:PA X es t):PE X (.Tuple es x1 pos) (atc t):=by
 intro au s σ H Q I hq;refine wpAny_Tuple_spliced (b7 (h pos au s σ H _ I hq) λus s1 ⟨xs,H1,I1,r,z,q⟩=>⟨by rw[<-r.length];exact z,?_⟩);have hf:H1 s1.heap.objs.size=ao:=I1.hok.fresh (bU _)
 refine⟨.ref s1.heap.objs.size,upd H1 s1.heap.objs.size (.tup xs),I1.laid (t':=s1.toks) (λb u e=>cG _ e) (bU _) ?_,rfl,q _ hf⟩
 exact⟨z,us,r,⟨_,gR _ rfl,rfl,_,rfl⟩⟩
theorem aqx(h:PA X es t):PE X (.List es pos) (atd t):=by
 intro au s σ H Q I hq;refine wpAny_List_spliced (b7 (h pos au s σ H _ I hq) λus s1 ⟨xs,H1,I1,r,z,q⟩=>⟨by rw[<-r.length];exact z,?_⟩);have hf:H1 s1.heap.objs.size=ao:=I1.hok.fresh (bU _)
 refine⟨.ref s1.heap.objs.size,upd H1 s1.heap.objs.size (.lst xs),I1.laid (t':=s1.toks) (λb u e=>cG _ e) (bU _) ?_,rfl,q _ hf⟩
 exact⟨z,us,0,r,gR _ rfl⟩
abbrev Sp:=List V->Hp->VK->XK->Prop
abbrev xF:=List Env->Hp->aZ->XK->aL->aZ->Prop
structure Qv(P:fV)(w:dD)(K:bw)(mg:Str->Option aL)(base:cu)(A:iz)(outer:List Env)(s:aZ)(H:Hp):Prop where
 frames:A.frames=aa outer
 mod:Mod K mg base
 bs:∀b o,base.get? b=aa o->s.heap.get? b=aa o/\H b=ao
 Ai:base.objs.size<=s.heap.objs.size
 vp:s.heap.FunFrames base outer
 GJ:∀b∈frs outer,H b=ao
 hok:jM P w H s.heap
 bare:AllBare s.gens
def CE(outer:List Env)(P:fV)(w:dD)(H:Hp)(s:aZ)(Q:VK)(u:aL)(s':aZ):Prop:=
 ∃v H',s'.os=s.os/\AllBare s'.gens/\Un (frs outer) [] H H' s.heap s'.heap/\jM P w H' s'.heap/\RelV v u/\Q v H'
def CR(CX:xF)(outer:List Env)(P:fV)(w:dD)(H:Hp)(s:aZ)(Q:VK)(E:XK)(r:zX)(s':aZ):Prop:=
 match r with
 |.ok (.ret u)=>CE outer P w H s Q u s'
 |.ok _=>False
 |.error e=>CX outer H s E e s'
structure fX(P:fV)(w:dD)(K:bw)(mg:Str->Option aL)(base:cu)(CX:xF)(k:Nat)(f:aH)(fd:wC)(ps:List Str)(sp:Sp):Prop where
 len:∀vs H Q E,sp vs H Q E->vs.length=ps.length
 run:∀(A:iz)(outer:List Env)(s:aZ)(H:Hp)(args:Args)(us:List aL)(vs:List V)(Q:VK)(E:XK),kY k A->Qv P w K mg base A outer s H->Fg s fd args (ps.zip us)->Vals vs us->sp vs H Q E->
  lQ (model P w) A (.call (.ref f) args) (CR CX outer P w H s Q E) s
section
variable{X:Cx}{au:List (aH×Obj)}{σ:St}{H:Hp}{s s':aZ}
theorem Inv.env0(I:Inv X au σ H s):Qv X.prog X.w X.K X.mg X.base X.A X.stack s H:=
 ⟨I.ok.frames,I.ok.mod,I.bs,kI I.ok.Ai I.sz,I.stack,I.aei,I.hok,I.bare⟩
theorem Inv.after(I:Inv X au σ H s)(h:CE X.stack X.prog X.w H s Q u s'):EP X au σ Q u s':=by
 obtain⟨v,H',os,bare,un,hok,r,q⟩:=h
 obtain⟨hh,g,d,t,os'⟩:=s'
 obtain rfl:os'=s.os:=os
 exact⟨v,H',I.call (h':=hh) (g':=g) (d':=d) (t':=t) (ch:=[]) un hok bare (λb z=>absurd z bF),r,q⟩
end
def X6(sp:Sp)(Aj:List V)(E:XK)(t:TA):TE:=λσ H Q=>t σ H λvs H1=>sp (vs++Aj) H1 Q E
def Binds(K:bw)(fd:wC)(ps:List Str)(ds:List aL):Prop:=
 ∀(s:aZ)(us:List aL),K.In s.heap->(us++ds).length=ps.length->Fg s fd ⟨us,[]⟩ (ps.zip (us++ds))
theorem Binds.all{K:bw}(h:∀us:List aL,us.length=ps.length->bindArgs fd ⟨us,[]⟩=pure (ps.zip us)):Binds K fd ps []:=λs us _ hl=>by
 rw[mj] at hl⊢;exact .of_eq (h us hl)
def Passes(CX:xF)(X:Cx)(E:XK):Prop:=∀(au:List (aH×Obj))(σ:St)(H:Hp)(s:aZ)(e:aL)(s':aZ),Inv X au σ H s->CX X.stack H s E e s'->X.xe e s'
section
variable{X:Cx}{CX:xF}{k:Nat}{f C:aH}{fd:wC}{ps:List Str}{sp:Sp}{Aj:List V}{ds:List aL}{E:XK}{x m:Str}{p pos apos:Pos}{e o:Expr}{es:List Expr}{ta:TE}{t:TA}
theorem aqy{σ:St}{H:Hp}{s:aZ}{Q:VK}(F:fX X.prog X.w X.K X.mg X.base CX k f fd ps sp)(hr:kY k X.A)(hb:Binds X.K fd ps ds)(hd:Vals Aj ds)(hx:Passes CX X E)
  (I:Inv X au σ H s)(r:Vals vs us)(h:sp (vs++Aj) H Q E):aQ (model X.prog X.w) X.A (call (.ref f) us) (EP X au σ Q) X.xe s:=by
 have r2:Vals (vs++Aj) (us++ds):=r.append hd;have hl:(us++ds).length=ps.length:=by rw[<-r2.length];exact F.len _ _ _ _ h
 refine ab1 (Eb (F.run X.A X.stack s H ⟨us,[]⟩ (us++ds) (vs++Aj) Q E hr I.env0 (hb s us I.jY hl) r2 h) λr s' hq=>?_);cases r with
 |error e=>exact hx au σ H s e s' I hq
 |ok fl=>
  cases fl with
  |ret u=>exact I.after hq
  |next=>exact xU hq
  |brk=>exact xU hq
  |cont=>exact xU hq
theorem aoL(F:fX X.prog X.w X.K X.mg X.base CX k f fd ps sp)(hr:kY k X.A)(hg:Gl X x)(hm:X.mg x=aa (.ref f))(hk:Bc X.K (.ref f)=aq)(hb:Binds X.K fd ps ds)(hd:Vals Aj ds)(hx:Passes CX X E)
  (ha:PA X (e::es) t)(hdb:(x==("__debug__":Str))=aA:=by decide)(he:bM (e::es) X.env=(aA,eval e X.env)::bM es X.env:=by rfl)(hpl:(iC pos (bM es X.env)).any (·.1)=aA:=by rfl):
  PE X (.Call (.Name x p) (e::es) [] pos) (X6 sp Aj E t):=by
 intro au s σ H Q I h;refine Dy (aek I hg hm ?_ hdb);refine PySem.W.callWith_K (h₀:=X.base) I.ok.mod.YS hk (b7 (ha pos au s σ H _ I h) λus s1 ⟨vs,H1,I1,r,q⟩=>⟨I1.jY,?_⟩) he hpl;exact aqy F hr hb hd hx I1 r q
structure Mk(K:bw)(C f:aH):Prop where
 makes:PySem.W.makesIn K C=aq
 init:aa3 K (.ref C) "__init__"=aa (aa (.ref f))
 fn:PySem.W.isFn K (.ref f)=aq
 kp:Bc K (.ref C)=aq
end
structure iy(N P:List Str)(sc:kW):Prop where
 kind:sc.kind=.function
 co:sc.isCoroutine=aA
 gen:sc.isGenerator=aA
 nd:N.Nodup
 pre:N.take P.length=P
 par:∀x∈P,sc.names.lookup x=aa .local\/sc.names.lookup x=aa .cell
 aqz:∀y∈sc.names,y.2≠.free
theorem acA{kindOf:Str->Option Ex}:∀{binds:List (Str×aL)}{m:Str->Option aL},(∀v,(x,v)∉binds)->Cz kindOf binds m x=m x
 |[],_,_=>rfl
 |(n,v)::r,m,h=>by
  unfold Cz;rw[acA λw hw=>h w (fQ _ hw)];split
  .have:x≠n:=by rintro rfl;exact h v eV
   simp[this]
  .rfl
theorem acB{kindOf:Str->Option Ex}:∀{binds:List (Str×aL)}{m:Str->Option aL},(∀v,(x,v)∉binds)->CG kindOf binds m x=m x
 |[],_,_=>rfl
 |(n,v)::r,m,h=>by
  unfold CG;rw[acB λw hw=>h w (fQ _ hw)];split
  .rfl
  .have:x≠n:=by rintro rfl;exact h v eV
   simp[this]
theorem acC{kindOf:Str->Option Ex}:∀{P:List Str}{vs:List aL}{i:Nat}{m:Str->Option aL},P.Nodup->P[i]?=aa x->vs[i]?=aa v->kindOf x=aa .local->
  Cz kindOf (P.zip vs) m x=aa v
 |[],_,_,_,_,h,_,_=>by simp at h
 |_::_,[],_,_,_,_,h,_=>by simp at h
 |p::P,w::vs,0,m,nd,h1,h2,hk=>by
  simp at h1 h2;subst h1;subst h2;show Cz kindOf ((p,w)::P.zip vs) m p=_;unfold Cz;rw[acA λv hv=>(mK.mp nd).1 (RQ hv).1,bC hk];simp
 |p::P,w::vs,i+1,m,nd,h1,h2,hk=>by
  show Cz kindOf ((p,w)::P.zip vs) m x=_;unfold Cz;exact acC (i:=i) (mK.mp nd).2 (by simpa using h1) (by simpa using h2) hk
theorem acD{kindOf:Str->Option Ex}:∀{P:List Str}{vs:List aL}{i:Nat}{m:Str->Option aL},P.Nodup->P[i]?=aa x->vs[i]?=aa v->kindOf x≠aa .local->
  CG kindOf (P.zip vs) m x=aa v
 |[],_,_,_,_,h,_,_=>by simp at h
 |_::_,[],_,_,_,_,h,_=>by simp at h
 |p::P,w::vs,0,m,nd,h1,h2,hk=>by
  simp at h1 h2;subst h1;subst h2;show CG kindOf ((p,w)::P.zip vs) m p=_;unfold CG;rw[acB λv hv=>(mK.mp nd).1 (RQ hv).1,bB hk];simp
 |p::P,w::vs,i+1,m,nd,h1,h2,hk=>by
  show CG kindOf ((p,w)::P.zip vs) m x=_;unfold CG;exact acD (i:=i) (mK.mp nd).2 (by simpa using h1) (by simpa using h2) hk
def start(N:List Str)(vs:List V):St:=vs.map aa++cN (N.length-vs.length) ao
def CW(CX:xF)(P:fV)(w:dD)(K:bw)(mg:Str->Option aL)(base:cu)(N:List Str)(qual:Str)(scope:kW)(f:aH)(cd:aL)(A:iz)(outer:List Env)(s:aZ)(H:Hp)(E:XK):Cx where
 prog:=P
 w:=w
 K:=K
 mg:=mg
 base:=base
 A:=A.deeper (envOfC qual scope s.heap.objs.size f cd)
 N:=N
 s₀:=s
 H₀:=H
 env:=envOfC qual scope s.heap.objs.size f cd
 outer:=outer
 stack:=envOfC qual scope s.heap.objs.size f cd::outer
 ex:=[]
 calm:=aq
 fn:=λ_=>aq
 pn:=[]
 xe:=λe s'=>aQ (model P w) (A.deeper (envOfC qual scope s.heap.objs.size f cd)) (leaving (envOfC qual scope s.heap.objs.size f cd) e) (λ_ s''=>CX outer H s E e s'') (λe' s''=>CX outer H s E e' s'') s'
theorem adh{sc:kW}(h:sc.names.lookup x=aa .cell):∃c,(cellsFrom n sc.names []).lookup x=aa c:=by
 have q:=ahX sc.names n [] (.inl h);exact zm.mp q
theorem amb{CX:xF}{P:fV}{w:dD}{K:bw}{base:cu}{N ps:List Str}{qual:Str}{scope:kW}{f:aH}{cd:aL}{A:iz}{s s1:aZ}{H:Hp}{E:XK}{us:List aL}{vs:List V}
  (S:iy N ps scope)(hd:A.handled=ao)(e0:Qv P w K mg base A outer s H)(hl:vs.length=ps.length)(r:Vals vs us)
  (x:InCallC s s.heap.objs.size (Cz (envOfC qual scope s.heap.objs.size f cd).kindOf (ps.zip us) λ_=>ao) (cellsFrom (s.heap.objs.size+1) scope.names []) (CG (envOfC qual scope s.heap.objs.size f cd).kindOf (ps.zip us) λ_=>ao) s1):
  Inv (CW CX P w K mg base N qual scope f cd A outer s H E) [] (start N vs) H s1:=by
 have hpl:ps.length<=N.length:=by have:=congrArg vY S.pre;rw[lZ] at this;lia
 obtain⟨h1,tk,rfl,hk⟩:=x.done
 have J4:∀b:aH,b∉(CW CX P w K mg base N qual scope f cd A outer s H E).ex:=λb z=>absurd (show b∈([]:List aH) from z) bF
 refine⟨⟨e0.mod,S.kind,rfl,rfl,bU _,λy z c h1 h2=>?_,λy hy=>?_,λy c _ h=>?_,λ_=>hd,Around.frames_deeper e0.frames,.inr ⟨rfl,rfl⟩,λb z=>absurd z (J4 b),e0.bs,e0.Ai,λb _ _=>J4 b,λb z=>absurd z (J4 b),e0.vp,e0.GJ⟩,
  rfl,e0.bare,Un.kept hk,⟨_,x.toInCall.ns,λi y v h1 h2 h3=>?_⟩,λy c h=>⟨_,x.cell y c h⟩,e0.hok.fresh (bU _),λy c h=>?_,λp hp=>absurd (show p∈([]:List (aH×Obj)) from hp) bF,e0.hok.kept hk,?_⟩
 .exact name_of_addr x.apart (zq h1) (zq h2)
 .have hy:scope.names.lookup y=aa .cell\/scope.names.lookup y=aa .free:=hy;rcases hy with hy|hy
  .exact adh hy
  .exact absurd rfl (S.aqz _ (zq hy))
 .exact Ea (x.above y c (zq h))
 .have hi:i<vs.length:=by
   unfold start at h2;by_cases hi:i<vs.length
   .exact hi
   .rw[tU (by simpa using hi)] at h2;rw[ZS] at h2;split at h2<;>cases h2
  have ha:vs[i]?=aa v:=by
   unfold start at h2;rw[tV (by simpa using hi),jC] at h2;cases e:vs[i]? with
   |none=>rw[e] at h2;cases h2
   |some a=>rw[e] at h2;cases h2;rfl
  obtain⟨u,hu,rv⟩:=r.get ha
  have hp:ps[i]?=aa y:=by
   rw[<-S.pre,List.getElem?_take_of_lt az];exact h1
  have ndP:ps.Nodup:=by rw[<-S.pre];exact S.nd.sublist (Ru _ _)
  refine⟨u,rv,?_⟩
  rcases S.par y (lX hp) with k|k
  .exact .inl ⟨k,acC ndP hp hu k⟩
  .obtain⟨c,e⟩:=adh (n:=s.heap.objs.size+1) k
   refine .inr ⟨.inl k,c,e,?_⟩;have q:=x.cell y c e;rw[acD ndP hp hu (by show scope.names.lookup y≠_;rw[k];decide)] at q;exact q
 .exact e0.hok.fresh (Ea (x.above y c (zq h)))
 .unfold start;show _=N.length;rw[gJ,bD,qW];lia
theorem arW{CX:xF}{P:fV}{w:dD}{K:bw}{base:cu}{k:Nat}{f:aH}{name qual:Str}{params:Arguments}{body:List eX}{scope:kW}{dV kV doc pm cdv ct oc:aL}{an od:Option aH}
 {N ps:List Str}{sp:Sp}(lk:K.lookup f=aa ⟨oc,od,.func (Bp name qual params body scope dV kV doc pm an cdv ct),osl⟩)(hcd:Ss K cdv qual=aq)(S:iy N ps scope)
  (len:∀vs H Q E,sp vs H Q E->vs.length=ps.length)
  (hbody:∀(A:iz)(outer:List Env)(s:aZ)(H:Hp)(vs:List V)(Q:VK)(E:XK),kY k (A.deeper (envOfC qual scope s.heap.objs.size f cdv))->sp vs H Q E->
   ∃t,lg (CW CX P w K mg base N qual scope f cdv A outer s H E) body t/\t {nx:=λ_ H'=>Q .non H',rt:=Q} (start N vs) H):
  fX P w K mg base CX (k+1) f (Bp name qual params body scope dV kV doc pm an cdv ct) ps sp:=by
 refine⟨len,λA outer s H args us vs Q E hr e0 hb r hsp=>?_⟩
 have hl:=len _ _ _ _ hsp;have KX:K.In s.heap:=e0.mod.YS.keeps λb o e=>(e0.bs b o e).1
 have lim:s.heap.NoLimit:=e0.mod.nolimit.keeps λb o e=>(e0.bs b o e).1
 have hkind:∀y∈ps.zip us,scope.names.lookup y.1=aa .local\/(scope.names.lookup y.1=aa .cell/\((cellsFrom (s.heap.objs.size+1) scope.names []).lookup y.1).isSome=aq):=λ⟨n,v⟩ hy=>by
  rcases S.par n (RQ hy).1 with q|q
  .exact .inl q
  .exact .inr ⟨q,ahX _ _ _ (.inl q)⟩
 refine codeAny_call_function hr.depth (KX _ _ lk) rfl S.co S.gen rfl (PySem.W.codeRec_of KX hcd) (hb _ _ _ _ ?_);refine wpAny_newFunctionEnv_cells S.kind hkind λaj he s1 x=>?_
 subst he
 refine⟨lim.keeps x.toInCall.keep,codeAny_func ?_⟩
 obtain⟨t,ht,hq⟩:=hbody A outer s H vs Q E (hr.deeper _) hsp
 have I:Inv (CW CX P w K mg base N qual scope f cdv A outer s H E) [] (start N vs) H s1:=amb S hr.hd e0 hl r x;refine uf (ht [] s1 (start N vs) H _ I hq) (λfl s' hs=>?_) λe s' hs=>hs
 have fin:∀{σ':St}{H':Hp}{v:V}{u:aL},Inv (CW CX P w K mg base N qual scope f cdv A outer s H E) [] σ' H' s'->RelV v u->Q v H'->CE outer P w H s Q u s':=
  λ{σ' H' v u} J rv q=>⟨v,H',J.os,J.bare,J.base,J.hok,rv,q⟩
 cases fl with
 |ret u=>
  obtain⟨v,σ',H',J,rv,q⟩:=hs
  exact fin J rv q
 |next=>
  obtain⟨σ',H',J,q⟩:=hs
  exact fin (v:=V.non) (u:=j6) J rfl q
 |brk=>
  obtain⟨_,_,_,q⟩:=hs
  exact xU q
 |cont=>
  obtain⟨_,_,_,q⟩:=hs
  exact xU q
section
variable{X:Cx}{x:Str}{p pos:Pos}{e:Expr}{t:TA}{id T:String}
def Y6(r:List V->Hp->VK->Prop)(t:TA):TE:=λσ H Q=>t σ H λvs H1=>r vs H1 Q
theorem Nx(hc:jm X (.builtin id) r)(hg:Gl X x)(hm:X.mg x=ao)(hv:uQ x=aa (.builtin id))(ha:PA X (e::es) t)(hn:x≠"__name__":=by decide)(hdb:(x==("__debug__":Str))=aA:=by decide)
  (he:bM (e::es) X.env=(aA,eval e X.env)::bM es X.env:=by rfl)(hpl:(iC pos (bM es X.env)).any (·.1)=aA:=by rfl):PE X (.Call (.Name x p) (e::es) [] pos) (Y6 r t):=by
 intro au s σ H Q I h;refine Dy (wI I hg hm hv ?_ hn hdb);exact ZG (b7 (ha pos au s σ H _ I h) λus s1 ⟨vs,H1,I1,r1,q1⟩=>hc au s1 σ H1 vs us Q I1 r1 q1) he hpl
theorem amc(hc:jm X (.type T) r)(hg:Gl X x)(hm:X.mg x=ao)(hv:uQ x=aa (.type T))(ha:PA X (e::es) t)(hn:x≠"__name__":=by decide)(hdb:(x==("__debug__":Str))=aA:=by decide)
  (he:bM (e::es) X.env=(aA,eval e X.env)::bM es X.env:=by rfl)(hpl:(iC pos (bM es X.env)).any (·.1)=aA:=by rfl):PE X (.Call (.Name x p) (e::es) [] pos) (Y6 r t):=by
 intro au s σ H Q I h;refine Dy (wI I hg hm hv ?_ hn hdb);exact KD (b7 (ha pos au s σ H _ I h) λus s1 ⟨vs,H1,I1,r1,q1⟩=>hc au s1 σ H1 vs us Q I1 r1 q1) he hpl
end
end L2
namespace HT
open PySem PyProof.Rows
theorem anm(A:iz)(s:aZ)(a:Int)(t:Tok)(c:Int)(u:Tok):∃e,Ur A s (.int a t) (.int c u) e/\(e=aq↔a=c):=
 ⟨(a==c),aiw a t c u,bF⟩
section
open PySem.SeqAt
open PySem.AutoSeq1 (wpAny_loadPart')
open PySem.MeetsSeq PySem.MeetsSeq2 PySem.MeetsSeq3
end
section
variable{prog:fV}{w:dD}{A:iz}{E:aL->aZ->Prop}{s:aZ}
theorem aoM(ht:IsTup s.heap t vs.toArray)(hb:IsTup s.heap b ws.toArray)(hv:vs≠[])
  (h1:ws=[]->Q (.ref t) s)(h2:ws≠[]->Q (.ref s.heap.objs.size) {s with heap:=s.heap.push {cls:=.type "tuple",data:=.seq (vs++ws).toArray}})
  (hsz:vs.length+ws.length<=cH):aQ (model prog w) A (pC .Add (.ref t) (.ref b)) Q E s:=by
 obtain⟨⟨cls,dd,data,sl⟩,ho,hc,n,hd⟩:=id ht
 obtain⟨⟨cls2,dd2,data2,sl2⟩,ho2,hc2,n2,hd2⟩:=id hb
 simp only at hc hd hc2 hd2;subst hc hd hc2 hd2;have e:vs.toArray++ws.toArray=(vs++ws).toArray:=bF;by_cases hw:ws=[]
 .exact abu ⟨_,ho,rfl⟩ ⟨_,ho2,rfl⟩ aaD abl Z0 ZV (ZQ _ _)
   (tuple_addW1 t b vs.toArray ws.toArray n n2 dd dd2 sl sl2 (by simpa using hv) (by simp[hw])) ⟨ho,ho2,h1 hw⟩
 .refine abu ⟨_,ho,rfl⟩ ⟨_,ho2,rfl⟩ aaD abl Z0 ZV (ZQ _ _)
   (tuple_addW2 t b vs.toArray ws.toArray n n2 dd dd2 sl sl2 (by simpa using hv) (by simpa using hw) (by rw[gK,gK];exact hsz)) ⟨ho,ho2,?_⟩
  rw[e];exact h2 hw
def cQ(n d:Nat):Option Int->Nat
 |none=>d
 |some v=>if v<0 then(v+(n:Int)).toNat else min v.toNat n
theorem Wx(n d k:Nat):cQ n d (aa (k:Int))=min k n:=by
 show(if(k:Int)<0 then((k:Int)+(n:Int)).toNat else min (k:Int).toNat n)=min k n
 rw[bB az,Dz]
theorem aqA(n d:Nat)(hd:d<=n)(o:Option Int):cQ n d o<=n:=by
 cases o with
 |none=>exact hd
 |some v=>
  show(if v<0 then(v+(n:Int)).toNat else min v.toNat n)<=n
  by_cases hv:v<0
  .rw[bC hv];lia
  .rw[bB hv];exact Nat.min_le_right _ _
theorem aep(v:Int)(n d:Nat):(if v<0 then max (v+(n:Int)) 0 else min v (n:Int))=((cQ n d (aa v):Nat):Int):=by
 show(if v<0 then max (v+(n:Int)) 0 else min v (n:Int))=(((if v<0 then(v+(n:Int)).toNat else min v.toNat n):Nat):Int)
 by_cases hv:v<0
 .simp only[bC hv];lia
 .simp only[bB hv];lia
theorem alc(lo hi:Option Int)(n:Nat):ZK lo hi 1 (n:Int)=(((cQ n 0 lo:Nat):Int),((cQ n n hi:Nat):Int)):=by
 have h1:¬((1:Int)<0):=az;unfold ZK;simp only[h1,if_false];refine Prod.ext ?_ ?_
 .cases lo with
  |none=>rfl
  |some v=>exact aep v n 0
 .cases hi with
  |none=>rfl
  |some v=>exact aep v n n
theorem ald(i j:Nat):Rg (i:Int) (j:Int) 1=j-i:=by
 unfold Rg;have h1:(1:Int)>0:=az;simp only[h1,if_true,aka];split<;>lia
theorem ab2(p:wJ v o)(h:Q o s):aQ (model prog w) A (avw v) Q E s:=by
 cases p with
 |none=>exact slicePart_none h
 |int i t=>exact slicePart_int h
theorem aaE{sl:aH}{lo hi:Option Int}{n:Nat}(hs:s.heap.IsSliceOf sl vl vu .none)(pl:wJ vl lo)(pu:wJ vu hi)
  (h:Q (((cQ n 0 lo:Nat):Int),1,cQ n n hi-cQ n 0 lo) s):aQ (model prog w) A (ahN (.ref sl) (pure (n:Int))) Q E s:=by
 obtain⟨os,hos,hcs,hds⟩:=id hs
 unfold ahN avL;refine aJ (aJ (rA hos hds (x:=vl) rfl (aJ (rA hos hds (x:=vu) rfl (aJ (rA hos hds (x:=.none) rfl (bz ?_)))))));refine aJ (slicePart_none ?_);show aQ _ _ (if((1:Int)==0)=aq then _ else _) _ _ s;rw[bB bA];refine aJ (ab2 pl (aJ (ab2 pu (aJ (bz ?_)))));show aQ _ _ (match ZK lo hi 1 (n:Int) with|(lo,hi)=>pure (lo,(1:Int),Rg lo hi 1)) _ _ s;rw[alc lo hi n];show aQ _ _ (pure (((cQ n 0 lo:Nat):Int),(1:Int),Rg ((cQ n 0 lo:Nat):Int) ((cQ n n hi:Nat):Int) 1)) _ _ s;rw[ald];exact bz h
theorem ano(xs:Array aL)(i k:Nat):((dh k).filterMap λ(m:Nat)=>xs[((i:Int)+(m:Int)*1).toNat]?).toArray=((xs.toList.drop i).take k).toArray:=by
 have e:(λ(m:Nat)=>xs[((i:Int)+(m:Int)*1).toNat]?)=λm=>xs[i+m]?:=by
  funext m;have:((i:Int)+(m:Int)*1).toNat=i+m:=az;rw[this]
 rw[e];have:=pick_run xs i k;rw[List.filterMap_map] at this;have e2:((λx=>xs[x]?) ∘ λx=>i+x)=λm=>xs[i+m]?:=rfl
 rw[e2] at this;rw[this]
theorem aiE{t sl:aH}{vl vu:aL}{lo hi:Option Int}(ht:IsTup s.heap t items)(hs:s.heap.IsSliceOf sl vl vu .none)(pl:wJ vl lo)(pu:wJ vu hi)
  (hw:¬(cQ items.size 0 lo=0/\cQ items.size items.size hi=items.size))
  (h:Q (.ref s.heap.objs.size) {s with heap:=s.heap.push {cls:=.type "tuple",data:=.seq ((items.toList.drop (cQ items.size 0 lo)).take (cQ items.size items.size hi-cQ items.size 0 lo)).toArray}})
  (hsz:items.size<=cH):aQ (model prog w) A (zQ (.ref t) (.ref sl)) Q E s:=by
 have Qc:sizeOk (.seq ((items.toList.drop (cQ items.size 0 lo)).take (cQ items.size items.size hi-cQ items.size 0 lo)).toArray):=by
  show((items.toList.drop (cQ items.size 0 lo)).take (cQ items.size items.size hi-cQ items.size 0 lo)).toArray.size<=cH
  rw[gK,lZ,t7,lY];lia
 have hj:cQ items.size items.size hi<=items.size:=aqA _ _ (bU _) hi
 obtain⟨os,hos,hcs,hds⟩:=id hs
 have hTs:s.TypeIs (.ref sl) "slice":=⟨os,hos,hcs⟩
 unfold zQ
 try with_reducible refine nF ?_
 first|refine aJ (bz ?_)|skip
 refine aJ (aiF ht.typeIs bA ?_);refine aJ (uL (name:=bI "__getitem__") ht.typeIs Q8
  (oZ Q8 ht.typeIs entry_tuple_getitem ?_ (args_tuple_getitem _ _)))
 show aQ _ _ (ahO (.ref t) >>= _) _ _ s;refine aJ (tupleItemsOf_ ht ?_);refine aJ (Mj hTs ?_);rw[bC bA];refine aJ (aaE hs pl pu ?_);have hno:¬((((cQ items.size 0 lo:Nat):Int)==0&&(1:Int)==1&&(cQ items.size items.size hi-cQ items.size 0 lo)==items.size)=aq):=by
  intro q;rw[j0,j0] at q;have q1:((cQ items.size 0 lo:Nat):Int)=0:=eq_of_beq q.1.1;have q2:cQ items.size items.size hi-cQ items.size 0 lo=items.size:=eq_of_beq q.2;exact hw ⟨az,az⟩
 show aQ _ _ (if(((cQ items.size 0 lo:Nat):Int)==0&&(1:Int)==1&&(cQ items.size items.size hi-cQ items.size 0 lo)==items.size)=aq then _ else _) _ _ s;rw[bB hno,ano]
 first
  |exact aJ (m:=KJ _) (mJ (bz ⟨_,rfl,bz h⟩) Qc)
  |exact aJ (m:=KJ _) (mJ (aJ (bz (bz ⟨_,rfl,bz h⟩))) Qc)
  |exact aJ (aJ (m:=KJ _) (mJ (bz (bz ⟨_,rfl,bz h⟩)) Qc))
  |exact aJ (aJ (m:=KJ _) (mJ (bz ⟨_,rfl,bz h⟩) Qc))
end
end HT
namespace L2
open PySem PySem.Spec PyProof.Rows
abbrev TO:=St->Hp->(Option Int->Hp->Prop)->Prop
def PO(X:Cx)(e:Option Expr)(t:TO):Prop:=
 ∀(au:List (aH×Obj))(s:aZ)(σ:St)(H:Hp)(Q:Option Int->Hp->Prop),Inv X au σ H s->t σ H Q->
  aQ (model X.prog X.w) X.A (evalPart e X.env) (λu s'=>∃o H',Inv X au σ H' s'/\wJ u o/\Q o H') X.xe s
def aoN:TO:=λ_ H Q=>Q ao H
def arX(t:TE):TO:=λσ H Q=>t σ H λx H1=>∃i,x=.int i/\Q (aa i) H1
theorem intsAre_of:∀{us:List aL},Vals (ns.map V.int) us->IntsAre us ns:=by
 induction ns with
 |nil=>intro us r;rw[sI] at r;cases r;exact .nil
 |cons n ns ih=>
  intro us r;rw[dU] at r;cases r with
  |cons r1 r2=>
   obtain⟨t,e⟩:=r1
   subst e;exact .cons n t (ih r2)
section
variable{X:Cx}{e:Expr}{te:TE}{lo hi:Option Expr}
theorem aoO:PO X ao aoN:=by
 intro au s σ H Q I h;rw[evalPart_none];exact bz ⟨ao,H,I,.none,h⟩
theorem aoP(h:PE X e te):PO X (aa e) (arX te):=by
 intro au s σ H Q I hw;rw[evalPart_some];refine b7 (h au s σ H _ I hw) λu s1 aY=>?_
 obtain⟨x,H1,I1,r1,q1⟩:=aY
 obtain⟨i,rfl,q⟩:=q1
 obtain⟨t,rfl⟩:=r1
 exact⟨aa i,H1,I1,.int i t,q⟩
def yR(X:Cx)(r:V->Option Int->Option Int->Hp->VK->Prop):Prop:=
 ∀(au:List (aH×Obj))(s:aZ)(σ:St)(H:Hp)(x:V)(v vl vu:aL)(lo hi:Option Int)(sl:aH)(Q:VK),Inv X au σ H s->RelV x v->s.heap.IsSliceOf sl vl vu .none->wJ vl lo->wJ vu hi->r x lo hi H Q->
  ∃T id,typeLookup (.type T) "__getitem__"=pure (aa (.builtin id))/\s.TypeIs v T/\aQ (model X.prog X.w) X.A (zQ v (.ref sl)) (EP X au σ Q) X.xe s
theorem yR.or(h:yR X r)(h':yR X r'):yR X (λx lo hi H Q=>r x lo hi H Q\/r' x lo hi H Q):=by
 intro au s σ H x v vl vu lo hi sl Q I rx hs pl pu q;rcases q with q|q
 .exact h au s σ H x v vl vu lo hi sl Q I rx hs pl pu q
 .exact h' au s σ H x v vl vu lo hi sl Q I rx hs pl pu q
def tSl(r:V->Option Int->Option Int->Hp->VK->Prop)(te:TE)(tl th:TO):TE:=λσ H Q=>te σ H λx H1=>tl σ H1 λl H2=>th σ H2 λu H3=>r x l u H3 Q
theorem anp{r:V->Option Int->Option Int->Hp->VK->Prop}(hr:yR X r)(he:PE X e te)(hl:PO X lo tl)(hu:PO X hi th):PE X (.Subscript e (.Slice lo hi ao p2) pos) (tSl r te tl th):=by
 intro au s σ H Q I h;refine Subscript_ (b7 (he au s σ H _ I h) λv s1 aY=>?_)
 obtain⟨x,H1,I1,r1,q1⟩:=aY
 refine wpAny_Slice (b7 (hl au s1 σ H1 _ I1 q1) λvl s2 ⟨l,H2,I2,pl,q2⟩=>b7 (hu au s2 σ H2 _ I2 q2) λvu s3 aY=>?_)
 obtain⟨u,H3,I3,pu,q3⟩:=aY
 rw[evalPart_none];refine bz ?_;have I4:Inv X au σ H3 {s3 with heap:=s3.heap.push {cls:=.type "slice",data:=.fields #[vl,vu,.none]}}:=I3.kept (t':=s3.toks) λb ob q=>cG _ q
 obtain⟨T,id,hT,ht,hg⟩:=hr au {s3 with heap:=s3.heap.push {cls:=.type "slice",data:=.fields #[vl,vu,.none]}} σ H3 x v vl vu l u s3.heap.objs.size Q I4 r1 (av8 ..) pl pu q3
 show aQ (model X.prog X.w) X.A (subscriptTail e (.Slice lo hi ao p2) v (.ref s3.heap.objs.size)) (EP X au σ Q) X.xe {s3 with heap:=s3.heap.push {cls:=.type "slice",data:=.fields #[vl,vu,.none]}};exact tail_any (ops:=[.ref s3.heap.objs.size,v]) ht hT hg (by with_unfolding_all rfl)
def vq(xs:List V)(lo hi:Option Int):List V:=(xs.drop (HT.cQ xs.length 0 lo)).take (HT.cQ xs.length xs.length hi-HT.cQ xs.length 0 lo)
theorem abK(xs:List V)(lo hi:Option Int):(vq xs lo hi).length<=xs.length:=by
 unfold vq;rw[lZ,t7];lia
def ate(K:bw):V->Option Int->Option Int->Hp->VK->Prop:=λx lo hi H Q=>∃a xs,x=.ref a/\dg K H a xs/\
 ¬(HT.cQ xs.length 0 lo=0/\HT.cQ xs.length xs.length hi=xs.length)/\∀p,H p=ao->Q (.ref p) (upd H p (.tup (vq xs lo hi)))
theorem aqB:yR X (ate X.K):=by
 intro au s σ H x v vl vu lo hi sl Q I rx hs pl pu h
 obtain⟨a,xs,rfl,hx,hw,q⟩:=h
 cases rx
 obtain⟨aK,r,ht,hz⟩:=I.tuple hx
 have hlen:aK.toArray.size=xs.length:=by rw[gK];exact r.length.symm
 refine⟨"tuple",_,PyProof.Rows.slot_tuple_getitem.lookup,ht.typeIs,?_⟩
 refine HT.aiE ht hs pl pu (by rw[hlen];exact hw) ?_ (by rw[hlen];exact hz);rw[hlen]
 refine⟨.ref s.heap.objs.size,_,I.laid (t':=s.toks) (o:=.tup (vq xs lo hi)) (λb ob q=>cG _ q) (bU _) ?_,rfl,q _ (I.hok.fresh (bU _))⟩
 exact⟨kI (abK xs lo hi) hz,_,(r.drop (HT.cQ xs.length 0 lo)).take (HT.cQ xs.length xs.length hi-HT.cQ xs.length 0 lo),IsTup.new _ _⟩
def af7(K:bw):R2:=λx y H Q=>∃a b xs ys,x=.ref a/\y=.ref b/\dg K H a xs/\dg K H b ys/\xs≠[]/\xs.length+ys.length<=cH/\
 (ys=[]->Q (.ref a) H)/\(ys≠[]->∀p,H p=ao->Q (.ref p) (upd H p (.tup (xs++ys))))
theorem Vals.Wy(r:Vals xs us):us=[]↔xs=[]:=by
 cases r with
 |nil=>simp
 |cons _ _=>simp
theorem aoQ:dR X (pC .Add) (af7 X.K):=by
 intro au s σ H x y v u Q I rx ry h
 obtain⟨a,b,xs,ys,rfl,rfl,ha,hb,hx,hz,q1,q2⟩:=h
 cases rx;cases ry
 obtain⟨aK,r1,p1,_⟩:=I.tuple ha
 obtain⟨its2,r2,p2,_⟩:=I.tuple hb
 refine HT.aoM p1 p2 (λz=>hx (r1.Wy.mp z)) (λz=>⟨.ref a,H,I,rfl,q1 (r2.Wy.mp z)⟩) (λz=>?_) (by rw[<-r1.length,<-r2.length];exact hz)
 refine⟨.ref s.heap.objs.size,_,I.laid (t':=s.toks) (o:=.tup (xs++ys)) (λb ob q=>cG _ q) (bU _) ?_,rfl,q2 (λw=>z (r2.Wy.mpr w)) _ (I.hok.fresh (bU _))⟩
 exact⟨by rw[gJ];exact hz,_,r1.append r2,IsTup.new _ _⟩
end
def qP(n:Nat)(i:Int):Option Nat:=if 0<=i then(if i<n then aa i.toNat else ao) else if -(n:Int)<=i then aa (i+n).toNat else ao
def gF{α:Type}(xs:List α)(i:Int):Option α:=(qP xs.length i).bind λj=>xs[j]?
theorem aeq(h:qP n i=aa j):U9 i n=aa j/\j<n/\-(n:Int)<=i/\i<n:=by
 unfold qP at h;by_cases h0:0<=i
 .rw[bC h0] at h;by_cases h1:i<n
  .rw[bC h1] at h;have e:i.toNat=j:=jj h
   exact⟨by rw[abL h0 h1,e],az,az,h1⟩
  .rw[bB h1] at h;cases h
 .rw[bB h0] at h;by_cases h1:-(n:Int)<=i
  .rw[bC h1] at h;have e:(i+n).toNat=j:=jj h
   exact⟨by rw[abv az h1,e],az,h1,az⟩
  .rw[bB h1] at h;cases h
theorem Wz{xs:List α}{v:α}(h:gF xs i=aa v):∃j,U9 i xs.length=aa j/\xs[j]?=aa v/\j<xs.length/\-(xs.length:Int)<=i/\i<xs.length:=by
 unfold gF at h;cases e:qP xs.length i with
 |none=>rw[e] at h;cases h
 |some j=>
  rw[e] at h
  obtain⟨h1,h2,h3,h4⟩:=aeq e
  exact⟨j,h1,h,h2,h3,h4⟩
theorem uq{xs:List α}{j:Nat}{v:α}(h:xs[j]?=aa v):gF xs (j:Int)=aa v:=by
 have hj:j<xs.length:=(jZ.mp h).1;have e:qP xs.length (j:Int)=aa j:=by
  unfold qP;rw[bC az,bC az];simp
 unfold gF;rw[e];exact h
def Jc(b:Expr):Prop:=∀o i,abM b aA o i=operate [o,i] (zQ o i)
def uG(X:Cx)(r:R2):Prop:=
 ∀(value slice:Expr)(au:List (aH×Obj))(s:aZ)(σ:St)(H:Hp)(x y:V)(v u:aL)(Q:VK),Inv X au σ H s->RelV x v->RelV y u->r x y H Q->
  abM slice aA v u=operate [v,u] (zQ v u)->aQ (model X.prog X.w) X.A (subscriptTail value slice v u) (EP X au σ Q) X.xe s
def MtR(X:Cx)(id:String)(r:V->List V->Hp->VK->Prop):Prop:=
 ∀(au:List (aH×Obj))(s:aZ)(σ:St)(H:Hp)(x:V)(xs:List V)(v:aL)(us:List aL)(Q:VK),Inv X au σ H s->RelV x v->Vals xs us->r x xs H Q->
  aQ (model X.prog X.w) X.A (call (.builtin id) (v::us)) (EP X au σ Q) X.xe s
section
variable{X:Cx}{a b:Expr}{ta tb:TE}{pos:Pos}
theorem uG.or(h:uG X r)(h':uG X r'):uG X (λx y H Q=>r x y H Q\/r' x y H Q):=by
 intro value slice au s σ H x y v u Q I rx ry q hs;rcases q with q|q
 .exact h value slice au s σ H x y v u Q I rx ry q hs
 .exact h' value slice au s σ H x y v u Q I rx ry q hs
theorem X7(hr:uG X r)(ha:PE X a ta)(hb:PE X b tb)(hs:Jc b):PE X (.Subscript a b pos) (J3 r ta tb):=by
 intro au s σ H Q I h;exact Subscript_ (Yq ha hb I h λv u s2 x y H2 I2 rx ry q=>hr a b au s2 σ H2 x y v u Q I2 rx ry q (hs _ _))
def agC(K:bw):R2:=λx y H Q=>∃p xs i v,x=.ref p/\y=.int i/\cj K H p xs/\gF xs i=aa v/\Q v H
def agD(K:bw):R2:=λx y H Q=>∃p xs i v,x=.ref p/\y=.int i/\dg K H p xs/\gF xs i=aa v/\Q v H
def agE:R2:=λx y H Q=>∃z i c,x=.str z/\y=.int i/\z.length<=cH/\gF z.cps.toList i=aa c/\Q (.str ⟨#[c]⟩) H
theorem WD:uG X (agC X.K):=by
 intro value slice au s σ H x y v u Q I rx ry h hs
 obtain⟨p,xs,i,z,rfl,rfl,hq,he,q⟩:=h
 cases rx
 obtain⟨t,rfl⟩:=ry
 obtain⟨aK,r,pl,hz⟩:=I.list hq
 obtain⟨j,h1,h2,h3,h4,h5⟩:=Wz he
 obtain⟨w,ew,rw'⟩:=r.get h2
 have hl:=r.length;have hn:=yj;have fin:EP X au σ Q w s:=⟨z,H,I,rw',q⟩
 by_cases h0:0<=i
 .have hj:i.toNat=j:=by
   rw[abL h0 h5] at h1;exact jj h1
  exact item_listR pl.isList h0 az (by rw[hj];simpa using ew) fin hs
 .have hj:(i+(aK.toArray.size:Int)).toNat=j:=by
   rw[abv az h4] at h1;rw[gK,<-hl];exact jj h1
  exact subscriptTail_builtinR (x:=w) pl.isList.typeIs slot_list_getitem.lookup
   (wpAny_getItem_list_neg (Q:=λr s'=>r=w/\EP X au σ Q r s') pl.isList az (by rw[gK]<;>lia) az (by rw[hj];simpa using ew) ⟨rfl,fin⟩) hs
theorem aqC:uG X (agD X.K):=by
 intro value slice au s σ H x y v u Q I rx ry h hs
 obtain⟨p,xs,i,z,rfl,rfl,hq,he,q⟩:=h
 cases rx
 obtain⟨t,rfl⟩:=ry
 obtain⟨aK,r,pl,hz⟩:=I.tuple hq
 obtain⟨j,h1,h2,h3,h4,h5⟩:=Wz he
 obtain⟨w,ew,rw'⟩:=r.get h2
 have hl:=r.length;have hn:=yj;have fin:EP X au σ Q w s:=⟨z,H,I,rw',q⟩
 exact subscriptTail_builtinR (x:=w) pl.typeIs slot_tuple_getitem.lookup
  (getItem_tuple (j:=j) (Q:=λr s'=>r=w/\EP X au σ Q r s') pl az az (by rw[gK,<-hl];exact h1) (by simpa using ew) ⟨rfl,fin⟩) hs
theorem aqD:uG X agE:=by
 intro value slice au s σ H x y v u Q I rx ry h hs
 obtain⟨z,i,c,rfl,rfl,hz,he,q⟩:=h
 obtain⟨t,rfl⟩:=rx
 obtain⟨t',rfl⟩:=ry
 obtain⟨j,h1,h2,h3,h4,h5⟩:=Wz he
 have hl:z.cps.toList.length=z.length:=by simp[Str.length]
 rw[hl] at h1 h4 h5;have hn:=yj;exact tail_any (ab3 s z t) slot_str_getitem.lookup (getItem_str (c:=c) (by
  have e1:decide (i< -(2^63:Int))=aA:=jy az;have e2:decide (i>=2^63)=aA:=jy az;rw[e1,e2,Bool.or_false]) (by rw[h1];simpa using h2) ⟨.str ⟨#[c]⟩,H,I.tok _,⟨_,rfl⟩,q⟩) hs
def rIx(K:bw):R2:=λx y H Q=>agC K x y H Q\/agD K x y H Q\/agE x y H Q
theorem aqE:uG X (rIx X.K):=WD.or (aqC.or aqD)
theorem ale(aK:List aL)(n j:Nat)(u:aL):o9 (·.setIfInBounds j u) {cls:=.type "list",data:=.seq aK.toArray n}={cls:=.type "list",data:=.seq (aK.set j u).toArray n}:=by
 simp[o9]
theorem Inv.lst{au:List (aH×Obj)}{σ:St}{H:Hp}{s:aZ}{p:aH}{xs:List V}(I:Inv X au σ H s)(h:H p=aa (.lst xs)):
  ∃(aK:List aL)(n:Nat),Vals xs aK/\s.heap.get? p=aa {cls:=.type "list",data:=.seq aK.toArray n}/\xs.length<=cH:=by
 obtain⟨z,aK,n,r,e⟩:=I.hok p _ h
 exact⟨aK,n,r,e,z⟩
theorem Inv.aqF{σ:St}{H:Hp}{s:aZ}{p:aH}{aK its':List aL}{n n':Nat}{f:Obj->Obj}(I:Inv X au σ H s)(h:H p=aa (.lst xs))
  (ho:s.heap.get? p=aa {cls:=.type "list",data:=.seq aK.toArray n})(hf:f {cls:=.type "list",data:=.seq aK.toArray n}={cls:=.type "list",data:=.seq its'.toArray n'})(r:Vals ys its')(hz:ys.length<=cH)(t:Nat):
  Inv X au σ (upd H p (.lst ys)) {s with heap:=s.heap.update p f,toks:=t}:=by
 have e:(s.heap.update p f).get? p=aa {cls:=.type "list",data:=.seq its'.toArray n'}:=by
  rw[vM f ho (by rw[hf]<;>rfl),hf]
 refine I.write (x:=p) (e:=p) (by rw[h];trivial) (.inl rfl) (λb u hb q=>(qi _ _ (kJ hb)).trans q) ⟨_,e⟩ ?_
 exact⟨hz,its',n',r,e⟩
def X8:V->V->V->Hp->(Hp->Prop)->Prop:=λo i v H Q=>∃p xs k j,o=.ref p/\i=.int k/\H p=aa (.lst xs)/\qP xs.length k=aa j/\Q (upd H p (.lst (xs.set j v)))
theorem set_list:yJ X X8:=by
 intro au s σ H o i v ov iv u Q I ro ri rv h
 obtain⟨p,xs,k,j,rfl,rfl,hp,hj,q⟩:=h
 cases ro
 obtain⟨t,rfl⟩:=ri
 obtain⟨aK,n,r,ho,hz⟩:=I.lst hp
 obtain⟨h1,h2,h3,h4⟩:=aeq hj
 have hl:=r.length;have hn:=yj;have I':Inv X au σ (upd H p (.lst (xs.set j v))) {s with heap:=s.heap.update p (o9 (·.setIfInBounds j u))}:=
  I.aqF hp ho (ale aK n j u) (r.set rv j) (by rw[DP];exact hz) s.toks
 by_cases h0:0<=k
 .have hk:k.toNat=j:=by
   rw[abL h0 h4] at h1;exact jj h1
  exact PySem.W.ki_setAt ho h0 az (by rw[gK,<-hl];exact h4) (by rw[hk];exact⟨_,I',q⟩)
 .have hk:(k+(aK.toArray.size:Int)).toNat=j:=by
   rw[abv az h3] at h1;rw[gK,<-hl];exact jj h1
  exact PySem.W.ki_setBack ho az (by rw[gK,<-hl];exact h3) az (by rw[hk];exact⟨_,I',q⟩)
theorem akb(lo hi:Option Int)(n:Nat):(Ec lo hi ao n).1=((HT.cQ n 0 lo:Nat):Int)/\(Ec lo hi ao n).2.1=((HT.cQ n n hi:Nat):Int)/\(Ec lo hi ao n).2.2=1:=by
 refine⟨?_,?_,rfl⟩
 .cases lo with
  |none=>simp[Ec,HT.cQ]
  |some i=>
   simp only[Ec,HT.cQ,ai3,show(1:Int)>0 by decide,if_true];by_cases h:i<0
   .simp only[h,if_true]<;>lia
   .simp only[h,if_false]<;>lia
 .cases hi with
  |none=>simp[Ec,HT.cQ]
  |some i=>
   simp only[Ec,HT.cQ,ai3,show(1:Int)>0 by decide,if_true];by_cases h:i<0
   .simp only[h,if_true]<;>lia
   .simp only[h,if_false]<;>lia
theorem ajM(aK:List aL)(lo hi:Option Int):slicePick aK.toArray lo hi ao=((aK.drop (HT.cQ aK.length 0 lo)).take (HT.cQ aK.length aK.length hi-HT.cQ aK.length 0 lo)).toArray:=by
 obtain⟨h1,h2,h3⟩:=akb lo hi aK.toArray.size
 unfold slicePick;rw[h1,h2,h3];simp only[sliceRange_one,pick_run,gK]<;>rfl
def atf(K:bw):V->Option Int->Option Int->Hp->VK->Prop:=λx lo hi H Q=>∃a xs,x=.ref a/\cj K H a xs/\∀p,H p=ao->Q (.ref p) (upd H p (.lst (vq xs lo hi)))
theorem aoR:yR X (atf X.K):=by
 intro au s σ H x v vl vu lo hi sl Q I rx hs pl pu h
 obtain⟨a,xs,rfl,hx,q⟩:=h
 cases rx
 obtain⟨aK,r,ht,hz⟩:=I.list hx
 have hlen:=r.length
 refine⟨"list",_,slot_list_getitem.lookup,ht.isList.typeIs,?_⟩
 refine wpAny_getItem_list_slice ht.isList hs pl pu .none bF ?_ (by rw[gK]<;>lia);rw[ajM,<-hlen]
 refine⟨.ref s.heap.objs.size,_,I.laid (t':=s.toks) (o:=.lst (vq xs lo hi)) (λb ob q=>cG _ q) (bU _) ?_,rfl,q _ (I.hok.fresh (bU _))⟩
 exact⟨kI (abK xs lo hi) hz,_,0,(r.drop (HT.cQ xs.length 0 lo)).take (HT.cQ xs.length xs.length hi-HT.cQ xs.length 0 lo),gR _ rfl⟩
def tD:V->Bool
 |.non=>aq
 |.bl _=>aq
 |.int _=>aq
 |.str _=>aq
 |_=>aA
def vD:V->V->Bool
 |.non,.non=>aq
 |.bl a,.bl b=>a==b
 |.bl a,.int b=>(if a then 1 else 0)==b
 |.int a,.bl b=>a==(if b then 1 else 0)
 |.int a,.int b=>a==b
 |.str a,.str b=>a==b
 |_,_=>aA
theorem Pb(ry:RelV y u)(rx:RelV x v)(fy:tD y=aq)(fx:tD x=aq):Ur A s u v (vD y x):=by
 cases y with
 |non=>
  cases ry;cases x with
  |non=>cases rx;exact SeqAt.EqAt.same _
  |bl b=>cases rx;exact SeqAt.EqAt.none_bool b
  |int b=>obtain⟨t,rfl⟩:=rx;exact SeqAt.EqAt.none_int b t
  |str b=>obtain⟨t,rfl⟩:=rx;exact SeqAt.EqAt.none_str b t
  |_=>exact absurd (show aA=aq from fx) jK
 |bl a=>
  cases ry;cases x with
  |non=>cases rx;exact SeqAt.EqAt.bool_none a
  |bl b=>cases rx;exact SeqAt.EqAt.bool_bool a b
  |int b=>obtain⟨t,rfl⟩:=rx;exact SeqAt.EqAt.bool_int a b t
  |str b=>obtain⟨t,rfl⟩:=rx;exact SeqAt.EqAt.bool_str a b t
  |_=>exact absurd (show aA=aq from fx) jK
 |int a=>
  obtain⟨t',rfl⟩:=ry
  cases x with
  |non=>cases rx;exact SeqAt.EqAt.int_none a t'
  |bl b=>cases rx;exact SeqAt.EqAt.int_bool a t' b
  |int b=>obtain⟨t,rfl⟩:=rx;exact aiw a t' b t
  |str b=>obtain⟨t,rfl⟩:=rx;exact ais a t' b t
  |_=>exact absurd (show aA=aq from fx) jK
 |str a=>
  obtain⟨t',rfl⟩:=ry
  cases x with
  |non=>cases rx;exact SeqAt.EqAt.str_none a t'
  |bl b=>cases rx;exact SeqAt.EqAt.str_bool a t' b
  |int b=>obtain⟨t,rfl⟩:=rx;exact ait a t' b t
  |str b=>obtain⟨t,rfl⟩:=rx;exact SeqAt.EqAt.str_str a t' b t
  |_=>exact absurd (show aA=aq from fx) jK
 |_=>exact absurd (show aA=aq from fy) jK
def qQ(x:V)(u:aL):Bool:=match u with
 |.none=>vD .non x
 |.bool b=>vD (.bl b) x
 |.int i _=>vD (.int i) x
 |.str z _=>vD (.str z) x
 |_=>aA
theorem afk(r:RelV y u)(f:tD y=aq):qQ x u=vD y x:=by
 cases y with
 |non=>cases r;rfl
 |bl b=>cases r;rfl
 |int i=>obtain⟨t,rfl⟩:=r;rfl
 |str z=>obtain⟨t,rfl⟩:=r;rfl
 |_=>exact absurd (show aA=aq from f) jK
theorem Jd:∀{xs:List V}{us:List aL},Vals xs us->xs.all tD=aq->us.any (qQ x)=xs.any λy=>vD y x
 |_,_,.nil,_=>rfl
 |y::xs,u::us,.cons r t,f=>by
  rw[Td,j0] at f;rw[LR,LR,afk r f.1,Jd t f.2]
theorem Iw(rx:RelV x v)(fx:tD x=aq):∀{xs:List V}{us:List aL},Vals xs us->xs.all tD=aq->∀u∈us,Ur A s u v (qQ x u)
 |_,_,.nil,_=>λu hu=>by cases hu
 |y::xs,u::us,.cons r t,f=>λu' hu=>by
  rw[Td,j0] at f;rcases cg.mp hu with rfl|hu
  .rw[afk r f.1];exact Pb r rx f.1 fx
  .exact Iw rx fx t f.2 u' hu
def inV(x:V)(xs:List V):Bool:=xs.any λy=>vD y x
def QT(K:bw)(neg:Bool):R2:=λx y H Q=>∃p xs,y=.ref p/\(cj K H p xs\/dg K H p xs)/\tD x=aq/\xs.all tD=aq/\Q (.bl (if neg then !inV x xs else inV x xs)) H
theorem amd:dR X (gM .In) (QT X.K aA):=by
 intro au s σ H x y v u Q I rx ry h
 obtain⟨p,xs,rfl,hq,fx,fs,q⟩:=h
 cases ry;rcases hq with hq|hq
 .obtain⟨aK,r,pl,hz⟩:=I.list hq
  refine SeqAt.in_listAt (qQ x) pl.isList (λw hw=>Iw rx fx r fs w (by simpa using hw)) ⟨.bl _,H,I,rfl,?_⟩;rw[show aK.toArray.any (qQ x)=aK.any (qQ x) by simp,Jd r fs];exact q
 .obtain⟨aK,r,pl,hz⟩:=I.tuple hq
  refine SeqAt.in_tupleAt (qQ x) pl (λw hw=>Iw rx fx r fs w (by simpa using hw)) ⟨.bl _,H,I,rfl,?_⟩;rw[show aK.toArray.any (qQ x)=aK.any (qQ x) by simp,Jd r fs];exact q
theorem akc:dR X (gM .NotIn) (QT X.K aq):=by
 intro au s σ H x y v u Q I rx ry h
 obtain⟨p,xs,rfl,hq,fx,fs,q⟩:=h
 cases ry;rcases hq with hq|hq
 .obtain⟨aK,r,pl,hz⟩:=I.list hq
  refine SeqAt.notIn_listAt (qQ x) pl.isList (λw hw=>Iw rx fx r fs w (by simpa using hw)) ⟨.bl _,H,I,rfl,?_⟩;rw[show aK.toArray.any (qQ x)=aK.any (qQ x) by simp,Jd r fs];exact q
 .obtain⟨aK,r,pl,hz⟩:=I.tuple hq
  refine SeqAt.notIn_tupleAt (qQ x) pl (λw hw=>Iw rx fx r fs w (by simpa using hw)) ⟨.bl _,H,I,rfl,?_⟩;rw[show aK.toArray.any (qQ x)=aK.any (qQ x) by simp,Jd r fs];exact q
theorem abw:jm X (.builtin "len") (λxs H Q=>∃p ys,xs=[.ref p]/\(cj X.K H p ys\/dg X.K H p ys)/\Q (.int ys.length) H):=by
 intro au s σ H xs us Q I r h
 obtain⟨p,ys,rfl,hq,q⟩:=h
 obtain⟨u,rfl,rx⟩:=vals1 r
 cases rx;have hn:=yj;rcases hq with hq|hq
 .obtain⟨aK,r',pl,hz⟩:=I.list hq
  have hlen:=r'.length;exact Calls.call_len_list pl.isList (by simp only[gK]<;>lia) ⟨.int ys.length,H,I.tok _,⟨s.toks+1,by rw[gK,hlen]⟩,q⟩
 .obtain⟨aK,r',pl,hz⟩:=I.tuple hq
  have hlen:=r'.length;exact len_tuple pl (by simp only[gK]<;>lia) ⟨.int ys.length,H,I.tok _,⟨s.toks+1,by rw[gK,hlen]⟩,q⟩
theorem akd:jm X (.builtin "len") (λxs H Q=>∃z,xs=[.str z]/\z.length<=cH/\Q (.int z.length) H):=by
 intro au s σ H xs us Q I r h
 obtain⟨z,rfl,hz,q⟩:=h
 obtain⟨u,rfl,t,rfl⟩:=vals1 r
 have hn:=yj;exact len_str az ⟨.int z.length,H,I.tok _,⟨_,rfl⟩,q⟩
theorem jm.or(h:jm X f r)(h':jm X f r'):jm X f (λxs H Q=>r xs H Q\/r' xs H Q):=by
 intro au s σ H xs us Q I rs q;rcases q with q|q
 .exact h au s σ H xs us Q I rs q
 .exact h' au s σ H xs us Q I rs q
theorem ake:jm X (.type "list") (λxs H Q=>∃p ys,xs=[.ref p]/\(cj X.K H p ys\/dg X.K H p ys)/\∀l,H l=ao->Q (.ref l) (upd H l (.lst ys))):=by
 intro au s σ H xs us Q I r h
 obtain⟨p,ys,rfl,hq,q⟩:=h
 obtain⟨u,rfl,rx⟩:=vals1 r
 cases rx;have fin:∀(aK:List aL),Vals ys aK->ys.length<=cH->∀(h':cu)(c':Nat),(∀b o',s.heap.get? b=aa o'->h'.get? b=aa o')->
   h'.get? s.heap.objs.size=aa {cls:=.type "list",dict:=ao,data:=.seq aK.toArray c',slots:=#[]}->EP X au σ Q (.ref s.heap.objs.size) {s with heap:=h'}:=λaK r' hz h' c' kp e=>
  ⟨.ref s.heap.objs.size,_,I.laid (t':=s.toks) kp (bU _) (show gn X.prog X.w _ h' _ (.lst ys) from⟨hz,aK,c',r',e⟩),rfl,q _ (I.hok.fresh (bU _))⟩
 rcases hq with hq|hq
 .obtain⟨aK,r',pl,hz⟩:=I.list hq
  have hlen:=r'.length
  obtain⟨o,ho,hc,n,hd⟩:=pl.isList
  exact call_list_seq p (.inl rfl) ho hc hd (λh' c' kp e=>fin aK r' hz h' c' kp e) (by simp only[gK]<;>lia)
 .obtain⟨aK,r',pl,hz⟩:=I.tuple hq
  have hlen:=r'.length
  obtain⟨o,ho,hc,n,hd⟩:=pl
  exact call_list_seq p (.inr rfl) ho hc hd (λh' c' kp e=>fin aK r' hz h' c' kp e) (by simp only[gK]<;>lia)
theorem Bm:jm X (.type "tuple") (λxs H Q=>∃p ys,xs=[.ref p]/\((cj X.K H p ys/\∀l,H l=ao->Q (.ref l) (upd H l (.tup ys)))\/(dg X.K H p ys/\Q (.ref p) H))):=by
 intro au s σ H xs us Q I r h
 obtain⟨p,ys,rfl,h⟩:=h
 obtain⟨u,rfl,rx⟩:=vals1 r
 cases rx;rcases h with⟨hq,q⟩|⟨hq,q⟩
 .obtain⟨aK,r',pl,hz⟩:=I.list hq
  have hlen:=r'.length;refine call_tuple_list pl.isList (λh' kp=>?_) (by simp only[gK]<;>lia);have I1:Inv X au σ H {s with heap:=h'}:=I.kept (t':=s.toks) kp;have I2:Inv X au σ (upd H h'.objs.size (.tup ys)) {s with heap:=h'.push {cls:=.type "tuple",data:=.seq aK.toArray}}:=
   I1.laid (t':=s.toks) (λb o e=>cG _ e) (bU _) (show gn X.prog X.w _ _ _ (.tup ys) from⟨hz,aK,r',IsTup.new _ _⟩)
  exact⟨.ref h'.objs.size,_,I2,rfl,q _ (I1.hok.fresh (bU _))⟩
 .obtain⟨aK,r',pl,hz⟩:=I.tuple hq
  exact call_tuple_same pl ⟨.ref p,H,I,rfl,q⟩
def tyV(K:bw)(T:String)(x:V)(H:Hp):Prop:=match x with
 |.str _=>T="str"
 |.int _=>T="int"
 |.ref p=>(T="list"/\∃xs,cj K H p xs)\/(T="tuple"/\∃o,K.lookup p=aa o/\o.cls=.type "tuple"/\o.dict=ao)\/
   (T="dict"/\((∃aC ep,H p=aa (.dK aC ep))\/∃aC ep,H p=aa (.dT aC ep)))\/(T="set"/\∃S n,H p=aa (.set S n))
 |_=>False
theorem aqG{σ:St}{H:Hp}{x:V}{v:aL}(I:Inv X au σ H s)(r:RelV x v)(ty:tyV X.K T x H):
  s.TypeIs v T/\∀a,v=.ref a->∃ob,s.heap.get? a=aa ob/\ob.dict=ao:=by
 cases x with
 |str z=>
  obtain⟨t,rfl⟩:=r
  cases(show T="str" from ty)
  exact⟨ab3 s z t,λ_ e=>nomatch e⟩
 |int i=>
  obtain⟨t,rfl⟩:=r
  cases(show T="int" from ty)
  exact⟨Ei s i t,λ_ e=>nomatch e⟩
 |ref p=>
  cases r;rcases ty with⟨rfl,xs,hq⟩|⟨rfl,o,hk,hc,hd⟩|⟨rfl,hk⟩|⟨rfl,S,n,hk⟩
  .obtain⟨aK,_,pl,_⟩:=I.list hq
   refine⟨pl.isList.typeIs,λa e=>?_⟩
   cases e
   obtain⟨o,n,e,c,hd,_⟩:=pl
   exact⟨o,e,hd⟩
  .refine⟨⟨o,I.jY p o hk,hc⟩,λa e=>?_⟩
   cases e
   exact⟨o,I.jY _ o hk,hd⟩
  .have z:∃o,s.heap.get? p=aa o/\o.ExactDict:=by
    rcases hk with⟨aC,ep,hk⟩|⟨aC,ep,hk⟩
    .obtain⟨_,_,_,_,o,_,e,ex,_⟩:=I.hok p _ hk
     exact⟨o,e,ex⟩
    .obtain⟨_,_,_,_,o,_,e,ex,_⟩:=I.hok p _ hk
     exact⟨o,e,ex⟩
   obtain⟨o,e,ex⟩:=z
   refine⟨⟨o,e,ex.1⟩,λa e2=>?_⟩
   cases e2
   exact⟨o,e,ex.2.1⟩
  .obtain⟨o,_,_,_,e,ex,_⟩:=I.hok p _ hk
   refine⟨⟨o,e,ex.1⟩,λa e2=>?_⟩
   cases e2
   exact⟨o,e,ex.2.1⟩
 |_=>exact xU ty
def tBM(K:bw)(T:String)(r:V->List V->Hp->VK->Prop)(to:TE)(t:TA):TE:=λσ H Q=>to σ H λx H1=>tyV K T x H1/\t σ H1 λxs H2=>r x xs H2 Q
variable{o e:Expr}{to:TE}{t:TA}{name:Str}{apos cpos:Pos}{T id:String}
theorem Qd(pa:PlainAttrs T)(slot:Slot T name id)(hty:typeOf (.builtin id)=pure (.type "method_descriptor"))(hm:MtR X id r)(ho:PE X o to)(ha:PA X (e::es) t)
  (hbase:Hw o name X.env (eval o X.env)=eval o X.env:=by rfl)
  (hfew:((iC cpos (bM (e::es) X.env)).all (λx=>!x.1)&&(Iz cpos (HR [] X.env)).all (λx=>x.1.isSome)
   &&decide ((e::es).length+([]:List uZ).length+(if([]:List uZ).isEmpty then 0 else 1)<30))=aq:=by rfl)
  (hline:(apos.endLine==cpos.line)=aq:=by rfl)(hs:bM (e::es) X.env=(aA,eval e X.env)::bM es X.env:=by rfl)(hplain:(iC cpos (bM es X.env)).any (·.1)=aA:=by rfl):
  PE X (.Call (.Attribute o name apos) (e::es) [] cpos) (tBM X.K T r to t):=by
 intro au s σ H Q I h;refine wpAny_Call_method_late hbase hfew hline rfl (b7 (ho au s σ H _ I h) λv s1 aY=>?_)
 obtain⟨x,H1,I1,r1,ty,q1⟩:=aY
 obtain⟨h1,h2⟩:=aqG I1 r1 ty
 refine⟨T,id,pa,slot,hty,h1,h2,?_⟩
 have hA:=ha cpos au s1 σ H1 _ I1 q1;rw[hs] at hA⊢;refine ahY (by show(aA||(iC cpos (bM es X.env)).any (·.1))=aA;rw[hplain]<;>rfl) (aid ?_);exact b7 hA λus s2 ⟨vs,H2,I2,r2,q2⟩=>hm au s2 σ H2 x vs v us Q I2 r1 r2 q2
end
def yS(X:Cx)(id:String)(r:V->List V->Hp->VK->Prop):Prop:=
 ∀(au:List (aH×Obj))(s:aZ)(σ:St)(H:Hp)(x:V)(xs:List V)(v:aL)(us:List aL)(Q:VK),Inv X au σ H s->RelV x v->Vals xs us->r x xs H Q->
  aQ (model X.prog X.w) X.A (call (.builtin id) (v::us)) (EP X au σ Q) X.xe s
theorem Vals.one:∀{x:V}{us:List aL},Vals [x] us->∃u,us=[u]/\RelV x u
 |_,_,.cons r .nil=>⟨_,rfl,r⟩
theorem Vals.eraseIdx:∀{xs:List V}{us:List aL}(i:Nat),Vals xs us->Vals (xs.eraseIdx i) (us.eraseIdx i)
 |_,_,_,.nil=>.nil
 |_,_,0,.cons _ t=>t
 |_,_,i+1,.cons r t=>.cons r (Vals.eraseIdx i t)
theorem Vals.rep(h:Vals xs us):∀k:Nat,Vals (cN k xs).flatten (cN k us).flatten
 |0=>.nil
 |k+1=>by
  rw[vN,vN,Hh,Hh];exact Vals.append h (Vals.rep h k)
theorem acE{α:Type}:∀(l:List α)(i:Nat),(l.eraseIdx i).length<=l.length
 |[],_=>bU _
 |_::_,0=>xP _
 |_::r,i+1=>aaF (acE r i)
theorem foldl_rep(aK:List aL):∀(k:Nat)(bJ:List aL),
  Us (λx1 x2=>x1++x2) bJ.toArray (cN k aK.toArray)=(bJ++(cN k aK).flatten).toArray
 |0,bJ=>by simp
 |k+1,bJ=>by
  have e:bJ.toArray++aK.toArray=(bJ++aK).toArray:=bF;have e2:(bJ++aK)++(cN k aK).flatten=bJ++(cN (k+1) aK).flatten:=by
   rw[vN,Hh,qX]
  rw[<-e2,<-foldl_rep aK k (bJ++aK),<-e,vN,vV]
section
variable{X:Cx}{au:List (aH×Obj)}{σ:St}{H:Hp}{s:aZ}{l b:aH}{xs ys zs:List V}
theorem Inv.agF{aK its':List aL}{n:Nat}(I:Inv X au σ H s)(hH:H l=aa (.lst xs))
  (e:s.heap.get? l=aa {cls:=.type "list",data:=.seq aK.toArray n})(hf:f aK.toArray=its'.toArray)(hv:Vals ys its')(hz:ys.length<=cH):
  Inv X au σ (upd H l (.lst ys)) {s with heap:=s.heap.update l (o9 f),toks:=t'}:=by
 have q:=PySem.IsL.update e f;rw[hf] at q;refine I.write (x:=l) (e:=l) (by rw[hH];exact trivial) (.inl rfl) (λb' u hb hu=>(qi s.heap (o9 f) (kJ hb)).trans hu) ⟨_,q⟩ ?_
 exact⟨hz,its',_,hv,q⟩
theorem Inv.atg(I:Inv X au σ H s)(hv:Vals ys aK)(hz:ys.length<=cH):
  Inv X au σ (upd H s.heap.objs.size (.lst ys)) {s with heap:=s.heap.push {cls:=.type "list",data:=.seq aK.toArray},toks:=t'}:=
 I.laid (λ_ _ q=>cG _ q) (bU _) ⟨hz,aK,0,hv,gR _ rfl⟩
theorem Inv.fresh(I:Inv X au σ H s):H s.heap.objs.size=ao:=I.hok.fresh (bU _)
theorem Inv.Qw(I:Inv X au σ H s)(hH:H l=aa (.lst xs)):xs.length<=cH/\∃(aK:List aL)(n:Nat),Vals xs aK/\xs.length=aK.length/\s.heap.get? l=aa {cls:=.type "list",data:=.seq aK.toArray n}:=by
 obtain⟨z,aK,n,r,e⟩:=I.hok l _ hH
 exact⟨z,aK,n,r,r.length,e⟩
end
section
variable{X:Cx}
def aoS:V->List V->Hp->VK->Prop:=λx vs H Q=>∃l xs y,x=.ref l/\vs=[y]/\H l=aa (.lst xs)/\xs.length<cH/\Q .non (upd H l (.lst (xs++[y])))
theorem Va:yS X "list.append" aoS:=by
 intro au s σ H x vs v us Q I rx rv h
 obtain⟨l,xs,y,rfl,rfl,hH,hz,q⟩:=h
 cases rx
 obtain⟨u,rfl,ru⟩:=rv.one
 obtain⟨z,aK,n,r,hl,e⟩:=I.Qw hH
 refine Bs aaf ⟨_,e,rfl⟩ F.entry_list_append (F.args_list_append_2 _ _) (PySem.list_append l aK.toArray n u (by rw[gK];lia)) ⟨e,?_⟩
 refine⟨.non,_,I.agF (its':=aK++[u]) hH e bF (r.append (.cons ru .nil)) ?_,rfl,q⟩
 rw[gJ,lA];lia
def aqH:V->List V->Hp->VK->Prop:=λx vs H Q=>∃l xs i k y,x=.ref l/\vs=[.int i]/\H l=aa (.lst xs)/\-(2^63)<=i/\i<2^63/\U9 i xs.length=aa k/\xs[k]?=aa y/\Q y (upd H l (.lst (xs.eraseIdx k)))
theorem anq:yS X "list.pop" aqH:=by
 intro au s σ H x vs v us Q I rx rv h
 obtain⟨l,xs,i,k,y,rfl,rfl,hH,h1,h2,hk,hy,q⟩:=h
 cases rx
 obtain⟨u,rfl,ru⟩:=rv.one
 obtain⟨t,rfl⟩:=ru
 obtain⟨z,aK,n,r,hl,e⟩:=I.Qw hH
 obtain⟨w,hw,rw'⟩:=r.get hy
 refine Bs ajk ⟨_,e,rfl⟩ F.entry_list_pop (F.args_list_pop_2 _ _)
  (MeetsSeq.list_pop_at l aK.toArray n i t k w (fitsIndex_both h1 h2) (by rw[gK,<-hl];exact hk) (by rw[<-G9];exact hw) (by rw[gK];lia)) ⟨e,?_⟩
 refine⟨y,_,I.agF (its':=aK.eraseIdx k) hH e ?_ (r.eraseIdx k) ?_,rw',q⟩
 .show aK.toArray.eraseIdxIfInBounds k=(aK.eraseIdx k).toArray;rw[List.eraseIdxIfInBounds_toArray]
 .have:=acE xs k;lia
def agG:R2:=λx y H Q=>∃l b xs zs,x=.ref l/\y=.ref b/\H l=aa (.lst xs)/\H b=aa (.lst zs)/\xs.length+zs.length<=cH/\∀p,H p=ao->Q (.ref p) (upd H p (.lst (xs++zs)))
theorem aqI:dR X (pC .Add) agG:=by
 intro au s σ H x y v u Q I rx ry h
 obtain⟨l,b,xs,zs,rfl,rfl,hH,hB,hz,q⟩:=h
 cases rx;cases ry
 obtain⟨z,aK,n,r,hl,e⟩:=I.Qw hH
 obtain⟨z2,its2,n2,r2,hl2,e2⟩:=I.Qw hB
 refine PySem.P.add_list e e2 ?_ (by rw[gK,gK];lia);have ea:aK.toArray++its2.toArray=(aK++its2).toArray:=bF;rw[ea]
 exact⟨.ref _,_,I.atg (t':=s.toks) (r.append r2) (by rw[gJ];lia),rfl,q _ I.fresh⟩
theorem len_rep{α:Type}(xs:List α)(k:Nat):(cN k xs).flatten.length=k*xs.length:=by
 induction k with
 |zero=>simp
 |succ k ih=>rw[vN,Hh,gJ,ih,akf,Nat.add_comm]
end
section
set_option maxRecDepth 100000 in
end
section
variable{κ:Type}[DecidableEq κ]
def p6(aC:List (κ×V))(k:κ):Option V:=(aC.find? λkv=>decide (kv.1=k)).map (·.2)
def putK(aC:List (κ×V))(k:κ)(v:V):List (κ×V):=
 if(aC.any λkv=>decide (kv.1=k))=aq then aC.map (λkv=>if kv.1=k then(kv.1,v) else kv) else aC++[(k,v)]
theorem Ny{k:κ}(e:p.1=k):p6 (p::r) k=aa p.2:=by simp[p6,xJ,e]
theorem Nz{k:κ}(e:¬p.1=k):p6 (p::r) k=p6 r k:=by simp[p6,xJ,e]
theorem adi(k:κ):∀aC:List (κ×V),(aC.any λkv=>decide (kv.1=k))=(p6 aC k).isSome
 |[]=>rfl
 |p::r=>by
  rw[LR];by_cases e:p.1=k
  .simp only[Ny e,dW e,Bool.true_or,aix]
  .rw[Nz e,jy e,Bool.false_or];exact adi k r
theorem Ub(aC:List (κ×V))(k:κ)(v:V):(putK aC k v).length<=aC.length+1:=by
 unfold putK;split
 .rw[bD];lia
 .rw[gJ,fY,RT];lia
theorem tK.Ir(r:tK o u):o.isSome=u.isSome:=by
 cases o with
 |none=>cases u with
  |none=>rfl
  |some _=>exact(show False from r).elim
 |some _=>cases u with
  |none=>exact(show False from r).elim
  |some _=>rfl
theorem tK.getD(r:tK o u)(rd:RelV d d'):RelV (o.getD d) (u.getD d'):=by
 cases o with
 |none=>cases u with
  |none=>exact rd
  |some _=>exact(show False from r).elim
 |some _=>cases u with
  |none=>exact(show False from r).elim
  |some _=>exact r
theorem KV.val(r:KV aC vs)(k:κ):tK (p6 aC k) (Fi vs k):=by
 unfold KV at r;induction r with
 |nil=>exact qt
 |@cons p q ps qs h t ih=>
  obtain⟨h1,h2⟩:=h
  by_cases e:p.1=k
  .have e':q.1=k:=h1.symm.trans e;have b:Fi (q::qs) k=aa q.2:=by simp[Fi,xJ,e']
   rw[Ny e,b];exact h2
  .have e':¬q.1=k:=λz=>e (h1.trans z)
   have b:Fi (q::qs) k=Fi qs k:=by simp[Fi,xJ,e']
   rw[Nz e,b];exact ih
theorem KV.any(r:KV aC vs)(k:κ):(aC.any λkv=>decide (kv.1=k))=vs.any λkv=>decide (kv.1=k):=by
 unfold KV at r;induction r with
 |nil=>rfl
 |cons h t ih=>rw[LR,LR,ih,h.1]
theorem KV.repl(r:KV aC vs)(k:κ)(ry:RelV y u):
  KV (aC.map λkv=>if kv.1=k then(kv.1,y) else kv) (vs.map λkv=>if kv.1=k then(kv.1,u) else kv):=by
 unfold KV at r⊢;induction r with
 |nil=>exact .nil
 |@cons p q ps qs h t ih=>
  rw[dU,dU];refine .cons ?_ ih
  obtain⟨h1,h2⟩:=h
  by_cases e:p.1=k
  .rw[bC e,bC (h1.symm.trans e)];exact⟨h1,ry⟩
  .rw[bB e,bB (λz=>e (h1.trans z))];exact⟨h1,h2⟩
theorem KV.put(r:KV aC vs)(k:κ)(ry:RelV y u):KV (putK aC k y) (stored vs k u):=by
 unfold putK stored;rw[r.any k];by_cases e:(vs.any λkv=>decide (kv.1=k))=aq
 .rw[bC e,bC e];exact r.repl k ry
 .rw[bB e,bB e];exact Paired.snoc r ⟨rfl,ry⟩
theorem KV.length{aC:List (κ×V)}(r:KV aC vs):aC.length=vs.length:=Paired.length r
end
theorem CJ(r:RelV (kV k) u):(ou P w).is k u=aq:=by
 cases k with
 |inl i=>obtain⟨t,e⟩:=(show ∃t,u=zJ i t from r);subst e;exact akL P w i t
 |inr x=>obtain⟨t,e⟩:=(show ∃t,u=M6 x t from r);subst e;exact akM P w x t
theorem acF:∀{ks:List Key}{us:List aL},Vals (ks.map kV) us->ItemsAre (ou P w) ks us
 |[],_,r=>by rw[sI] at r;cases r;exact .nil
 |k::ks,_,r=>by
  rw[dU] at r;cases r with
  |cons h t=>exact .cons (CJ h) (acF t)
abbrev KT(H:Hp):List (List Key×V)->List (List Key×aH×aL)->Prop:=Paired λp q=>p.1=q.1/\H q.2.1=aa (.tup (p.1.map kV))/\RelV p.2 q.2.2
theorem KT.val(r:KT H aC xs)(k:List Key):tK (p6 aC k) ((zZ xs k).map (·.2)):=by
 induction r with
 |nil=>exact qt
 |@cons p q ps qs h t ih=>
  obtain⟨h1,_,h2⟩:=h
  by_cases e:p.1=k
  .have e':q.1=k:=h1.symm.trans e;have b:zZ (q::qs) k=aa q.2:=by simp[zZ,xJ,e']
   rw[Ny e,b];exact h2
  .have e':¬q.1=k:=λz=>e (h1.trans z)
   have b:zZ (q::qs) k=zZ qs k:=by simp[zZ,xJ,e']
   rw[Nz e,b];exact ih
theorem KT.repl(r:KT H aC xs)(k:List Key)(ry:RelV y u):
  KT H (aC.map λkv=>if kv.1=k then(kv.1,y) else kv) (xs.map (putAt k u)):=by
 induction r with
 |nil=>exact .nil
 |@cons p q ps qs h t ih=>
  rw[dU,dU];refine .cons ?_ ih
  obtain⟨h1,h2,h3⟩:=h
  unfold putAt;by_cases e:p.1=k
  .rw[bC e,bC (h1.symm.trans e)];exact⟨h1,h2,ry⟩
  .rw[bB e,bB (λz=>e (h1.trans z))];exact⟨h1,h2,h3⟩
theorem KT.put(r:KT H aC xs)(k:List Key)(hb:H b=aa (.tup (k.map kV)))(ry:RelV y u):
  KT H (putK aC k y) (storedH xs k b u):=by
 have e:(aC.any λkv=>decide (kv.1=k))=(zZ xs k).isSome:=by
  rw[adi,(r.val k).Ir,aam]
 unfold putK storedH;rw[e];by_cases q:(zZ xs k).isSome=aq
 .rw[bC q,bC q];exact r.repl k ry
 .rw[bB q,bB q];exact Paired.snoc r ⟨rfl,hb,ry⟩
theorem KT.keeps(r:KT H aC xs)(ht:∀b ys,H b=aa (.tup ys)->H' b=aa (.tup ys)):KT H' aC xs:=
 Paired.Yn r λ_ _ z=>⟨z.1,ht _ _ z.2.1,z.2.2⟩
theorem af8(ok:jM P w H h)(e:Rd H a u):gn P w H h a u:=e.ok ok
def yU(H:Hp)(a:aH)(aC:List (Key×V)):Prop:=∃ep,Rd H a (.dK aC ep)
def Dm(H:Hp)(a:aH)(aC:List (List Key×V)):Prop:=∃ep,Rd H a (.dT aC ep)
theorem yt(ok:jM P w H h)(e:yU H a aC):aC.length<=cH/\(a==sO)=aA/\∃vs,KV aC vs/\h.DictOf (ou P w) a vs:=
 let ⟨ep,e⟩:=e;let ⟨z,y,vs,r,p⟩:=(show gn P w H h a (.dK aC ep) from af8 ok e);⟨z,y,vs,r,p.dictOf⟩
theorem af9(ok:jM P w H h)(e:H a=aa (.dK aC ep)):aC.length<=cH/\(a==sO)=aA/\∃vs,KV aC vs/\h.DictOf (ou P w) a vs:=yt ok ⟨ep,.inl e⟩
theorem FQ(ok:jM P w H h)(e:H a=aa (.tup (ks.map kV))):(Ip (ou P w)).is h ks a:=by
 obtain⟨_,aK,r,o,h1,h2,n,h3⟩:=(show gn P w H h a (.tup (ks.map kV)) from ok a _ e)
 exact⟨o,aK.toArray,n,h1,h2,h3,by simpa using acF r⟩
theorem Aa(ok:jM P w H h)(e:Dm H a aC):aC.length<=cH/\(a==sO)=aA/\
  ∃xs,KT H aC xs/\h.DictOfH (Ip (ou P w)) a xs:=by
 obtain⟨ep,e⟩:=e
 obtain⟨z,y,xs,r,o,es,h1,h2,h3,h4,h5⟩:=(show gn P w H h a (.dT aC ep) from af8 ok e)
 refine⟨z,y,xs,r,o,es,ep,h1,h2,h3,h4,λx hx=>?_,h5⟩
 have all:∀{l:List (List Key×V)}{m:List (List Key×aH×aL)},KT H l m->∀x∈m,(Ip (ou P w)).is h x.1 x.2.1:=by
  intro l m q;induction q with
  |nil=>intro x hx;exact nomatch hx
  |@cons p q ps qs hq t ih=>
   intro x hx;rcases cg.mp hx with e|hx
   .subst e;exact FQ ok (by rw[<-hq.1];exact hq.2.1)
   .exact ih x hx
 exact all r x hx
theorem arY(ok:jM P w H h)(e:H a=aa (.dT aC ep)):aC.length<=cH/\(a==sO)=aA/\
  ∃xs,KT H aC xs/\h.DictOfH (Ip (ou P w)) a xs:=Aa ok ⟨ep,.inl e⟩
def pL(H:Hp)(a:aH)(y:V)(r:Option V):Prop:=
 (∃aC k,yU H a aC/\y=kV k/\r=p6 aC k)\/∃aC k b,Dm H a aC/\y=.ref b/\H b=aa (.tup (k.map kV))/\r=p6 aC k
def vz(H:Hp)(a:aH)(y v:V)(H':Nat->Hp):Prop:=
 (∃aC k,(∃ep,H a=aa (.dK aC ep))/\y=kV k/\aC.length<cH/\H'=λe=>upd H a (.dK (putK aC k v) e))\/
 ∃aC k b,(∃ep,H a=aa (.dT aC ep))/\y=.ref b/\H b=aa (.tup (k.map kV))/\aC.length<cH/\H'=λe=>upd H a (.dT (putK aC k v) e)
theorem pL.k{H:Hp}{k:Key}(e:H a=aa (.dK aC ep)):pL H a (kV k) (p6 aC k):=.inl ⟨aC,k,⟨ep,.inl e⟩,rfl,rfl⟩
theorem pL.t{H:Hp}{k:List Key}{ep:Nat}(e:H a=aa (.dT aC ep))(eb:H b=aa (.tup (k.map kV))):pL H a (.ref b) (p6 aC k):=.inr ⟨aC,k,b,⟨ep,.inl e⟩,rfl,eb,rfl⟩
theorem vz.k{H:Hp}{k:Key}{v:V}(e:H a=aa (.dK aC ep))(hl:aC.length<cH):vz H a (kV k) v (λe=>upd H a (.dK (putK aC k v) e)):=.inl ⟨aC,k,⟨ep,e⟩,rfl,hl,rfl⟩
theorem vz.t{H:Hp}{k:List Key}{v:V}{ep:Nat}(e:H a=aa (.dT aC ep))(eb:H b=aa (.tup (k.map kV)))(hl:aC.length<cH):
  vz H a (.ref b) v (λe=>upd H a (.dT (putK aC k v) e)):=.inr ⟨aC,k,b,⟨ep,e⟩,rfl,eb,hl,rfl⟩
section
variable{X:Cx}{σ:St}{H:Hp}{s:aZ}{a:aH}{y v:V}{u r:aL}{A:iz}
theorem Inv.big(I:Inv X au σ H s):sO<s.heap.objs.size:=by
 have h:iw<s.heap.objs.size:=(I.mod.glob.keeps I.bk).lt;exact Tv bA h
theorem ame(hu:A.units+1<iG)(I:Inv X au σ H s)(g:pL H a y (aa v))(ry:RelV y u)(h:∀w' s',Inv X au σ H s'->RelV v w'->Q w' s'):
  aQ (model X.prog X.w) A (zQ (.ref a) u) Q E s:=by
 rcases g with⟨aC,k,e,ey,l⟩|⟨aC,k,b,e,ey,eb,l⟩
 .subst ey
  obtain⟨z,hd,vs,rel,dd⟩:=yt I.hok e
  obtain⟨w',hw,rw'⟩:=tK.some_of (v:=v) (o:=Fi vs k) (by rw[l];exact rel.val k)
  exact wpAny_getItem_of (CJ ry) dd.mapOf hw (h w' _ (I.tok _) rw')
 .subst ey
  cases(show u=dJ b from ry)
  obtain⟨z,hd,xs,rel,dd⟩:=Aa I.hok e
  obtain⟨w',hw,rw'⟩:=tK.some_of (v:=v) (o:=(zZ xs k).map (·.2)) (by rw[l];exact rel.val k)
  obtain⟨p,hp,hp2⟩:=Ax.mp hw
  refine wpAny_getItem_heap (KZ hu) (FQ I.hok eb) dd hp ?_;rw[hp2];exact h w' _ (I.tok _) rw'
theorem agH(hu:A.units+1<iG)(I:Inv X au σ H s)(g:pL H a y o)(ry:RelV y u)(h:∀s',Inv X au σ H s'->Q (.bool o.isSome) s'):
  aQ (model X.prog X.w) A (gM .In u (.ref a)) Q E s:=by
 rcases g with⟨aC,k,e,ey,l⟩|⟨aC,k,b,e,ey,eb,l⟩
 .subst ey
  obtain⟨z,hd,vs,rel,dd⟩:=yt I.hok e
  refine wpAny_in_of (CJ ry) hd dd.mapOf ?_;rw[<-(rel.val k).Ir,<-l];exact h _ (I.tok _)
 .subst ey
  cases(show u=dJ b from ry)
  obtain⟨z,hd,xs,rel,dd⟩:=Aa I.hok e
  refine wpAny_in_heap (KZ hu) (FQ I.hok eb) hd dd ?_;have q:=(rel.val k).Ir;rw[aam] at q;rw[<-q,<-l];exact h _ (I.tok _)
theorem aer(hu:A.units+1<iG)(I:Inv X au σ H s)(g:pL H a y o)(ry:RelV y u)(h:∀s',Inv X au σ H s'->Q (.bool (!o.isSome)) s'):
  aQ (model X.prog X.w) A (gM .NotIn u (.ref a)) Q E s:=by
 rcases g with⟨aC,k,e,ey,l⟩|⟨aC,k,b,e,ey,eb,l⟩
 .subst ey
  obtain⟨z,hd,vs,rel,dd⟩:=yt I.hok e
  refine wpAny_notIn_of (CJ ry) hd dd.mapOf ?_;rw[<-(rel.val k).Ir,<-l];exact h _ (I.tok _)
 .subst ey
  cases(show u=dJ b from ry)
  obtain⟨z,hd,xs,rel,dd⟩:=Aa I.hok e
  refine wpAny_notIn_heap (KZ hu) (FQ I.hok eb) hd dd ?_;have q:=(rel.val k).Ir;rw[aam] at q;rw[<-q,<-l];exact h _ (I.tok _)
theorem Fj(I:Inv X au σ H s)(mu:JV (H a))(hs:zE a s.heap h')(he:∃q,h'.get? a=aa q)(new:gn X.prog X.w (upd H a ob) h' a ob):
  Inv X au σ (upd H a ob) {s with heap:=h',toks:=t'}:=
 I.write (x:=a) (e:=a) mu (.inl rfl) (λb q hb z=>(hs.2 b hb).trans z) he new
theorem Xo(z:aC.length<=cH)(hd:(a==sO)=aA)(rel:KV aC vs)(dd:h'.DictAt (ou P w) a vs ep):
  gn P w H' h' a (.dK aC ep):=⟨z,hd,vs,rel,dd⟩
theorem acG(hu:A.units+1<iG)(I:Inv X au σ H s)(g:vz H a y v H')(ry:RelV y u)(rv:RelV v r)(h:∀e s',Inv X au σ (H' e) s'->Q () s'):
  aQ (model X.prog X.w) A (setItem (.ref a) u r) Q E s:=by
 rcases g with⟨aC,k,⟨ep,e⟩,ey,l,eH⟩|⟨aC,k,b,⟨ep,e⟩,ey,eb,l,eH⟩
 .subst ey eH
  obtain⟨z,hd,vs,rel,dd⟩:=af9 I.hok e
  have hz:vs.length<=cH:=by rw[<-rel.length];exact z
  have hl:(putK aC k v).length<=cH:=by have:=Ub aC k v;lia
  refine wpAny_setItem_pairs (hsz:=hz) (CJ ry) dd λh' Dp hs=>?_
  obtain⟨ep',dd2⟩:=Dp.dictAt
  refine h ep' _ ?_;have he:∃q,h'.get? a=aa q:=let ⟨q,_,_,hq,_⟩:=Dp;⟨q,hq⟩
  exact Fj I (by rw[e];exact qt) hs he (Xo hl hd (rel.put k rv) dd2)
 .subst ey eH
  cases(show u=dJ b from ry)
  obtain⟨z,hd,xs,rel,dd⟩:=arY I.hok e
  have hz:xs.length<=cH:=by rw[<-Paired.length rel];exact z
  have hl:(putK aC k v).length<=cH:=by have:=Ub aC k v;lia
  refine wpAny_setItem_heap (hsz:=hz) (KZ hu) (FQ I.hok eb) dd λh' Dp hs=>?_
  obtain⟨q,es,ep2,hq,h2,h3,h4,_,h5⟩:=Dp
  refine h ep2 _ ?_;refine Fj I (by rw[e];exact qt) hs ⟨q,hq⟩ ⟨hl,hd,_,(rel.put k eb rv).keeps λc ys ec=>?_,q,es,hq,h2,h3,h4,h5⟩;rw[fD (X3 ec e (λz=>nomatch z))];exact ec
end
section
variable{X:Cx}{au:List (aH×Obj)}{σ:St}{H:Hp}{s:aZ}{a:aH}{aC:List (Key×V)}{k:Key}{u:aL}{A:iz}{E:aL->aZ->Prop}
theorem arZ(I:Inv X au σ H s)(e:yU H a aC)(h:∀t s',Inv X au σ H s'->Q (.int aC.length t) s'):aQ (model X.prog X.w) A (call (.builtin "len") [.ref a]) Q E s:=by
 obtain⟨z,hd,vs,rel,dd⟩:=yt I.hok e
 refine call_len_dict hd dd (by rw[<-rel.length];rw[lN] at z;lia) ?_;rw[<-rel.length];exact h _ _ (I.tok _)
end
theorem akN{X:Cx}{σ:St}{H:Hp}{a:aH}{y:V}(I:Inv X au σ H s)(g:pL H a y o):s.TypeIs (.ref a) "dict":=by
 rcases g with⟨aC,k,e,_,_⟩|⟨aC,k,b,e,_,_,_⟩
 .obtain⟨_,_,vs,_,dd⟩:=yt I.hok e
  exact dd.typeIs
 .obtain⟨_,_,xs,_,dd⟩:=Aa I.hok e
  exact dd.typeIs
theorem adk(h:cu)(hb:sO<h.objs.size):gn P w H (h.push {cls:=.type "dict",data:=.dict #[]}) h.objs.size (.dK [] 0):=
 ⟨j5 _,beq_eq_false_iff_ne.mpr (kJ (gj hb)),[],.nil,_,#[],gR _ rfl,⟨rfl,rfl,rfl⟩,rfl,λi hi=>absurd hi bF,.nil,lJ⟩
def aqJ:TE:=λ_ H Q=>∀p,H p=ao->Q (.ref p) (upd H p (.dK [] 0))
theorem anr:PE X (.Dict [] [] pos) aqJ:=λau s σ H Q I h=>
 wpAny_Dict_empty ⟨.ref s.heap.objs.size,_,I.laid (a:=s.heap.objs.size) (o:=.dK [] 0) (t':=s.toks) (λ_ _ q=>cG _ q) (bU _) (adk s.heap I.big),rfl,h _ (I.hok.fresh (bU _))⟩
structure M2(X:Cx)(o:Expr)(m:Str)(apos:Pos)(e f:Expr)(cpos:Pos):Prop where
 base:Hw o m X.env (eval o X.env)=eval o X.env
 few:((iC cpos (bM [e,f] X.env)).all (λx=>!x.1)&&(Iz cpos (HR [] X.env)).all (λx=>x.1.isSome)
  &&decide (([e,f]:List Expr).length+([]:List uZ).length+(if([]:List uZ).isEmpty then 0 else 1)<30))=aq
 line:(apos.endLine==cpos.line)=aq
 trees:iC cpos (bM [e,f] X.env)=[(aA,eval e X.env),(aA,eval f X.env)]
def IsD(H:Hp)(a:aH):Prop:=(∃aC,yU H a aC)\/∃aC,Dm H a aC
theorem aqK{X:Cx}{σ:St}{H:Hp}(I:Inv X au σ H s)(d:IsD H a):
  s.TypeIs (.ref a) "dict"/\(∀b,dJ a=.ref b->∃ob,s.heap.get? b=aa ob/\ob.dict=ao)/\(a==sO)=aA:=by
 rcases d with⟨aC,e⟩|⟨aC,e⟩
 .obtain⟨_,hd,vs,_,dd⟩:=yt I.hok e
  refine⟨dd.typeIs,λb q=>?_,hd⟩
  cases q
  obtain⟨ob,_,_,h1,h2,_⟩:=dd
  exact⟨ob,h1,h2.2.1⟩
 .obtain⟨_,hd,xs,_,dd⟩:=Aa I.hok e
  refine⟨dd.typeIs,λb q=>?_,hd⟩
  cases q
  obtain⟨ob,_,_,h1,h2,_⟩:=dd
  exact⟨ob,h1,h2.2.1⟩
section
variable{X:Cx}{au:List (aH×Obj)}{σ:St}{H:Hp}{s:aZ}{a:aH}{y d:V}{u r:aL}{o:Option V}{A:iz}{E:aL->aZ->Prop}
theorem afl(hu:A.units+1<iG)(I:Inv X au σ H s)(g:pL H a y o)(ry:RelV y u)(rd:RelV d r)(h:∀w' s',Inv X au σ H s'->RelV (o.getD d) w'->Q w' s'):
  aQ (model X.prog X.w) A (call (.builtin "dict.get") [.ref a,u,r]) Q E s:=by
 rcases g with⟨aC,k,e,ey,l⟩|⟨aC,k,b,e,ey,eb,l⟩
 .subst ey
  obtain⟨z,hd,vs,rel,dd⟩:=yt I.hok e
  refine call_meetsIn Z3 dd.typeIs ahZ (ahV _ _ _) (meets_dict_get_default (ou X.prog X.w) a (CJ ry) hd r) ⟨_,dd.mapOf,h _ _ (I.tok _) ?_⟩;rw[l]
  exact(rel.val k).getD rd
 .subst ey
  cases(show u=dJ b from ry)
  obtain⟨z,hd,xs,rel,dd⟩:=Aa I.hok e
  refine call_meetsIn Z3 dd.typeIs ahZ (ahV _ _ _) (meetsH_dict_get_default (Ip (ou X.prog X.w)) a b hd r) ⟨KZ hu,k,xs,FQ I.hok eb,dd,h _ _ (I.tok _) ?_⟩;rw[l]
  exact(rel.val k).getD rd
end
end L2
namespace Att
open PySem PySem.W PySem.Calls PyProof.Rows
theorem ajl:∀(ns:List Int)(vs:List aL),WellAll P h vs (ns.map WData.int)->IntsAre vs ns:=by
 intro ns;induction ns with
 |nil=>
  intro vs w;rw[sI] at w;cases w;exact .nil
 |cons n ns ih=>
  intro vs w;rw[dU] at w;cases w with
  |cons a b=>
   cases a;exact .cons _ _ (ih _ b)
theorem amf{l:OpenLaw}{n:Nat}(hn:l.most=aa n){P:Params}{h:cu}
  (hpre:l.row.toRowW.claim.pre args=aq)(hwl:WellAll P h vals args):
  ∃a vs ns,vals=[dJ a]/\args=[WData.list (ns.map WData.int)]/\h.get? a=aa {cls:=.type "list",data:=.seq vs.toArray}/\IntsAre vs ns/\ns.length<=n:=by
 have hsh:WShape.hasAll [] args [.list .int]=aq:=(pre_splitW hpre).1;have hc:l.pre.holds [] {args:=args}=aq:=(pre_splitW hpre).2
 obtain⟨d,r,rfl,h1,h2⟩:=hasAllW_cons hsh
 obtain rfl:=hasAllW_nil h2
 obtain⟨xs,rfl,h3⟩:=hasW_list h1
 obtain⟨ns,rfl⟩:=items_int h3
 have hlen:ns.length<=n:=by
  unfold OpenLaw.pre at hc;have h4:(WTm.not (.lt (.lit (.int (n:Int))) (.len (.arg 0)))).holds [] {args:=[.list (ns.map .int)]}=aq:=by
   have h4:=(holds_andW hc).1;rw[hn] at h4;exact h4
  have h5:=condW_of h4 (w_not (w_lt w_lit (w_len_list (w_arg rfl))));rw[bD] at h5;refine Nat.le_of_not_lt λq=>?_
  have q':(n:Int)<((ns.length:Nat):Int):=az
  first
   |(rw[dW q'] at h5;exact absurd h5 bA)
   |(simp at h5;lia)
 cases hwl with
 |cons w1 w2=>
  cases w2;cases w1 with
  |list ho hall=>exact⟨_,_,ns,rfl,rfl,ho,ajl ns _ hall,hlen⟩
theorem amg(l:OpenLaw)(args:List WData):l.row.toRowW.claim.post args (.bool aq) args=aq:=
 postW_of (r:=l.row.toRowW) (X:=(aq==aq))
  (show WShape.has [] (.bool aq) .bool=aq by first|rfl|decide|simp[WShape.has,WShape.arms,WShape.armsAll])
  (show(WTm.eq .res (.lit (.bool aq))).value [] {args:=args,res:=aa (.bool aq),after:=args}=aa (.bool (aq==aq)) from w_eq_bool (w_res rfl) w_lit) rfl
theorem akO{l:OpenLaw}{n:Nat}{q:fV}{d:DefRec}
  (hn:l.most=aa n)(hdf:d.params.defaults=[])
  (call:∀(w:dD)(s₀ s₁:aZ)(mg mb:Str->Option aL)(fa:aH)(o:Obj)(pm cd doc:aL)(a:aH)(vs:List aL)(ns:List Int),
   Ground q loose [] XP w s₀ mg mb s₁.heap->YP w s₁.heap->
   s₁.heap.get? fa=aa o->o.data=.func (docDef d.name d.params d.body d.scope pm cd doc)->s₁.heap.CodeRec cd d.name->mg d.name=aa (.ref fa)->
   s₁.heap.get? a=aa {cls:=.type "list",data:=.seq vs.toArray}->IntsAre vs ns->ns.length<=n->s₁.gens=#[]->
   lQ (model l.prog w) Fo (.call (.ref fa) ⟨[.ref a],[]⟩) (λr s'=>r=.ok (.ret (.bool aq))/\OldK s₁.heap s'.heap/\s'.os=s₁.os/\AllBare s'.gens) s₁):
  WalkO q loose XP YP l.row.toRowW d [] (λf vs=>ab4 f vs):=by
 intro w s₀ s₁ mg mb G Y fa o pm cd doc dV kV ho hd hcd hD hmg hg args vals as hpre hlay hrd hwl hlo;obtain rfl:dV=.none:=Dflts.none hD hdf;obtain rfl:kV=.none:=Dflts.noKw hD
 obtain⟨a,vs,ns,rfl,rfl,hobj,hints,hlen⟩:=amf hn hpre hwl
 refine enter_call (Eb (call w s₀ s₁ mg mb fa o pm cd doc a vs ns G Y ho (fd_plain hd) hcd hmg hobj hints hlen hg) λr s' hq=>?_)
 obtain⟨rfl,h2,h3,h4⟩:=hq
 exact⟨.inl ⟨.bool aq,.bool aq,[],rfl,λ_=>rfl,.bool aq,amg l _,λ_=>⟨uO,λ_ hm=>(nomatch hm)⟩⟩,h2,h3,h4⟩
section
variable{prog:fV}{w:dD}{A:iz}{E:aL->aZ->Prop}{s:aZ}{K:Frag}
def ledger(h:cu)(L d:aH):List (aH×Obj):=(dh h.objs.size).filterMap λa=>if a=L\/a=d then ao else(h.get? a).map λo=>(a,o)
end
end Att
namespace L2
open PySem PySem.Spec PyProof.Rows
theorem M7:∀{vs:List aL}{ns:List Int},IntsAre vs ns->Vals (ns.map V.int) vs
 |_,_,.nil=>.nil
 |_,_,.cons n t h=>.cons ⟨t,rfl⟩ (M7 h)
def Only(H:Hp):Prop:=∀b,H b=ao\/∃o xs,H b=aa (.qb o (.lst xs))
theorem ant{P:fV}{w:dD}{K:bw}{CX:xF}{k:Nat}{fa a:aH}{fd:wC}{x:Str}{sp:Sp}{s₁:aZ}{ns:List Int}
  (KX:K.In s₁.heap)(hns:s₁.heap.Ns iw mg)(hb:s₁.heap.Ns builtinsNs mb)(hbb:∀x:Str,x≠"__name__"->mb x=uQ x)(hlim:s₁.heap.NoLimit)(hg:s₁.gens=#[])
  (ha:s₁.heap.get? a=aa {cls:=.type "list",data:=.seq vs.toArray})(hi:IntsAre vs ns)(hl:ns.length<=cH)(hr:kY k Fo)
  (F:∀base:cu,K.In base->base.Ns iw mg->fX P w K mg base CX k fa fd [x] sp)(hbind:∀(s:aZ)(u:aL),Fg s fd ⟨[u],[]⟩ [(x,u)])
  (hsp:∀H:Hp,Only H->cj K H a (ns.map V.int)->sp [.ref a] H (λv _=>v=.bl aq) λ_ _ _=>False)
  (Y7:∀H e s',CX [] H s₁ (λ_ _ _=>False) e s'->False):
  lQ (model P w) Fo (.call (.ref fa) ⟨[.ref a],[]⟩) (λr s'=>r=.ok (.ret (.bool aq))/\OldK s₁.heap s'.heap/\s'.os=s₁.os/\AllBare s'.gens) s₁:=by
 have rv:=M7 hi;have lenV:=hi.length;have core:∀H:Hp,Only H->cj K H a (ns.map V.int)->jM P w H s₁.heap->(∀b,H b≠ao->b=a)->(H a≠ao->K.lookup a=ao)->
   lQ (model P w) Fo (.call (.ref fa) ⟨[.ref a],[]⟩) (λr s'=>r=.ok (.ret (.bool aq))/\OldK s₁.heap s'.heap/\s'.os=s₁.os/\AllBare s'.gens) s₁:=by
  intro H hO hS hok hA hK;have aes:∀{b:aH}{o:Obj},s₁.heap.get? b=aa o->H b=ao->(yI s₁.heap H).get? b=aa o:=λe n=>ane e n
  have J4:∀{b:aH}{o:Obj}{es:Array Iu}{ep:Nat},s₁.heap.get? b=aa o->o.data=.dict es ep->H b=ao:=λ{b o es ep} e d=>by
   cases q:H b with
   |none=>rfl
   |some u=>
    have e':b=a:=hA b (by rw[q];simp);subst e';rw[ha] at e;cases e;have d':adl vs.toArray _=Data.dict es ep:=d;cases d'
  have QV:∀{b:aH}{m:Str->Option aL},s₁.heap.Ns b m->(yI s₁.heap H).Ns b m:=λ{b m} ⟨o,es,ep,e,d,r⟩=>⟨o,es,ep,aes e (J4 e d),d,r⟩
  have hKb:K.In (yI s₁.heap H):=λb o e=>aes (KX b o e) (by
   cases q:H b with
   |none=>rfl
   |some u=>
    have e':b=a:=hA b (by rw[q];simp);subst e';rw[hK (by rw[q];simp)] at e;cases e)
  have hM:Mod K mg (yI s₁.heap H):=⟨hKb,QV hns,⟨mb,QV hb,hbb⟩,let ⟨mc,h1,h2⟩:=hlim;⟨mc,QV h1,h2⟩⟩
  have e0:Qv P w K mg (yI s₁.heap H) Fo [] s₁ H:=⟨rfl,hM,λb o e=>aoE e,akg (al3 _ _),trivial,λb hb=>absurd (show b∈([]:List aH) from hb) bF,hok,.of_eq hg⟩
  refine Eb ((F _ hKb (QV hns)).run Fo [] s₁ H ⟨[.ref a],[]⟩ [.ref a] [.ref a] _ _ hr e0 (hbind s₁ (.ref a)) (.cons rfl .nil) (hsp H hO hS)) λr s' h=>?_
  cases r with
  |error e=>exact(Y7 H e s' h).elim
  |ok fl=>
   cases fl with
   |next=>exact xU h
   |brk=>exact xU h
   |cont=>exact xU h
   |ret u=>
    obtain⟨v,H',os,bare,un,hok',r',q⟩:=h
    have q':v=.bl aq:=q;subst q';obtain rfl:u=uU aq:=r'
    refine⟨rfl,OldK.of_keep λb o e=>?_,os,bare⟩
    cases q:H b with
    |none=>exact un.keep b o e q (by intro z;exact absurd (show b∈([]:List aH) from z) bF) bF
    |some u=>
     rcases hO b with z|⟨ob,xs,z⟩
     .rw[q] at z;cases z
     .have z2:=un.yH b ob _ z
      obtain⟨e1,_⟩:=hok b _ z
      obtain⟨e2,_⟩:=hok' b _ z2
      rw[e] at e1;cases e1;exact e2
 cases hk:K.lookup a with
 |some o=>
  have e:=KX a o hk;rw[ha] at e;cases e;refine core (λ_=>ao) (λ_=>.inl rfl) (.inr ⟨_,vs.toArray,_,hk,rfl,rfl,rfl,by rw[gK,lenV];exact hl,by simpa using rv⟩) (λb u z=>by have z':(ao:Option HO)=aa u:=z;cases z') (λb z=>absurd rfl z) λz=>absurd rfl z
 |none=>
  refine core (λb=>if b=a then aa (.qb {cls:=.type "list",data:=.seq vs.toArray} (.lst (ns.map V.int))) else ao) (λb=>?_) (.inl (.inr ⟨{cls:=.type "list",data:=.seq vs.toArray},bC rfl⟩)) (λb u z=>?_) (λb z=>?_) λ_=>hk
  .by_cases hb:b=a
   .exact .inr ⟨_,_,bC hb⟩
   .exact .inl (bB hb)
  .by_cases hb:b=a
   .have z':=(bC hb).symm.trans z;cases z';subst hb
    exact⟨ha,by rw[bD];exact hl,vs,_,rv,ha⟩
   .have z':=(bB hb).symm.trans z;cases z'
  .by_cases hb:b=a
   .exact hb
   .exact absurd (bB hb) z
theorem aoT{l:aaO}{n k:Nat}{q:fV}{loose:List Str}{d:DefRec}{K:Params->bw}{CX:dD->xF}{sp:dD->Sp}{x:Str}
  (hn:l.most=aa n)(hn2:n<=cH)(hdf:d.params.defaults=[])(hr:kY k Fo)
  (hY:∀(w:dD)(h:cu),YP w h->(K w.params).In h)
  (F:∀(w:dD)(mg:Str->Option aL)(fa:aH)(h:cu),(K w.params).In h->h.Ns iw mg->mg d.name=aa (.ref fa)->
   ∃fd:wC,(∀(s:aZ)(u:aL),Fg s fd ⟨[u],[]⟩ [(x,u)])/\
    ∀base:cu,(K w.params).In base->base.Ns iw mg->fX l.prog w (K w.params) mg base (CX w) k fa fd [x] (sp w))
  (hsp:∀(w:dD)(H:Hp)(a:aH)(ns:List Int),ns.length<=n->Only H->cj (K w.params) H a (ns.map V.int)->sp w [.ref a] H (λv _=>v=.bl aq) λ_ _ _=>False)
  (Y7:∀(w:dD)(H:Hp)(s:aZ)(e:aL)(s':aZ),CX w [] H s (λ_ _ _=>False) e s'->False):
  ajN q loose XP YP l.row.toRowW d [] (λf vs=>ab4 f vs):=by
 refine Att.akO hn hdf λw s₀ s₁ mg mb fa o pm cd doc a vs ns G Y ho hd hcd hmg hobj hints hlen hg=>?_
 have KX:=hY w _ Y
 obtain⟨fd,hb,hF⟩:=F w mg fa _ KX G.T.g hmg
 exact ant KX G.T.g G.T.b G.T.builtins G.T.nolimit hg hobj hints (kI hlen hn2) hr hF hb (λH hO hS=>hsp w H a ns hlen hO hS) λH e s'=>Y7 w H s₁ e s'
def Fp(s:eX):Arguments:=match s with
 |.FunctionDef _ a _ _ _ _ _ _ _ _=>a
 |_=>{posonlyargs:=[],args:=[],vararg:=ao,kwonlyargs:=[],kw_defaults:=[],kwarg:=ao,defaults:=[]}
def zR(s:eX):List eX:=match s with
 |.FunctionDef _ _ b _ _ _ _ _ _ _=>b
 |_=>[]
def cC(s:eX):kW:=match s with
 |.FunctionDef _ _ _ _ _ _ sc _ _ _=>sc
 |_=>{kind:=.function,names:=[],isGenerator:=aA,isCoroutine:=aA}
abbrev gb:xF:=λ_ _ _ _ _ _=>False
abbrev E0:XK:=λ_ _ _=>False
theorem ar3:Passes gb X E0:=λ_ _ _ _ _ _ _ h=>h.elim
structure gr(K:bw)(x qual:Str)(st:eX)(f:aH)(fd:wC):Prop where
 ex:∃(oc:aL)(od:Option aH)(kV doc pm:aL)(an:Option aH)(cdv ct:aL)(osl:Array (Option aL)),
  fd=Bp x qual (Fp st) (zR st) (cC st) .none kV doc pm an cdv ct/\K.lookup f=aa ⟨oc,od,.func fd,osl⟩/\Ss K cdv qual=aq
 kp:Bc K (.ref f)=aq
section
variable{P:fV}{w:dD}{K:bw}{mg:Str->Option aL}{base:cu}
theorem gr.ok{st:eX}{f:aH}{k:Nat}{sp:Sp}(F:gr K x qual st f fd)(S:iy N ps (cC st))(len:∀vs H Q E,sp vs H Q E->vs.length=ps.length)
  (hbody:∀(cdv:aL)(A:iz)(outer:List Env)(s:aZ)(H:Hp)(vs:List V)(Q:VK)(E:XK),kY k (A.deeper (envOfC qual (cC st) s.heap.objs.size f cdv))->sp vs H Q E->
   ∃t,lg (CW gb P w K mg base N qual (cC st) f cdv A outer s H E).J0 (zR st) t/\t {nx:=λ_ H'=>Q .non H',rt:=Q} (start N vs) H):fX P w K mg base gb (k+1) f fd ps sp:=by
 obtain⟨oc,od,kV,doc,pm,an,cdv,ct,osl,rfl,lk,hcd⟩:=F.ex
 refine arW lk hcd S len λA outer s H vs Q E hr hsp=>?_
 obtain⟨t,h,q⟩:=hbody cdv A outer s H vs Q E hr hsp
 exact⟨t,h.J0,q⟩
theorem gr.binds{st:eX}{f:aH}(F:gr K x qual st f fd)
  (h:∀(kV doc pm:aL)(an:Option aH)(cdv ct:aL)(us:List aL),us.length=ps.length->bindArgs (Bp x qual (Fp st) (zR st) (cC st) .none kV doc pm an cdv ct) ⟨us,[]⟩=pure (ps.zip us)):Binds K fd ps []:=by
 obtain⟨oc,od,kV,doc,pm,an,cdv,ct,osl,rfl,lk,hcd⟩:=F.ex
 exact .all (h kV doc pm an cdv ct)
theorem Xp{x qual:Str}{st:eX}{f:aH}{oc:aL}{kV doc pm cdv ct:aL}(l:K.lookup f=aa ⟨oc,od,.func (Bp x qual (Fp st) (zR st) (cC st) .none kV doc pm an cdv ct),osl⟩)
  (c:Ss K cdv qual=aq)(k:Bc K (.ref f)=aq):gr K x qual st f (Bp x qual (Fp st) (zR st) (cC st) .none kV doc pm an cdv ct):=⟨⟨oc,od,kV,doc,pm,an,cdv,ct,osl,rfl,l,c⟩,k⟩
end
section
variable{X:Cx}
theorem pv(i:Nat){pos:Pos}(hN:X.N[i]?=aa x:=by rfl)(hv:JW X.env.scope x:=by first|exact Cd rfl|exact ym (Cd rfl)|exact ym (ym rfl))(hd:(x==("__debug__":Str))=aA:=by decide)
  (hcd:(x==("__classdict__":Str))=aA:=by decide):PE X (.Name x pos) (uD i):=Xi hN hv hd hcd
end
theorem yK{A B:Prop}(h:B):if aA=aq then A else B:=by
 rw[bB jK];exact h
theorem yL{A B:Prop}(h:A):if aq=aq then A else B:=by
 rw[bC rfl];exact h
def cO(H H':Hp):Prop:=∀b o,H b=aa o->H' b=aa o
theorem cO.refl(H:Hp):cO H H:=λ_ _ h=>h
theorem cO.trans(a:cO H H1)(b:cO H1 H2):cO H H2:=λc o h=>b c o (a c o h)
theorem cO.seq{K:bw}{a:aH}(e:cO H H')(h:cj K H a xs):cj K H' a xs:=by
 rcases h with(h|⟨o,h⟩)|h
 .exact .inl (.inl (e _ _ h))
 .exact .inl (.inr ⟨o,e _ _ h⟩)
 .exact .inr h
section
variable{X:Cx}
theorem amh:jm X (.builtin "len") (λxs H Q=>∃a aC,xs=[V.ref a]/\yU H a aC/\Q (.int aC.length) H):=by
 intro au s σ H xs us Q I r h
 obtain⟨a,aC,rfl,ha,q⟩:=h
 obtain⟨u,rfl,ru⟩:=vals1 r
 cases ru;exact arZ I ha λt s' I'=>⟨.int aC.length,H,I',⟨t,rfl⟩,q⟩
end
section
variable{κ:Type}[DecidableEq κ]
theorem Fq:∀{l:List κ}{k:κ},l.Nodup->¬k∈l->(l++[k]).Nodup
 |[],k,_,_=>by simp
 |a::r,k,h,hk=>by
  obtain⟨h1,h2⟩:=mK.mp h
  show(a::(r++[k])).Nodup
  refine mK.mpr ⟨λm=>?_,Fq h2 λm=>hk (cg.mpr (ym m))⟩;rcases eO.mp m with q|q
  .exact h1 q
  .exact hk (cg.mpr (Cd (gU.mp q).symm))
end
def Cx.blk(X:Cx)(N:List Str)(scope:kW)(cl:List (Str×aH))(C:aH)(s:aZ)(H:Hp)(fp:List aH):Cx:=
 {X with N:=N,s₀:=s,H₀:=H,env:=Vv scope cl C X.env,outer:=X.stack,ex:=fp,fn:=λ_=>aA,pn:=[],xe:=λ_ _=>False}
theorem Uc(f:Str×Ex->List (Str×aH)->Sem (ForInStep (List (Str×aH))))
  (hf:∀n k r,f (n,k) r=if k==sE then(do let c <-cellOf aj n;pure (.yield ((n,c)::r))) else pure (.yield r)):
  ∀(names:List (Str×Ex))(cs:List (Str×aH)),(∀y∈names,y.2=.free->∃c,aj.cells.lookup y.1=aa c)->(∀n c,cs.lookup n=aa c->aj.cells.lookup n=aa c)->
   ∃cl,(forIn names cs f:Sem (List (Str×aH)))=pure cl/\(∀n c,cl.lookup n=aa c->aj.cells.lookup n=aa c)/\
    ∀n,((∃c,cs.lookup n=aa c)\/∃y∈names,y.1=n/\y.2=.free)->∃c,cl.lookup n=aa c
 |[],cs,_,h2=>⟨cs,rfl,h2,λn h=>h.elim id λ⟨_,hy,_⟩=>nomatch hy⟩
 |(n,k)::r,cs,h1,h2=>by
  rw[aaP,hf];by_cases hk:k=.free
  .subst hk
   obtain⟨c,hc⟩:=h1 (n,.free) eV rfl
   have hc':aj.cells.lookup n=aa c:=hc;have e:cellOf aj n=pure c:=by unfold cellOf;rw[hc']
   obtain⟨cl,q1,q2,q3⟩:=Uc f hf r ((n,c)::cs) (λy hy=>h1 y (fQ _ hy)) (λm d hm=>by
    rw[DG] at hm;by_cases hb:(m==n)=aq
    .rw[hb] at hm;have:=eq_of_beq hb;subst this;cases hm;exact hc'
    .rw[ai4] at hb;rw[hb] at hm;exact h2 m d hm)
   refine⟨cl,?_,q2,λm hm=>q3 m ?_⟩
   .rw[bC (show(sE==sE)=aq from rfl),e];simp only[pure_bind];exact q1
   .by_cases hb:m=n
    .subst hb;exact .inl ⟨c,by simp[DG]⟩
    .rcases hm with⟨d,hm⟩|⟨y,hy,e1,e2⟩
     .refine .inl ⟨d,?_⟩;rw[DG,beq_eq_false_iff_ne.mpr hb];exact hm
     .rcases cg.mp hy with rfl|hy
      .exact absurd e1.symm hb
      .exact .inr ⟨y,hy,e1,e2⟩
  .have hb:(k==sE)=aA:=beq_eq_false_iff_ne.mpr hk
   obtain⟨cl,q1,q2,q3⟩:=Uc f hf r cs (λy hy=>h1 y (fQ _ hy)) h2
   refine⟨cl,?_,q2,λm hm=>q3 m ?_⟩
   .rw[hb];simp only[qj,if_false,pure_bind];exact q1
   .rcases hm with hm|⟨y,hy,e1,e2⟩
    .exact .inl hm
    .rcases cg.mp hy with rfl|hy
     .exact absurd e2 hk
     .exact .inr ⟨y,hy,e1,e2⟩
theorem Ii(h1:∀y∈scope.names,y.2=.free->∃c,aj.cells.lookup y.1=aa c):
  ∃cl,closureFor scope aj=pure cl/\(∀n c,cl.lookup n=aa c->aj.cells.lookup n=aa c)/\∀y∈scope.names,y.2=.free->∃c,cl.lookup y.1=aa c:=by
 unfold closureFor
 obtain⟨cl,q1,q2,q3⟩:=Uc (aj:=aj) (λx r=>if(x.2==sE)=aq then(do let c <-cellOf aj x.1;pure (.yield ((x.1,c)::r))) else pure (.yield r)) (λn k r=>rfl) scope.names [] h1 (λn c h=>by simp at h)
 have q:=congrArg (λt:Sem (List (Str×aH))=>t >>= λcs=>pure cs) q1;simp only[pure_bind] at q
 exact⟨cl,q,q2,λy hy e=>q3 y.1 (.inr ⟨y,hy,rfl,e⟩)⟩
theorem abx{scope:kW}{aj:Env}{x:Str}:∀{names:List (Str×Ex)},
  (names.map λ(n,k)=>if(k==sE&&aj.scope.kind==.function&&aj.kindOf n==aa .cell) then(n,Te) else(n,k)).lookup x=
   (names.lookup x).map λk=>if(k==sE&&aj.scope.kind==.function&&aj.kindOf x==aa .cell) then Te else k
 |[]=>rfl
 |(n,k)::r=>by
  have ih:=@abx scope aj x r;show List.lookup x ((if(k==sE&&aj.scope.kind==.function&&aj.kindOf n==aa .cell)=aq then(n,Te) else(n,k))::_)=_;cases hx:x==n with
  |true=>
   have e:=eq_of_beq hx;subst e;by_cases hc:(k==sE&&aj.scope.kind==.function&&aj.kindOf x==aa .cell)=aq
   .rw[bC hc];simp only[DG,beq_self_eq_true,lC,hc,if_true]
   .rw[bB hc];simp only[DG,beq_self_eq_true,lC,hc,if_false];rfl
  |false=>
   by_cases hc:(k==sE&&aj.scope.kind==.function&&aj.kindOf n==aa .cell)=aq
   .rw[bC hc];simp only[DG,hx];exact ih
   .rw[bB hc];simp only[DG,hx];exact ih
def frees(js:List Nat)(σ:St):St:=js.map λj=>(σ[j]?).join
section
variable{X:Cx}{σ:St}{H:Hp}{s s1:aZ}{js:List Nat}{scope:kW}{fp:List aH}
structure qG(X:Cx)(NT NF:List Str)(js:List Nat)(scope:kW):Prop where
 kind:scope.kind=.function
 names:∀y∈scope.names,y.2=.local->scope.names.lookup y.1=aa .local
 cell:∀y∈scope.names,y.2≠.cell
 free:∀y∈scope.names,y.2=.free->X.env.scope.names.lookup y.1=aa .cell\/X.env.scope.names.lookup y.1=aa .free
 len:js.length=NF.length
 fr:∀(k:Nat)(j:Nat)(x:Str),js[k]?=aa j->NF[k]?=aa x->X.N[j]?=aa x/\scope.names.lookup x=aa .free
 tg:∀x∈NT,scope.names.lookup x=aa .local
 nd:(NT++NF).Nodup
theorem Inv.blk(I:Inv X au σ H s)(B:qG X NT NF js scope)(q2:∀n c,cl.lookup n=aa c->X.env.cells.lookup n=aa c)(q3:∀y∈scope.names,y.2=.free->∃c,cl.lookup y.1=aa c)
  (hf:∀b∈fp,lU X au H b)(hlt:∀b∈fp,b<s.heap.objs.size)(hns:s1.heap.Ns s.heap.objs.size m)(keep:∀b o,s.heap.get? b=aa o->s1.heap.get? b=aa o)
  (hos:s1.os=s.os)(hg:AllBare s1.gens):
  Inv (X.blk (NT++NF) scope cl s.heap.objs.size s H fp) [] (cN NT.length ao++frees js σ) H s1:=by
 have look:∀x,(X.blk (NT++NF) scope cl s.heap.objs.size s H fp).env.kindOf x=(scope.names.lookup x).map λk=>if(k==sE&&X.env.scope.kind==.function&&X.env.kindOf x==aa .cell) then Te else k:=λx=>abx (scope:=scope)
 have aqL:∀x,((X.blk (NT++NF) scope cl s.heap.objs.size s H fp).env.kindOf x=aa .cell\/(X.blk (NT++NF) scope cl s.heap.objs.size s H fp).env.kindOf x=aa .free)->scope.names.lookup x=aa .free:=λx h=>by
  rw[look] at h;cases e:scope.names.lookup x with
  |none=>rw[e] at h;simp at h
  |some k=>
   rw[e] at h;by_cases hk:k=.free
   .rw[hk]
   .have hb:(k==sE)=aA:=beq_eq_false_iff_ne.mpr hk;simp only[lC,hb,aa1,qj,if_false,Rv] at h;rcases h with h|h
    .subst h;exact absurd rfl (B.cell _ (zq e))
    .exact absurd h hk
 have ltC:∀c x,X.env.cells.lookup x=aa c->c<s.heap.objs.size:=λc x e=>by
  obtain⟨v,q⟩:=I.cell x c e
  exact q.lt
 refine⟨⟨I.ok.mod,B.kind,I.ok.glob,I.ok.blt,bU _,λx y c h1 h2=>I.ok.inj x y c (q2 x c h1) (q2 y c h2),λx hx=>?_,λx c h _=>(nomatch(show aA=aq from h)),I.ok.hd,I.ok.frames,.inl rfl,λb hb=>⟨gj (hlt b hb),λx c e=>(hf b hb).2.2.2.2.1 x c (q2 x c e)⟩,I.bs,kI I.ok.Ai I.sz,λb o e hb=>?_,λb hb hb2=>?_,I.stack,I.aei⟩,
  hos,hg,Un.kept keep,⟨m,hns,λi x v h1 h2 h3=>?_⟩,λx c e=>?_,I.hok.fresh (bU _),λx c e=>I.vg x c (q2 x c e),λp hp=>(nomatch(show p∈([]:List (aH×Obj)) from hp)),I.hok.kept keep,?_⟩
 .exact q3 _ (zq (aqL x hx)) rfl
 .rcases(hf b hb).2.2.2.1 with z|z
  .exact I.ok.JK b o e z
  .exact absurd (pQ (cL e) (kI I.ok.Ai z)) (Bh _)
 .obtain⟨_,f1,f2,_⟩:=hf b hb
  rcases cg.mp (I.FJ b hb2) with z|z
  .exact f1 z
  .exact f2 z
 .have h1':(NT++NF)[i]?=aa x:=h1;by_cases hi:i<NT.length
  .rw[tV (by simpa using hi),ZS] at h2;split at h2<;>cases h2
  .have hi':NT.length<=i:=az;rw[tU (by simpa using hi')] at h2;rw[tU hi'] at h1';simp only[qW] at h2;unfold frees at h2;rw[jC] at h2;cases ej:js[i-NT.length]? with
   |none=>rw[ej] at h2;cases h2
   |some j=>
    rw[ej] at h2;have h2':(σ[j]?).join=aa v:=by simpa using h2
    obtain⟨g1,g2⟩:=B.fr _ j x ej h1'
    have hj:σ[j]?=aa (aa v):=by
     cases e:σ[j]? with
     |none=>rw[e] at h2';cases h2'
     |some o=>rw[e] at h2';simp at h2';rw[h2']
    have hk:=B.free _ (zq g2) rfl;have hk':X.env.scope.names.lookup x=aa .cell\/X.env.scope.names.lookup x=aa .free:=hk
    obtain⟨m0,hn0,hl0⟩:=I.loc
    obtain⟨u,r,l⟩:=hl0 j x v g1 hj (.inr hk')
    refine⟨u,r,.inr ⟨?_,?_⟩⟩
    .rw[look,g2];by_cases hc:(sE==sE&&X.env.scope.kind==.function&&X.env.kindOf x==aa .cell)=aq
     .left;simp only[lC,hc,if_true]
     .right;simp only[lC,hc,if_false];rfl
    .rcases l with⟨k0,_⟩|⟨_,c,e,z⟩
     .have k0':X.env.scope.names.lookup x=aa .local:=k0;rcases hk' with z|z<;>rw[z] at k0'<;>cases k0'
     .obtain⟨c',hc'⟩:=q3 _ (zq g2) rfl
      have hc2:cl.lookup x=aa c':=hc';have e2:=q2 x c' hc2;rw[e] at e2;cases e2
      obtain⟨o,ho,hd⟩:=z
      exact⟨c,hc2,o,keep c o ho,hd⟩
 .obtain⟨v,o,ho,hd⟩:=I.cell x c (q2 x c e)
  exact⟨v,o,keep c o ho,hd⟩
 .show(cN NT.length ao++frees js σ).length=(NT++NF).length
  unfold frees;simp[B.len]
theorem Inv.Yb(I:Inv X au σ H s)(hf:∀b∈fp,lU X au H b)(J:Inv (X.blk N scope cl s.heap.objs.size s H fp) af5 σ' H' s'):Inv X au σ H' s':=
 I.call' J.os J.base J.hok J.bare λb hb=>⟨(hf b hb).2.2.2.1,(hf b hb).2.1,(hf b hb).2.2.2.2.1,(hf b hb).2.2.2.2.2⟩
end
theorem aoU(a:List α)(x y:α)(b:List α)(h:a.length=n):(a++x::b).set n y=a++y::b:=by
 subst h;rw[List.set_append_right _ _ (bU _),aby];rfl
inductive lH where
 |one|many (n:Nat)
def GK(K:bw):lH->V->Hp->List V->Prop
 |.one,x,_,vs=>vs=[x]
 |.many n,x,H,vs=>∃a,x=.ref a/\dg K H a vs/\vs.length=n
def isNm(e:Expr)(x:Str):Prop:=∃pos,e=.Name x pos
def p7(tg:Expr)(NT:List Str):lH->Prop
 |.one=>∃x,isNm tg x/\NT=[x]
 |.many n=>∃es k pos,tg=.Tuple es k pos/\Paired isNm es NT/\NT.length=n
theorem ab5:∀{es:List Expr}{NT:List Str},Paired isNm es NT->wj es aj=es.map λe=>(aA,assign e aj)
 |_,_,.nil=>rfl
 |_,_,.cons ⟨pos,e⟩ t=>by
  subst e
  show(aA,assign _ aj)::wj _ aj=_
  rw[ab5 t];rfl
theorem ami(p:Paired isNm es NT):∀{pre NF:List Str}{σp fs:St}{s:aZ}{vs:List V}{us:List aL}{Q:Unit->aZ->Prop},
  X.N=pre++NT++NF->X.N.Nodup->(∀x∈NT,X.env.scope.names.lookup x=aa .local)->σp.length=pre.length->vs.length=NT.length->
  Inv X au (σp++(cN NT.length ao++fs)) H s->Vals vs us->(∀s',Inv X au (σp++(vs.map aa++fs)) H s'->Q () s')->
  aQ (model X.prog X.w) X.A (Hu (es.map λe=>assign e X.env) us) Q E s:=by
 induction p with
 |nil=>
  intro pre NF σp fs s vs us Q hN nd hl hp hv I r q;cases vs with
  |cons _ _=>simp at hv
  |nil=>
   cases r;exact assignInOrder_nil (q s I)
 |@cons e x es NT he t ih=>
  intro pre NF σp fs s vs us Q hN nd hl hp hv I r q;cases vs with
  |nil=>simp at hv
  |cons v vs=>
   cases r with
   |cons r rr=>
    obtain⟨pos,rfl⟩:=he
    have hx:=hl x eV;have hi:X.N[pre.length]?=aa x:=by
     rw[hN,qX,tU (bU _)];simp
    refine assignInOrder_cons (K3 (xW I nd hi (.inl hx) r (λs' I'=>?_) (.inr hx)));have e1:(σp++(cN (x::NT).length ao++fs)).set pre.length (aa v)=(σp++[aa v])++(cN NT.length ao++fs):=by
     exact(aoU σp ao (aa v) (cN NT.length ao++fs) hp).trans (List.append_cons σp (aa v) (cN NT.length ao++fs))
    rw[e1] at I';refine ih (pre:=pre++[x]) (NF:=NF) (σp:=σp++[aa v]) (by rw[hN];simp) nd (λy hy=>hl y (fQ _ hy)) (by simp[hp]) (by simpa using hv) I' rr λs2 I2=>q s2 ?_
    have e2:σp++[aa v]++(vs.map aa++fs)=σp++((v::vs).map aa++fs):=bF;rw[e2] at I2;exact I2
theorem aqM(tk:p7 tg NT T)(hN:X.N=NT++NF)(nd:X.N.Nodup)(hc:X.calm=aq)
  (hl:∀x∈NT,X.env.scope.names.lookup x=aa .local)(I:Inv X au (cN NT.length ao++fs) H s)(r:RelV v u)(hv:GK X.K T v H vs)
  (q:∀s',Inv X au (vs.map aa++fs) H s'->Q () s'):aQ (model X.prog X.w) X.A (assign tg X.env u) Q E s:=by
 cases T with
 |one=>
  obtain⟨x,⟨pos,rfl⟩,rfl⟩:=tk
  have hv':vs=[v]:=hv;subst hv';have hx:=hl x eV;exact K3 (xW I nd (i:=0) (by rw[hN];rfl) (.inl hx) r (λs' I'=>q s' I') (.inr hx))
 |many n=>
  obtain⟨es,k,pos,rfl,p,hn⟩:=tk
  obtain⟨a,rfl,hq,hlen⟩:=hv
  cases r
  obtain⟨aK,rv,ht,hz⟩:=I.tuple hq
  have e:=ab5 (aj:=X.env) p;have hpl:=p.length;refine assign_Tuple_tuple (I.ok.hd hc) ht (by rw[e];simp only[bD,gK];rw[<-rv.length];lia) (by rw[e];simp) λh' hx=>?_
  have I1:Inv X au (cN NT.length ao++fs) H {s with heap:=h'}:=I.kept (t':=s.toks) λb o e=>hx b o (gj (cL e)) e
  rw[e,fj];exact ami p (pre:=[]) (σp:=[]) (by rw[hN];rfl) nd hl rfl az I1 (by simpa using rv) q
def turnOf(target iter:Expr)(ifs:List Expr)(it:aL)(aj:Env)(emit:Sem Unit)(more:Sem PySem.Fin):Sem PySem.Fin:=do
 wF iter.pos
 match <-j7 it with
 |none=>pure (.done .next)
 |some v=>
  Az target it v
  assign target aj v
  let mut ok:=aq
  for c in ifs do
   if ok then ok <-isTrue c aj (eval c aj)
  if ok then emit
  more
theorem alf(elt target iter:Expr)(ifs:List Expr)(scope:kW)(pos:Pos)(it bJ:aL)(aj:Env):
  IK (.ListComp elt [⟨target,iter,ifs,0⟩] scope pos) 0 it bJ aj=turnOf target iter ifs it aj (do let _ <-call (.builtin "list.append") [bJ,<-eval elt aj]) (again (.compLoop (.ListComp elt [⟨target,iter,ifs,0⟩] scope pos) 0 it bJ aj)):=by rfl
theorem alg(kx vx target iter:Expr)(ifs:List Expr)(scope:kW)(pos:Pos)(it:aL)(D:aH)(aj:Env):
  IK (.DictComp kx vx [⟨target,iter,ifs,0⟩] scope pos) 0 it (.ref D) aj=turnOf target iter ifs it aj (do
      let kv <-eval kx aj
      let vv <-rD [kv] (eval vx aj)
      wF {kx.pos with endLine:=vx.pos.endLine,endCol:=vx.pos.endCol}
      rD [kv,vv] (dictSet D kv vv)) (again (.compLoop (.DictComp kx vx [⟨target,iter,ifs,0⟩] scope pos) 0 it (.ref D) aj)):=by rfl
theorem amj(elt target iter:Expr)(ifs:List Expr)(scope:kW)(pos:Pos)(it bJ:aL)(aj:Env):
  IK (.SetComp elt [⟨target,iter,ifs,0⟩] scope pos) 0 it bJ aj=turnOf target iter ifs it aj (do let v <-eval elt aj;wF elt.pos;let _ <-call (.builtin "set.add") [bJ,v]) (again (.compLoop (.SetComp elt [⟨target,iter,ifs,0⟩] scope pos) 0 it bJ aj)):=by rfl
def oX(X:Cx)(ifs:List Expr)(t:TT):Prop:=
 ∀(au:List (aH×Obj))(s:aZ)(σ:St)(H:Hp)(Q:Bool->Hp->Prop),Inv X au σ H s->t σ H Q->
  aQ (model X.prog X.w) X.A (forIn ifs aq λc r=>if r=aq then do let ok <-isTrue c X.env (eval c X.env);pure (ajm ok) else pure (ajm r)) (TP X au σ Q) X.xe s
def ath:TT:=λ_ H Q=>Q aq H
theorem aoV:oX X [] ath:=λ_ _ _ H _ I h=>wpAny_tests_nil ⟨H,I,h⟩
theorem aoW(h:PT X c t):oX X [c] t:=λau s σ H Q I q=>wpAny_tests_one (h au s σ H Q I q)
abbrev TM:=St->Hp->(Hp->Prop)->Prop
def PM(X:Cx)(emit:Sem Unit)(t:TM):Prop:=
 ∀(au:List (aH×Obj))(s:aZ)(σ:St)(H:Hp)(Q:Hp->Prop),Inv X au σ H s->t σ H Q->
  aQ (model X.prog X.w) X.A emit (λ_ s'=>∃H',Inv X au σ H' s'/\Q H') X.xe s
def WK(D:aH)(te:TE):TM:=λσ H Q=>te σ H λy H1=>∃xs,H1 D=aa (.lst xs)/\xs.length<cH/\Q (upd H1 D (.lst (xs++[y])))
theorem amk(he:PE X elt te):PM X (do let _ <-call (.builtin "list.append") [.ref D,<-eval elt X.env]) (WK D te):=by
 intro au s σ H Q I h;refine aJ (b7 (he au s σ H _ I h) λv s1 aY=>?_)
 obtain⟨y,H1,I1,r1,xs,hD,hz,q⟩:=aY
 refine aJ (b7 (Va (X:=X) au s1 σ H1 (.ref D) [y] (.ref D) [v] (λ_ H'=>Q H') I1 rfl (.cons r1 .nil) ⟨D,xs,y,rfl,rfl,hD,hz,q⟩) λ_ s2 ⟨_,H2,I2,_,q2⟩=>bz ⟨H2,I2,q2⟩)
def Af(K:bw)(T:lH)(ts:TT)(em:TM)(fs:St)(J:It)(H0:Hp)(done:Hp->Prop):Prop:=
 ∃W:Nat->Nat->Hp->Prop,(∃m,W 0 m H0)/\∀i m H,W i m H->
  (J.stop i H/\done H)\/(J.go i H/\∀x H',J.J1 i H x H'->∃vs,GK K T x H' vs/\
   ts (vs.map aa++fs) H' λb H2=>if b=aq then em (vs.map aa++fs) H2 λH3=>∃m',m'<m/\W (i+1) m' H3 else ∃m',m'<m/\W (i+1) m' H2)
section
variable{X:Cx}{NT NF:List Str}{ifs:List Expr}{T:lH}{ts:TT}{em:TM}{emit:Sem Unit}{bJ:aL}{fp:List aH}{it:aH}{J:It}
theorem anu{fs:St}{vs:List V}{H:Hp}(hv:vs.length=NT.length)(I:Inv X au (vs.map aa++fs) H s):Inv X au (cN NT.length ao++fs) H s:=
 I.weak (by simp[hv]) λi v h=>by
  by_cases hi:i<NT.length
  .rw[tV (by simpa using hi),ZS] at h;split at h<;>cases h
  .rw[tU (by simp;lia)] at h⊢;simpa[hv] using h
theorem GK.len{K:bw}{x:V}{H:Hp}(tk:p7 tg NT T)(h:GK K T x H vs):vs.length=NT.length:=by
 cases T with
 |one=>obtain⟨y,_,rfl⟩:=tk;rw[show vs=[x] from h];rfl
 |many n=>obtain⟨_,_,_,_,_,e⟩:=tk;obtain⟨_,_,_,e'⟩:=h;lia
theorem Vw(hx:X.xe=λ_ _=>False)(hT:IK e 0 (.ref it) bJ X.env=turnOf tg iter ifs (.ref it) X.env emit (again (.compLoop e 0 (.ref it) bJ X.env)))
  (hq:(Hz e 0 (.ref it) bJ X.env).isFrame=aA)(hqu:(Hz e 0 (.ref it) bJ X.env).quiet=aq)(hA:X.A.under (Hz e 0 (.ref it) bJ X.env)=X.A)
  (tk:p7 tg NT T)(hN:X.N=NT++NF)(nd:X.N.Nodup)(hc:X.calm=aq)(hl:∀x∈NT,X.env.scope.names.lookup x=aa .local)
  (hts:oX X ifs ts)(hem:PM X emit em)(TT:Turn X.prog X.w X.K tg J fp it tn)(hf:∀b∈fp,lU X [] H b)(I:Inv X [] (cN NT.length ao++fs) H s)(st:tn 0 s.heap)(hb:Af X.K T ts em fs J H done)
  (hR:∀H' s' σ',Inv X [] σ' H' s'->done H'->R (.ok .next) s'):
  lQ (model X.prog X.w) X.A (.compLoop e 0 (.ref it) bJ X.env) R s:=by
 obtain⟨W,⟨m0,w0⟩,turn⟩:=hb
 have stat:∀{H':Hp},(∀b∈fp,H' b=ao)->∀b∈fp,lU X [] H' b:=λhn b hb=>⟨hn b hb,(hf b hb).2⟩
 have noE:∀{α:Type}{t:Sem α}{Q:α->aZ->Prop}{E:aL->aZ->Prop}{s:aZ},aQ (model X.prog X.w) X.A t Q (λ_ _=>False) s->aQ (model X.prog X.w) X.A t Q E s:=λh=>uf h (λ_ _ z=>z) λ_ _ z=>z.elim
 have noX:∀{α:Type}{t:Sem α}{Q:α->aZ->Prop}{E:aL->aZ->Prop}{s:aZ},aQ (model X.prog X.w) X.A t Q X.xe s->aQ (model X.prog X.w) X.A t Q E s:=λh=>noE (by rw[hx] at h;exact h)
 refine codeAny_loop hqu (λn s'=>∃i H',Inv X [] (cN NT.length ao++fs) H' s'/\tn i s'.heap/\(∀b∈fp,H' b=ao)/\W i n H') ?_ m0 ⟨0,H,I,st,λb hb=>(hf b hb).1,w0⟩;rintro n s3 ⟨i,H3,I3,st3,J2,w3⟩;rw[hA];show aQ _ X.A (if(Hz e 0 (.ref it) bJ X.env).isFrame=aq then(IK e 0 (.ref it) bJ X.env).onRaise (leaving X.env) else(IK e 0 (.ref it) bJ X.env).onRaise (λx=>do noteFrame x X.env;theTreesLotGoes x)) _ _ s3;rw[hq,bB jK];refine wpAny_noted (noE ?_);rw[hT];unfold turnOf;refine aJ (xN (aJ ?_));rcases turn i n H3 w3 with⟨stop,qn⟩|⟨go,step⟩
 .refine b7 (TT.done X rfl rfl rfl hc i [] s3 _ H3 _ I3 (stat J2) st3 stop) λr s4 aY=>?_
  obtain⟨hr,I4⟩:=aY
  subst hr;exact bz (hR H3 s4 _ I4 qn)
 .refine b7 (TT.item X rfl rfl rfl hc i [] s3 _ H3 _ I3 (stat J2) st3 go) λr s4 aY=>?_
  obtain⟨u,hr,h4⟩:=aY
  subst hr;refine aJ (b7 h4 λ_ s5 aY=>?_)
  obtain⟨x,H5,I5,r5,y5,Dl,YZ⟩:=aY
  have Y0:=I5.pinned (stat YZ) (TT.obj _ _ Dl)
  obtain⟨vs,hv,q5⟩:=step x H5 y5
  have hvl:=GK.len tk hv;refine aJ (aqM tk hN nd hc hl Y0 r5 hv λs6 I6=>?_);refine aJ (noX (b7 (hts _ s6 _ H5 _ I6 q5) λb s7 aY=>?_))
  obtain⟨H7,I7,q7⟩:=aY
  have afm:∀{s8:aZ}{H8:Hp},Inv X ([]++Jm fp s5.heap) (vs.map aa++fs) H8 s8->(∃m',m'<n/\W (i+1) m' H8)->
    (Hz e 0 (.ref it) bJ X.env=Hz e 0 (.ref it) bJ X.env)/\∃m,m<n/\∃i H',Inv X [] (cN NT.length ao++fs) H' s8/\tn i s8.heap/\(∀b∈fp,H' b=ao)/\W i m H':=λ{s8 H8} I8 n8=>by
   obtain⟨m',hm,w8⟩:=n8
   refine⟨rfl,m',hm,i+1,H8,anu hvl I8.Nv,TT.keep _ _ _ Dl λb hb o e=>(I8.pin (b,o) (gw _ (gw _ (MP hb e)))).1,λb hb=>?_,w8⟩
   obtain⟨o,e,d⟩:=TT.obj _ _ Dl b hb
   exact(I8.pin (b,o) (gw _ (gw _ (MP hb e)))).2.1
  cases b with
  |false=>exact bz (afm I7 q7)
  |true=>exact aJ (noX (b7 (hem _ s7 _ H7 _ I7 q7) λ_ s8 ⟨H8,I8,q8⟩=>bz (afm I8 q8)))
end
structure Bk where
 cl:List (Str×aH)
 C:aH
 s:aZ
 H:Hp
 fp:List aH
abbrev Cx.bk(X:Cx)(N:List Str)(scope:kW)(b:Bk):Cx:=X.blk N scope b.cl b.C b.s b.H b.fp
section
variable{X:Cx}{js:List Nat}{ifs:List Expr}{T:lH}{wi:TI}{ts:Bk->TT}{te tk' tv:Bk->TE}{scope:kW}{pos:Pos}
def Y8(K:bw)(wi:TI)(T:lH)(ts:Bk->TT)(te:Bk->TE)(js:List Nat):TE:=λσ H Q=>wi σ H λJ H1=>∀D,H1 D=ao->∀b,Af K T (ts b) (WK D (te b)) (frees js σ) J (upd H1 D (.lst [])) (Q (.ref D))
theorem afn{σ:St}{s2:aZ}{H2:Hp}{cl:List (Str×aH)}{it:aH}{fp:List aH}{tn:Nat->cu->Prop}{J:It}{Q:Hp->Prop}{RR:aL->aH->zX->aZ->Prop}{E:aL->aZ->Prop}
  (B:qG X NT NF js scope)(tk:p7 tg NT T)(hc:X.calm=aq)
  (hin:∀b,oX (X.bk (NT++NF) scope b) ifs (ts b)/\PE (X.bk (NT++NF) scope b) elt (te b))
  (q2:∀n c,cl.lookup n=aa c->X.env.cells.lookup n=aa c)(q3:∀y∈scope.names,y.2=.free->∃c,cl.lookup y.1=aa c)
  (I2:Inv X au σ H2 s2)(TT:Turn X.prog X.w X.K tg J fp it tn)(st2:tn 0 s2.heap)(f2:∀b∈fp,lU X au H2 b)
  (q:∀b,Af X.K T (ts b) (WK s2.heap.objs.size (te b)) (frees js σ) J (upd H2 s2.heap.objs.size (.lst [])) Q)
  (hR:∀C H' s' m,Inv X au σ H' s'->lU X au H' C->s'.heap.Ns C m->Q H'->RR (.ref s2.heap.objs.size) C (.ok .next) s'):
  aQ (model X.prog X.w) X.A (newList []) (λbJ s₃=>aQ (model X.prog X.w) X.A (aa4 scope X.env.globals cl [] X.env.qual ao .none (aa X.env)) (λcenv s₄=>
   lQ (model X.prog X.w) X.A (.compStart (.ListComp elt [⟨tg,iter,ifs,0⟩] scope pos) 0 (.ref it) bJ {cenv with scope:=relabel scope X.env}) (RR bJ cenv.locals) s₄) E s₃) E s2:=by
 refine mJ ?_;have hD:H2 s2.heap.objs.size=ao:=I2.hok.fresh (bU _);have I3:Inv X au σ (upd H2 s2.heap.objs.size (.lst [])) {s2 with heap:=s2.heap.push {cls:=.type "list",dict:=ao,data:=.seq ([]:List aL).toArray}}:=
  I2.laid (t':=s2.toks) (λb o e=>cG _ e) (bU _) ⟨j5 _,[],0,.nil,gR _ rfl⟩
 have hsz:(s2.heap.push {cls:=.type "list",dict:=ao,data:=.seq ([]:List aL).toArray}).objs.size=s2.heap.objs.size+1:=sy ..;refine Z6 B.cell (by intro y hy;simp at hy) (λh₁ hns₁ hsb₁=>?_) B.kind;have uH:∀b∈fp,b<s2.heap.objs.size:=λb hb=>by
  obtain⟨o,e,_⟩:=TT.obj 0 _ st2 b hb
  exact cL e
 have f3:∀b∈fp,lU X au (upd H2 s2.heap.objs.size (.lst [])) b:=λb hb=>⟨by rw[fD (gj (uH b hb))];exact(f2 b hb).1,(f2 b hb).2⟩
 have keep:∀b o,(s2.heap.push {cls:=.type "list",dict:=ao,data:=.seq ([]:List aL).toArray}).get? b=aa o->h₁.get? b=aa o:=λb o e=>
  hsb₁.extBut b o (gj (cL e)) (cG _ e)
 have Ak:∀b∈fp,b<(s2.heap.push {cls:=.type "list",dict:=ao,data:=.seq ([]:List aL).toArray}).objs.size:=λb hb=>by have:=uH b hb;rw[hsz];exact vQ this
 have I4:=I3.blk (s1:={s2 with heap:=h₁,toks:=s2.toks+([]:List (Str×aL)).length}) B q2 q3 f3 Ak hns₁ keep rfl I2.bare;have Al:tn 0 h₁:=TT.keep 0 _ _ st2 λb _ o e=>keep b o (cG _ e)
 obtain⟨i1,i2⟩:=hin ⟨cl,(s2.heap.push {cls:=.type "list",dict:=ao,data:=.seq ([]:List aL).toArray}).objs.size,{s2 with heap:=s2.heap.push {cls:=.type "list",dict:=ao,data:=.seq ([]:List aL).toArray}},upd H2 s2.heap.objs.size (.lst []),fp⟩
 have loop:lQ (model X.prog X.w) X.A (.compLoop (.ListComp elt [⟨tg,iter,ifs,0⟩] scope pos) 0 (.ref it) (.ref s2.heap.objs.size) (Vv scope cl (s2.heap.push {cls:=.type "list",dict:=ao,data:=.seq ([]:List aL).toArray}).objs.size X.env))
   (RR (.ref s2.heap.objs.size) (s2.heap.push {cls:=.type "list",dict:=ao,data:=.seq ([]:List aL).toArray}).objs.size) {s2 with heap:=h₁,toks:=s2.toks+([]:List (Str×aL)).length}:=by
  refine Vw (X:=X.blk (NT++NF) scope cl (s2.heap.push {cls:=.type "list",dict:=ao,data:=.seq ([]:List aL).toArray}).objs.size {s2 with heap:=s2.heap.push {cls:=.type "list",dict:=ao,data:=.seq ([]:List aL).toArray}} (upd H2 s2.heap.objs.size (.lst [])) fp)
   (T:=T) (fs:=frees js σ) (done:=Q) rfl (alf elt tg iter ifs scope pos _ _ _) rfl rfl rfl tk rfl B.nd hc (λx hx=>Z7 (B.tg x hx)) i1 (amk i2) TT (λb hb=>?_) I4 Al (q _) λH' s' σ' J' qd=>?_
  .exact⟨(f3 b hb).1,gj (Ak b hb),λhb2=>by
    rcases cg.mp (I3.FJ b hb2) with z|z
    .exact(f3 b hb).2.1 z
    .exact(f3 b hb).2.2.1 z,.inl hb,λx c e=>(f3 b hb).2.2.2.2.1 x c (q2 x c e),λp hp=>(nomatch(show p∈([]:List (aH×Obj)) from hp))⟩
  .obtain⟨m,hn,_⟩:=J'.loc
   exact hR _ H' s' m (I3.Yb f3 J') (I3.wY (bU _) J'.free) hn qd
 exact codeAny_compStart_list loop (TT.self _ 0 _ _ _ Al loop)
theorem ar4(B:qG X NT NF js scope)(tk:p7 tg NT T)(hc:X.calm=aq)(hi:PI X tg iter wi)
  (hin:∀b,oX (X.bk (NT++NF) scope b) ifs (ts b)/\PE (X.bk (NT++NF) scope b) elt (te b))
  (hs:∀x,uN iter X.env x=pure x:=by intro _;rfl):PE X (.ListComp elt [⟨tg,iter,ifs,0⟩] scope pos) (Y8 X.K wi T ts te js):=by
 intro au s σ H Q I h
 obtain⟨cl,hclos,q2,q3⟩:=Ii (aj:=X.env) (scope:=scope) λy hy e=>I.ok.has y.1 (B.free y hy e)
 rw[eval_ListComp];refine KN (use:=ao) rfl hs hclos B.kind B.names (b7 (hi au s σ H _ I h) λv s1 h1=>b7 h1 λitv s2 aY=>?_)
 obtain⟨it,fp,tn,J,H2,e,I2,TT,st2,f2,q⟩:=aY
 subst e;refine afn (Q:=λH'=>Q (.ref s2.heap.objs.size) H') (RR:=λbJ C=>NB (model X.prog X.w) X.A X.xe ao (EP X au σ Q) bJ C) B tk hc hin q2 q3 I2 TT st2 f2 (q _ (I2.hok.fresh (bU _))) λC H' s' m I' fC hn qd=>?_
 refine⟨m,hn,λh' sb=>⟨.ref s2.heap.objs.size,H',?_,rfl,qd⟩⟩
 exact I'.turned (t':=s'.toks) (λb o hb e=>(sb.2 b hb).trans e) fC.1 fC.2.1 fC.2.2.2.1 fC.2.2.2.2.1 fC.2.2.2.2.2
theorem anv(B:qG X NT NF js scope)(tk:p7 tg NT T)(hc:X.calm=aq)(hi:PI X tg iter wi)
  (hin:∀b,oX (X.bk (NT++NF) scope b) ifs (ts b)/\PE (X.bk (NT++NF) scope b) elt (te b))
  (hsw:wu (.ListComp elt [⟨tg,iter,ifs,0⟩] scope pos) (aa (.Name y pos')) spos.line X.env=pure aq)
  (hN:X.N.Nodup)(hI:X.N[i]?=aa y)(hy:X.env.scope.names.lookup y=aa .local)
  (hs:∀x,uN iter X.env x=pure x:=by intro _;rfl):PS X (.Assign [.Name y pos'] (.ListComp elt [⟨tg,iter,ifs,0⟩] scope pos) spos) (Gw (Y8 X.K wi T ts te js) (yr i)):=by
 intro au s σ H D I h
 obtain⟨cl,hclos,q2,q3⟩:=Ii (aj:=X.env) (scope:=scope) λy hy e=>I.ok.has y.1 (B.free y hy e)
 rw[ah6 _ _ _ _ hsw];refine aJ (xN (aJ ?_));show aQ _ X.A (do let _ <-Tf (.ListComp elt [⟨tg,iter,ifs,0⟩] scope pos) scope X.env _ (newList []) aA (eval iter X.env) (aa (assign (.Name y pos') X.env))) _ _ s;refine aJ (uf (KN (use:=aa (assign (.Name y pos') X.env)) (Q:=λ_ s'=>SP X au D .next s') rfl hs hclos B.kind B.names
  (b7 (hi au s σ H _ I h) λv s1 h1=>b7 h1 λitv s2 ⟨it,fp,tn,J,H2,e,I2,TT,st2,f2,q⟩=>?_)) (λ_ s' hq=>bz (bz hq)) λ_ _ e=>e)
 subst e;refine afn (Q:=λH'=>D.nx (σ.set i (aa (.ref s2.heap.objs.size))) H') (RR:=λbJ C=>NB (model X.prog X.w) X.A X.xe (aa (assign (.Name y pos') X.env)) (λ_ s'=>SP X au D .next s') bJ C) B tk hc hin q2 q3 I2 TT st2 f2 (q _ (I2.hok.fresh (bU _))) λC H' s' m I' fC hn qd=>?_
 show aQ _ X.A (assign (.Name y pos') X.env (.ref s2.heap.objs.size)) _ _ _;refine K3 (U4 I' hN hI (.inl hy) (v:=.ref s2.heap.objs.size) rfl (λs3 I3 aY=>?_) (.inr hy))
 obtain⟨a,sb,ha⟩:=aY
 have Y9:C≠a:=by
  rcases ha with z|z
  .rw[z];exact fC.2.1
  .exact λw=>fC.2.2.2.2.1 y a z w.symm
 refine⟨m,hn.sameBut sb Y9,λh' sb'=>⟨_,H',?_,qd⟩⟩
 exact I3.turned (t':=s3.toks) (λb o hb e=>(sb'.2 b hb).trans e) fC.1 fC.2.1 fC.2.2.2.1 fC.2.2.2.2.1 fC.2.2.2.2.2
end
def Za(z:Str):It:=⟨λi _=>i<z.cps.size,λi H x H'=>H'=H/\∃c,z.cps[i]?=aa c/\x=.str ⟨#[c]⟩,λi _=>z.cps.size<=i⟩
theorem anw{P:fV}{w:dD}{K:bw}{tg:Expr}{z:Str}{t:Tok}{ty:String}{it:aH}(hty:ty="str_ascii_iterator"\/ty="str_iterator")(hgo:∀i u,Az tg i u=pure ()):
  Turn P w K tg (Za z) [it] it (λi h=>h.IsStrIter it ty z t i) where
 mem:=bF
 obj:=λi h st b hb=>by
  have e:b=it:=by simpa using hb
  subst e
  obtain⟨o,e,c,d⟩:=st
  exact⟨o,e,λv q=>by rw[d] at q;cases q⟩
 keep:=λi h h' st k=>let ⟨o,ho,r⟩:=st;⟨o,k it bF o ho,r⟩
 item:=by
  intro X hP hw hK hc i au s σ H E I hf st hg;subst hP hw hK
  obtain⟨f0,f1,f2,f3,f4,f5⟩:=hf it bF
  have hi:i<z.cps.size:=hg;have W:yu X.prog X.w X.A it [it] [it] z.cps.size (SignAt z) (λi h=>h.IsStrIter it ty z t i):=by
   rcases hty with rfl|rfl
   .exact Walks.strAscii (I.ok.hd hc) it z t
   .exact Walks.strWide (I.ok.hd hc) it z t
  refine W.item i s _ _ hi st λv h' tk hv st' kk=>?_
  obtain⟨c,u,hc',rfl⟩:=hv
  have I1:Inv X au σ H {s with heap:=h',toks:=tk}:=I.turned (λb o hb e=>kk b o (by simpa using hb) e) f0 f1 f3 f4 f5
  refine⟨_,rfl,?_⟩
  rw[hgo];exact bz ⟨.str ⟨#[c]⟩,H,I1,⟨u,rfl⟩,⟨rfl,c,hc',rfl⟩,st',λb hb=>(hf b hb).1⟩
 done:=by
  intro X hP hw hK hc i au s σ H E I hf st hg;subst hP hw hK
  obtain⟨f0,f1,f2,f3,f4,f5⟩:=hf it bF
  have hi:z.cps.size<=i:=hg;rcases hty with rfl|rfl
  .exact wpAny_pyNext_ascii_end (I.ok.hd hc) st (by simpa using hi) λh' eb=>⟨rfl,I.turned (t':=s.toks) (λb o hb e=>eb b o hb e) f0 f1 f3 f4 f5⟩
  .exact wpAny_pyNext_wide_end (I.ok.hd hc) st (by simpa using hi) λh' eb=>⟨rfl,I.turned (t':=s.toks) (λb o hb e=>eb b o hb e) f0 f1 f3 f4 f5⟩
 self:=λ_ _ _ _ _ st h=>by
  rcases hty with rfl|rfl
  .exact wpAny_pyIter_striter_ascii st h
  .exact wpAny_pyIter_striter_wide st h
def ati(tl:TE):TI:=λσ H R=>tl σ H λx H1=>∃z,x=.str z/\R (Za z) H1
theorem afo(hl:PE X l tl)(hgo:∀i u,Az tg i u=pure ():=by intro _ _;rfl):PI X tg l (ati tl):=by
 intro au s σ H R I h;refine b7 (hl au s σ H _ I h) λv s1 aY=>?_
 obtain⟨x,H1,I1,r1,q1⟩:=aY
 obtain⟨z,e,q⟩:=q1
 subst e
 obtain⟨t,rfl⟩:=r1
 have fin:∀(o:Obj)(ty:String),(ty="str_ascii_iterator"\/ty="str_iterator")->Heap.IsStrIter (s1.heap.push o) s1.heap.objs.size ty z t 0->PIE X au σ tg R (.ref s1.heap.objs.size) {s1 with heap:=s1.heap.push o}:=λo ty hty st=>by
  refine⟨s1.heap.objs.size,[s1.heap.objs.size],_,_,H1,rfl,I1.kept (t':=s1.toks) λb o e=>cG _ e,anw hty hgo,st,λb hb=>?_,q⟩
  have e:b=s1.heap.objs.size:=by simpa using hb
  subst e;exact I1.wY (bU _) (I1.hok.fresh (bU _))
 cases ha:z.cps.all (·<128)
 .exact wpAny_pyIter_wide ha (fin _ _ (.inr rfl) ⟨_,gR _ rfl,rfl,rfl⟩)
 .exact wpAny_pyIter_ascii ha (fin _ _ (.inl rfl) ⟨_,gR _ rfl,rfl,rfl⟩)
theorem aml:dR X (gM .LtE) (λx y H Q=>∃i j,x=.str i/\y=.str j/\Q (.bl (!(decide (j.cps.toList<i.cps.toList)))) H):=by
 intro au s σ H x y v u Q I rx ry h
 obtain⟨i,j,rfl,rfl,q⟩:=h
 obtain⟨t,rfl⟩:=rx
 obtain⟨t',rfl⟩:=ry
 exact PySem.P.le_str (jf I q rfl)
theorem Ut:∀{ys:List Str}{us:List aL},Vals (ys.map V.str) us->StrsAre us ys
 |[],_,h=>by cases h;exact .nil
 |y::ys,_,h=>by
  cases h with
  |cons r rr=>
   obtain⟨t,rfl⟩:=r
   exact .cons y t (Ut rr)
theorem aoX:yS X "str.join" (λx xs H Q=>∃z p ys,x=.str z/\xs=[.ref p]/\cj X.K H p (ys.map V.str)/\(ys.map (·.length)).sum+ys.length*z.length<=16777216/\Q (.str (Txt.join z ys)) H):=by
 intro au s σ H x xs v us Q I rx r h
 obtain⟨z,p,ys,rfl,rfl,hp,hz,q⟩:=h
 obtain⟨t,rfl⟩:=rx
 obtain⟨u,rfl,ru⟩:=vals1 r
 cases ru
 obtain⟨aK,rv,pl,_⟩:=I.list hp
 exact join_list pl.isList (by simpa using Ut rv) hz λt' k=>⟨.str _,H,I.tok _,⟨_,rfl⟩,q⟩
section
variable{X:Cx}
theorem part_of(h:wJ v o):∃l:Option (Int×Tok),v=partValue l/\l.map (·.1)=o:=by
 cases h with
 |none=>exact⟨ao,rfl,rfl⟩
 |int i t=>exact⟨aa (i,t),rfl,rfl⟩
theorem aqN:yR X (λx lo hi H Q=>∃z,x=.str z/\z.length<=cH/\Q (.str (Txt.slice z lo hi)) H):=by
 intro au s σ H x v vl vu lo hi sl Q I rx hs pl pu h
 obtain⟨z,rfl,hz,q⟩:=h
 obtain⟨t,rfl⟩:=rx
 obtain⟨l,rfl,rfl⟩:=part_of pl
 obtain⟨u,rfl,rfl⟩:=part_of pu
 refine⟨"str",_,F.slot_str_getitem.lookup,ab3 s z t,?_⟩
 exact wpAny_getItem_str_slice (l:=l) (u:=u) (st:=ao) hs rfl (post_val_or_str ⟨kI (Txt.slice_le z _ _) hz,λt' k=>⟨.str _,H,I.tok _,⟨t',rfl⟩,q⟩⟩)
def Ag(z:Str)(n:Nat):Str:=⟨(cN n z.cps).foldl (·++·) #[]⟩
theorem Uu:dR X (pC .Mult) (λx y H Q=>∃z n,x=.str z/\y=.int n/\2<=n/\1<=z.length/\z.length*n.toNat<=cH/\(Ag z n.toNat).length<=cH/\Q (.str (Ag z n.toNat)) H):=by
 intro au s σ H x y v u Q I rx ry h
 obtain⟨z,n,rfl,rfl,hn,hz0,hz,hz2,q⟩:=h
 obtain⟨t,rfl⟩:=rx
 obtain⟨t',rfl⟩:=ry
 have hl:=yj;have h1:n.toNat<=z.length*n.toNat:=ah0 _ hz0;have hsl:cH=16777216:=lN;have awb:n<2^63:=az;refine PySem.P.mul_str (by simp;lia) (λ_ _=>?_) (λ_ _=>by unfold avM;simpa using hz) ?_
 .have h2:(z.length:Int)*n<=2^63-1:=by
   have:((z.length*n.toNat:Nat):Int)<=(cH:Nat):=by exact_mod_cast hz
   rw[ajn,aac az] at this;lia
  intro hgt;have h3:(2^63-1) / n<(z.length:Int):=hgt;have h4:=(Int.ediv_lt_iff_lt_mul (by lia:(0:Int)<n)).mp h3;lia
 .rw[bB az,bB (by
   intro hb;rw[ajo] at hb;rcases hb with hb|hb
   .have:=eq_of_beq hb;lia
   .have:=eq_of_beq hb;lia)]
  exact⟨hz2,⟨.str _,H,I.tok _,⟨_,rfl⟩,q⟩⟩
theorem IV:∀{bs:List Bool}{us:List aL},Vals (bs.map V.bl) us->us=bs.map uU
 |[],_,h=>by cases h;rfl
 |b::bs,_,h=>by
  cases h with
  |cons r rr=>
   cases r;rw[IV rr];rfl
theorem qw(hc:X.calm=aq):jm X (.builtin "all") (λxs H Q=>∃(p:aH)(bs:List Bool),xs=[.ref p]/\cj X.K H p (bs.map V.bl)/\Q (.bl (bs.all id)) H):=by
 intro au s σ H xs us Q I r h
 obtain⟨p,bs,rfl,hp,q⟩:=h
 obtain⟨u,rfl,ru⟩:=vals1 r
 cases ru
 obtain⟨aK,rv,pl,_⟩:=I.list hp
 have hl:=pl.isList;have e0:=IV rv;subst e0;have hlt:p<s.heap.objs.size:=by obtain⟨_,e,_⟩:=hl;exact cL e
 refine call_all_walk (K4 hl ?_)
 refine⟨s.heap.objs.size,[s.heap.objs.size,p],[s.heap.objs.size],(bs.map uU).toArray.size,_,_,λi=>(bs[i]?).getD aq,rfl,Uv (A:=X.A.in1) (I.ok.hd hc) _ p (gj hlt) (bs.map uU).toArray,
  ⟨⟨_,gR _ rfl,rfl,rfl⟩,hl.push _⟩,λi v s' Q' E' hP hQ=>?_,λh' tk hk=>?_⟩
 .have hP':(bs.map uU)[i]?=aa v:=by simpa using hP
  rw[jC] at hP';cases e:bs[i]? with
  |none=>rw[e] at hP';cases hP'
  |some b=>
   rw[e] at hP';cases hP';simp only[e,Hl] at hQ;exact vP hQ
 .have e:((dh (bs.map uU).toArray.size).all λi=>(bs[i]?).getD aq)=bs.all id:=by
   have:(bs.map uU).toArray.size=bs.length:=bF;rw[this,uP,lB,lB];constructor
   .intro h b hb
    obtain⟨i,hi,rfl⟩:=tX hb
    have:=h i (qZ.mpr hi);simpa[fU hi] using this
   .intro h i hi;have hi':=qZ.mp hi;simp only[fU hi',Hl];exact h _ (vR hi')
  rw[e]
  refine⟨.bl _,H,I.kept λb x e=>hk b x (λhm=>?_) (cG _ e),rfl,q⟩
  rw[gU.mp hm] at e;exact Bh _ (cL e)
end
mutual
def RD(K:bw)(H:Hp):aB->V->Prop
 |.none,v=>v=.non
 |.bool b,v=>v=.bl b
 |.int i,v=>v=.int i
 |.str x,v=>v=.str x
 |.tuple ds,v=>∃a vs,v=.ref a/\dg K H a vs/\rN K H ds vs
 |.list ds,v=>∃a vs,v=.ref a/\cj K H a vs/\rN K H ds vs
 |.dict _,_=>False
def rN(K:bw)(H:Hp):List aB->List V->Prop
 |[],vs=>vs=[]
 |d::ds,vs=>∃v r,vs=v::r/\RD K H d v/\rN K H ds r
end
mutual
theorem RD.nodict{K:bw}:∀{d:aB}{v:V},RD K H d v->d.hasDict=aA
 |.none,_,h=>by simp[Hq]
 |.bool _,_,h=>by simp[Hq]
 |.int _,_,h=>by simp[Hq]
 |.str _,_,h=>by simp[Hq]
 |.tuple ds,v,h=>by
  obtain⟨a,vs,e1,q,r⟩:=h
  simpa[Hq] using rN.nodict r
 |.list ds,v,h=>by
  obtain⟨a,vs,e1,q,r⟩:=h
  simpa[Hq] using rN.nodict r
theorem rN.nodict{K:bw}:∀{ds:List aB}{vs:List V},rN K H ds vs->aan ds=aA
 |[],_,h=>by simp[aan]
 |d::ds,vs,h=>by
  obtain⟨v,r,e1,q,t⟩:=h
  simp[aan,RD.nodict q,rN.nodict t]
end
section
variable{σ:St}{H:Hp}
mutual
theorem RD.reads(I:Inv X au σ H s):∀{d:aB}{v:V}{u:aL},RD X.K H d v->RelV v u->∃as,Reads s.heap u d as
 |.none,_,_,h,r=>by
  cases(show _=V.non from h)
  cases r
  exact⟨_,.none⟩
 |.bool b,_,_,h,r=>by
  cases(show _=V.bl b from h)
  cases r
  exact⟨_,.bool b⟩
 |.int i,_,_,h,r=>by
  cases(show _=V.int i from h)
  obtain⟨t,rfl⟩:=r
  exact⟨_,.int i t⟩
 |.str x,_,_,h,r=>by
  cases(show _=V.str x from h)
  obtain⟨t,rfl⟩:=r
  exact⟨_,.str x t⟩
 |.tuple ds,v,u,h,r=>by
  obtain⟨a,vs,e1,q,t⟩:=h
  subst e1;cases r
  obtain⟨aK,rv,⟨o,e,c,n,d⟩,_⟩:=I.tuple q
  obtain⟨as,R⟩:=rN.reads I t rv
  exact⟨_,.tuple e c d (by simpa using R)⟩
 |.list ds,v,u,h,r=>by
  obtain⟨a,vs,e1,q,t⟩:=h
  subst e1;cases r
  obtain⟨aK,rv,⟨o,n,e,c,_,d⟩,_⟩:=I.list q
  obtain⟨as,R⟩:=rN.reads I t rv
  exact⟨_,.list e c d (by simpa using R)⟩
theorem rN.reads(I:Inv X au σ H s):∀{ds:List aB}{vs:List V}{us:List aL},rN X.K H ds vs->Vals vs us->∃as,ReadsAll s.heap us ds as
 |[],_,_,h,r=>by
  cases(show _=[] from h)
  cases r
  exact⟨_,.nil⟩
 |d::ds,vs,us,h,r=>by
  obtain⟨v,rr,e1,q,t⟩:=h
  subst e1;cases r with
  |cons r1 r2=>
   obtain⟨as,R⟩:=RD.reads I q r1
   obtain⟨bs,R2⟩:=rN.reads I t r2
   exact⟨_,.cons R R2⟩
end
end
theorem acH(hg:X.A.guards=aa [])(hu:X.A.units+64<iG):jm X (.builtin "repr") (λxs H Q=>∃v d,xs=[v]/\RD X.K H d v/\d.showable=aq/\d.depth<=60/\d.shown.length<=cH/\Q (.str d.shown) H):=by
 intro au s σ H xs us Q I r h
 obtain⟨v,d,rfl,hd,hs,awc,hz,q⟩:=h
 obtain⟨u,rfl,ru⟩:=vals1 r
 cases d with
 |none=>
  cases(show v=V.non from hd)
  cases ru;exact PySem.P.repr_of_none ⟨.str _,H,I.tok _,⟨_,rfl⟩,by simpa[HF] using q⟩
 |bool b=>
  cases(show v=V.bl b from hd)
  cases ru;exact PySem.P.repr_of_bool ⟨.str _,H,I.tok _,⟨_,rfl⟩,by simpa[HF] using q⟩
 |int i=>
  cases(show v=V.int i from hd)
  obtain⟨t,rfl⟩:=ru
  exact PySem.P.repr_of_int (by simpa[RV] using hs) ⟨.str _,H,I.tok _,⟨_,rfl⟩,by simpa[HF] using q⟩
 |str x=>
  cases(show v=V.str x from hd)
  obtain⟨t,rfl⟩:=ru
  exact PySem.P.repr_of_str ⟨.str _,H,I.tok _,⟨_,rfl⟩,by simpa[HF] using q⟩ (by simpa[HF] using hz)
 |dict aC=>exact hd.elim
 |tuple ds=>
  obtain⟨as,R⟩:=hd.reads I ru
  obtain⟨a,vs,e1,_,_⟩:=id hd
  subst e1;cases ru;exact repr_of_reads' R hs (aiG hd.nodict) hg az (λ_ _ e=>e) (λh' u tk hk=>⟨.str _,H,I.kept hk,⟨_,rfl⟩,q⟩) hz
 |list ds=>
  obtain⟨as,R⟩:=hd.reads I ru
  obtain⟨a,vs,e1,_,_⟩:=id hd
  subst e1;cases ru;exact repr_of_reads' R hs (aiG hd.nodict) hg az (λ_ _ e=>e) (λh' u tk hk=>⟨.str _,H,I.kept hk,⟨_,rfl⟩,q⟩) hz
def anx(scope fO:kW):kW:=
 {scope with names:=scope.names.map λ(n,k)=>if(k==.free&&fO.kind==.function&&fO.names.lookup n==aa .cell) then(n,.cell) else(n,k)}
def afp(fO:kW)(N0 NT NF:List Str)(js:List Nat)(scope:kW):Bool:=
 scope.kind==.function&&scope.names.all (λy=>!(y.2==.local)||scope.names.lookup y.1==some .local)&&scope.names.all (λy=>!(y.2==.cell))&&
  scope.names.all (λy=>!(y.2==.free)||(fO.names.lookup y.1==aa .cell||fO.names.lookup y.1==aa .free))&&js.length==NF.length&&
  (js.zip NF).all (λp=>N0[p.1]?==aa p.2&&scope.names.lookup p.2==aa .free)&&NT.all (λx=>scope.names.lookup x==aa .local)&&decide (NT++NF).Nodup
theorem gB.ok(h:afp fO N0 NT NF js scope=aq)(ho:X.env.scope=fO)(hN:X.N=N0):qG X NT NF js scope:=by
 unfold afp at h;simp only[j0] at h
 obtain⟨⟨⟨⟨⟨⟨⟨h1,h2⟩,h3⟩,h4⟩,h5⟩,h6⟩,h7⟩,h8⟩:=h
 refine⟨eq_of_beq h1,λy hy e=>?_,λy hy e=>?_,λy hy e=>?_,by simpa using h5,λk j x ej ex=>?_,λx hx=>?_,of_decide_eq_true h8⟩
 .have:=lB.mp h2 y hy;rw[e] at this;simpa using this
 .have:=lB.mp h3 y hy;rw[e] at this;simp at this
 .have:=lB.mp h4 y hy;rw[e] at this;rw[ho];simpa using this
 .have hm:(j,x)∈js.zip NF:=by
   have:(js.zip NF)[k]?=aa (j,x):=by
    rw[List.getElem?_zip_eq_some]
    exact⟨ej,ex⟩
   exact lX this
  have:=lB.mp h6 _ hm;simp only[j0] at this;rw[hN]
  exact⟨eq_of_beq this.1,eq_of_beq this.2⟩
 .exact eq_of_beq (lB.mp h7 x hx)
structure dz(P:fV)(w:dD)(K:bw)(mg:Str->Option aL)(base:cu)(x:Str)(k:Nat)(ps:List Str)(sp:Sp):Prop where
 ex:∃(f:aH)(fd:wC),mg x=aa (.ref f)/\Bc K (.ref f)=aq/\Binds K fd ps []/\fX P w K mg base gb k f fd ps sp
section
variable{X:Cx}{x:Str}{k:Nat}{sp:Sp}{p pos:Pos}{e:Expr}{t:TA}
theorem ar5(F:dz X.prog X.w X.K X.mg X.base x k ps sp)(hr:kY k X.A)(hg:Gl X x)(ha:PA X (e::es) t)(hdb:(x==("__debug__":Str))=aA:=by decide)
  (he:bM (e::es) X.env=(aA,eval e X.env)::bM es X.env:=by rfl)(hpl:(iC pos (bM es X.env)).any (·.1)=aA:=by rfl):
  PE X (.Call (.Name x p) (e::es) [] pos) (X6 sp [] E0 t):=by
 obtain⟨f,fd,h1,h2,h3,h4⟩:=F.ex
 exact aoL h4 hr hg h1 h2 h3 .nil ar3 ha hdb he hpl
theorem akP:jm X (.builtin "isinstance") (λxs H Q=>∃x n t b,xs=[x,.ty n]/\pK X.K H x t/\DR X.K t (.type n)=aa b/\Q (.bl b) H):=by
 intro au s σ H xs us Q I r h
 obtain⟨x,n,t,b,rfl,ty,e,q⟩:=h
 obtain⟨u,u2,rfl,r1,r2⟩:=vals2 r
 cases r2;exact ama I r1 ty e λtk=>⟨.bl b,H,I.tok tk,rfl,q⟩
end
theorem yS.r{id:String}{r:V->List V->Hp->VK->Prop}(h:yS X id r):MtR X id r:=h
theorem ab6:dR X (gM .Is) (λx y H Q=>∃a b,x=.bl a/\y=.bl b/\Q (.bl (a==b)) H):=by
 intro au s σ H x y v u Q I rx ry h
 obtain⟨a,b,rfl,rfl,q⟩:=h
 cases rx;cases ry;exact is_bool (jf I q rfl)
theorem ajO:dR X (gM .IsNot) (λx y H Q=>∃a b,x=.bl a/\y=.bl b/\Q (.bl (a != b)) H):=by
 intro au s σ H x y v u Q I rx ry h
 obtain⟨a,b,rfl,rfl,q⟩:=h
 cases rx;cases ry;exact isnot_bool (jf I q rfl)
theorem cO.upd(h:H p=ao):cO H (L2.upd H p o):=λb u e=>by rw[fD (ue e h)];exact e
theorem ajP(kx vx gens scope pos):eval (.DictComp kx vx gens scope pos) aj=Tf (.DictComp kx vx gens scope pos) scope aj (firstIterPos gens pos) newDict (firstAsync gens) (firstIter gens aj):=rfl
def Yv(D:aH)(tk tv:TE):TM:=λσ H Q=>tk σ H λy H1=>tv σ H1 λz H2=>∃aC k,(∃ep,H2 D=aa (.dK aC ep))/\y=kV k/\aC.length<cH/\∀e,Q (upd H2 D (.dK (putK aC k z) e))
theorem aqO(hu:X.A.units+1<iG)(hk:PE X kx tk)(hv:PE X vx tv):PM X (do
      let kv <-eval kx X.env
      let vv <-rD [kv] (eval vx X.env)
      wF {kx.pos with endLine:=vx.pos.endLine,endCol:=vx.pos.endCol}
      rD [kv,vv] (dictSet D kv vv)) (Yv D tk tv):=by
 intro au s σ H Q I h;refine aJ (b7 (hk au s σ H _ I h) λkv s1 aY=>?_)
 obtain⟨y,H1,I1,r1,q1⟩:=aY
 refine aJ (nF (b7 (hv au s1 σ H1 _ I1 q1) λvv s2 aY=>?_))
 obtain⟨z,H2,I2,r2,aC,k,⟨ep,hD⟩,ey,hl,q2⟩:=aY
 subst ey;refine aJ (xN (nF ?_))
 obtain⟨z1,hd,vs,rel,dd⟩:=af9 I2.hok hD
 have hz:vs.length<=cH:=by rw[<-rel.length];exact z1
 have hl2:(putK aC k z).length<=cH:=by have:=Ub aC k z;lia
 refine wpAny_dictSet_pairs (hsz:=hz) (CJ r1) dd λh' Dp hs=>?_
 obtain⟨ep',dd2⟩:=Dp.dictAt
 refine⟨_,?_,q2 ep'⟩
 have he:∃q,h'.get? D=aa q:=let ⟨q,_,_,hq,_⟩:=Dp;⟨q,hq⟩
 exact Fj I2 (by rw[hD];exact qt) hs he (Xo hl2 hd (rel.put k r2) dd2)
section
variable{X:Cx}{js:List Nat}{ifs:List Expr}{T:lH}{wi:TI}{ts:Bk->TT}{te tk' tv:Bk->TE}{scope:kW}{pos:Pos}
def Zb(K:bw)(wi:TI)(T:lH)(ts:Bk->TT)(tk' tv:Bk->TE)(js:List Nat):TE:=λσ H Q=>wi σ H λJ H1=>∀D,H1 D=ao->∀b,Af K T (ts b) (Yv D (tk' b) (tv b)) (frees js σ) J (upd H1 D (.dK [] 0)) (Q (.ref D))
theorem afq{σ:St}{s2:aZ}{H2:Hp}{cl:List (Str×aH)}{it:aH}{fp:List aH}{tn:Nat->cu->Prop}{J:It}{Q:Hp->Prop}{RR:aL->aH->zX->aZ->Prop}{E:aL->aZ->Prop}
  (B:qG X NT NF js scope)(tk:p7 tg NT T)(hc:X.calm=aq)(hu:X.A.units+1<iG)
  (hin:∀b,oX (X.bk (NT++NF) scope b) ifs (ts b)/\PE (X.bk (NT++NF) scope b) kx (tk' b)/\PE (X.bk (NT++NF) scope b) vx (tv b))
  (q2:∀n c,cl.lookup n=aa c->X.env.cells.lookup n=aa c)(q3:∀y∈scope.names,y.2=.free->∃c,cl.lookup y.1=aa c)
  (I2:Inv X au σ H2 s2)(TT:Turn X.prog X.w X.K tg J fp it tn)(st2:tn 0 s2.heap)(f2:∀b∈fp,lU X au H2 b)
  (q:∀b,Af X.K T (ts b) (Yv s2.heap.objs.size (tk' b) (tv b)) (frees js σ) J (upd H2 s2.heap.objs.size (.dK [] 0)) Q)
  (hR:∀C H' s' m,Inv X au σ H' s'->lU X au H' C->s'.heap.Ns C m->Q H'->RR (.ref s2.heap.objs.size) C (.ok .next) s'):
  aQ (model X.prog X.w) X.A (newDict) (λbJ s₃=>aQ (model X.prog X.w) X.A (aa4 scope X.env.globals cl [] X.env.qual ao .none (aa X.env)) (λcenv s₄=>
   lQ (model X.prog X.w) X.A (.compStart (.DictComp kx vx [⟨tg,iter,ifs,0⟩] scope pos) 0 (.ref it) bJ {cenv with scope:=relabel scope X.env}) (RR bJ cenv.locals) s₄) E s₃) E s2:=by
 refine mJ ?_;have hD:H2 s2.heap.objs.size=ao:=I2.hok.fresh (bU _);have I3:Inv X au σ (upd H2 s2.heap.objs.size (.dK [] 0)) {s2 with heap:=s2.heap.push {cls:=.type "dict",dict:=ao,data:=.dict #[]}}:=
  I2.laid (t':=s2.toks) (λb o e=>cG _ e) (bU _) (adk s2.heap I2.big)
 have hsz:(s2.heap.push {cls:=.type "dict",dict:=ao,data:=.dict #[]}).objs.size=s2.heap.objs.size+1:=sy ..;refine Z6 B.cell (by intro y hy;simp at hy) (λh₁ hns₁ hsb₁=>?_) B.kind;have uH:∀b∈fp,b<s2.heap.objs.size:=λb hb=>by
  obtain⟨o,e,_⟩:=TT.obj 0 _ st2 b hb
  exact cL e
 have f3:∀b∈fp,lU X au (upd H2 s2.heap.objs.size (.dK [] 0)) b:=λb hb=>⟨by rw[fD (gj (uH b hb))];exact(f2 b hb).1,(f2 b hb).2⟩
 have keep:∀b o,(s2.heap.push {cls:=.type "dict",dict:=ao,data:=.dict #[]}).get? b=aa o->h₁.get? b=aa o:=λb o e=>
  hsb₁.extBut b o (gj (cL e)) (cG _ e)
 have Ak:∀b∈fp,b<(s2.heap.push {cls:=.type "dict",dict:=ao,data:=.dict #[]}).objs.size:=λb hb=>by have:=uH b hb;rw[hsz];exact vQ this
 have I4:=I3.blk (s1:={s2 with heap:=h₁,toks:=s2.toks+([]:List (Str×aL)).length}) B q2 q3 f3 Ak hns₁ keep rfl I2.bare;have Al:tn 0 h₁:=TT.keep 0 _ _ st2 λb _ o e=>keep b o (cG _ e)
 obtain⟨i1,i2,i3⟩:=hin ⟨cl,(s2.heap.push {cls:=.type "dict",dict:=ao,data:=.dict #[]}).objs.size,{s2 with heap:=s2.heap.push {cls:=.type "dict",dict:=ao,data:=.dict #[]}},upd H2 s2.heap.objs.size (.dK [] 0),fp⟩
 have loop:lQ (model X.prog X.w) X.A (.compLoop (.DictComp kx vx [⟨tg,iter,ifs,0⟩] scope pos) 0 (.ref it) (.ref s2.heap.objs.size) (Vv scope cl (s2.heap.push {cls:=.type "dict",dict:=ao,data:=.dict #[]}).objs.size X.env))
   (RR (.ref s2.heap.objs.size) (s2.heap.push {cls:=.type "dict",dict:=ao,data:=.dict #[]}).objs.size) {s2 with heap:=h₁,toks:=s2.toks+([]:List (Str×aL)).length}:=by
  refine Vw (X:=X.blk (NT++NF) scope cl (s2.heap.push {cls:=.type "dict",dict:=ao,data:=.dict #[]}).objs.size {s2 with heap:=s2.heap.push {cls:=.type "dict",dict:=ao,data:=.dict #[]}} (upd H2 s2.heap.objs.size (.dK [] 0)) fp)
   (T:=T) (fs:=frees js σ) (done:=Q) rfl (alg kx vx tg iter ifs scope pos _ _ _) rfl rfl rfl tk rfl B.nd hc (λx hx=>Z7 (B.tg x hx)) i1 (aqO hu i2 i3) TT (λb hb=>?_) I4 Al (q _) λH' s' σ' J' qd=>?_
  .exact⟨(f3 b hb).1,gj (Ak b hb),λhb2=>by
    rcases cg.mp (I3.FJ b hb2) with z|z
    .exact(f3 b hb).2.1 z
    .exact(f3 b hb).2.2.1 z,.inl hb,λx c e=>(f3 b hb).2.2.2.2.1 x c (q2 x c e),λp hp=>(nomatch(show p∈([]:List (aH×Obj)) from hp))⟩
  .obtain⟨m,hn,_⟩:=J'.loc
   exact hR _ H' s' m (I3.Yb f3 J') (I3.wY (bU _) J'.free) hn qd
 exact codeAny_compStart_dict loop (TT.self _ 0 _ _ _ Al loop)
theorem ar6(B:qG X NT NF js scope)(tk:p7 tg NT T)(hc:X.calm=aq)(hu:X.A.units+1<iG)(hi:PI X tg iter wi)
  (hin:∀b,oX (X.bk (NT++NF) scope b) ifs (ts b)/\PE (X.bk (NT++NF) scope b) kx (tk' b)/\PE (X.bk (NT++NF) scope b) vx (tv b))
  (hs:∀x,uN iter X.env x=pure x:=by intro _;rfl):PE X (.DictComp kx vx [⟨tg,iter,ifs,0⟩] scope pos) (Zb X.K wi T ts tk' tv js):=by
 intro au s σ H Q I h
 obtain⟨cl,hclos,q2,q3⟩:=Ii (aj:=X.env) (scope:=scope) λy hy e=>I.ok.has y.1 (B.free y hy e)
 rw[ajP];refine KN (use:=ao) rfl hs hclos B.kind B.names (b7 (hi au s σ H _ I h) λv s1 h1=>b7 h1 λitv s2 aY=>?_)
 obtain⟨it,fp,tn,J,H2,e,I2,TT,st2,f2,q⟩:=aY
 subst e;refine afq (hu:=hu) (Q:=λH'=>Q (.ref s2.heap.objs.size) H') (RR:=λbJ C=>NB (model X.prog X.w) X.A X.xe ao (EP X au σ Q) bJ C) B tk hc (hin:=hin) q2 q3 I2 TT st2 f2 (q _ (I2.hok.fresh (bU _))) λC H' s' m I' fC hn qd=>?_
 refine⟨m,hn,λh' sb=>⟨.ref s2.heap.objs.size,H',?_,rfl,qd⟩⟩
 exact I'.turned (t':=s'.toks) (λb o hb e=>(sb.2 b hb).trans e) fC.1 fC.2.1 fC.2.2.2.1 fC.2.2.2.2.1 fC.2.2.2.2.2
theorem anz(B:qG X NT NF js scope)(tk:p7 tg NT T)(hc:X.calm=aq)(hu:X.A.units+1<iG)(hi:PI X tg iter wi)
  (hin:∀b,oX (X.bk (NT++NF) scope b) ifs (ts b)/\PE (X.bk (NT++NF) scope b) kx (tk' b)/\PE (X.bk (NT++NF) scope b) vx (tv b))
  (hsw:wu (.DictComp kx vx [⟨tg,iter,ifs,0⟩] scope pos) (aa (.Name y pos')) spos.line X.env=pure aq)
  (hN:X.N.Nodup)(hI:X.N[i]?=aa y)(hy:X.env.scope.names.lookup y=aa .local)
  (hs:∀x,uN iter X.env x=pure x:=by intro _;rfl):PS X (.Assign [.Name y pos'] (.DictComp kx vx [⟨tg,iter,ifs,0⟩] scope pos) spos) (Gw (Zb X.K wi T ts tk' tv js) (yr i)):=by
 intro au s σ H D I h
 obtain⟨cl,hclos,q2,q3⟩:=Ii (aj:=X.env) (scope:=scope) λy hy e=>I.ok.has y.1 (B.free y hy e)
 rw[ah6 _ _ _ _ hsw];refine aJ (xN (aJ ?_));show aQ _ X.A (do let _ <-Tf (.DictComp kx vx [⟨tg,iter,ifs,0⟩] scope pos) scope X.env _ (newDict) aA (eval iter X.env) (aa (assign (.Name y pos') X.env))) _ _ s;refine aJ (uf (KN (use:=aa (assign (.Name y pos') X.env)) (Q:=λ_ s'=>SP X au D .next s') rfl hs hclos B.kind B.names
  (b7 (hi au s σ H _ I h) λv s1 h1=>b7 h1 λitv s2 ⟨it,fp,tn,J,H2,e,I2,TT,st2,f2,q⟩=>?_)) (λ_ s' hq=>bz (bz hq)) λ_ _ e=>e)
 subst e;refine afq (hu:=hu) (Q:=λH'=>D.nx (σ.set i (aa (.ref s2.heap.objs.size))) H') (RR:=λbJ C=>NB (model X.prog X.w) X.A X.xe (aa (assign (.Name y pos') X.env)) (λ_ s'=>SP X au D .next s') bJ C) B tk hc (hin:=hin) q2 q3 I2 TT st2 f2 (q _ (I2.hok.fresh (bU _))) λC H' s' m I' fC hn qd=>?_
 show aQ _ X.A (assign (.Name y pos') X.env (.ref s2.heap.objs.size)) _ _ _;refine K3 (U4 I' hN hI (.inl hy) (v:=.ref s2.heap.objs.size) rfl (λs3 I3 aY=>?_) (.inr hy))
 obtain⟨a,sb,ha⟩:=aY
 have Y9:C≠a:=by
  rcases ha with z|z
  .rw[z];exact fC.2.1
  .exact λw=>fC.2.2.2.2.1 y a z w.symm
 refine⟨m,hn.sameBut sb Y9,λh' sb'=>⟨_,H',?_,qd⟩⟩
 exact I3.turned (t':=s3.toks) (λb o hb e=>(sb'.2 b hb).trans e) fC.1 fC.2.1 fC.2.2.2.1 fC.2.2.2.2.1 fC.2.2.2.2.2
end
section
variable{X:Cx}
theorem aoY{K:bw}{t:aL}(e1:DR K t c=aa p)(e2:DR K t d=aa q):Su K t [c,d]=aa (p||q):=by
 unfold Su;rw[e1];cases p with
 |true=>rfl
 |false=>
  unfold Su;rw[e2];cases q with
  |true=>rfl
  |false=>rfl
end
theorem Inv.Og{X:Cx}{σ:St}{H H':Hp}{h':cu}{t':Nat}{ch:List aH}(I:Inv X au σ H s)(k:∀b o,b∉ch->s.heap.get? b=aa o->h'.get? b=aa o)(hf:∀b∈ch,lU X au H b)
  (hs:cO H H')(hfr:∀b o,s.heap.get? b=aa o->H b=ao->H' b=ao)(hn:∀b u,H' b=aa u->H b=aa u\/gn X.prog X.w H' h' b u):Inv X au σ H' {s with heap:=h',toks:=t'}:=by
 have JZ:∀b u,H b=aa u->b∉ch:=λb u e z=>by rw[(hf b z).1] at e;cases e
 refine I.step (g':=s.gens) (d':=s.drawn) (ch:=ch) (λb hb=>⟨(hf b hb).2.2.2.1,(hf b hb).2.1,(hf b hb).2.2.2.2.1,(hf b hb).2.2.2.2.2⟩) (λb o _ _ hc e _=>k b o hc e) (λb o _ _ hc e _=>⟨o.slots,k b o hc e⟩) (λb o _ e n=>hfr b o e n)
  (λb o hc e=>⟨o,k b o hc e⟩) (λ_ _ e=>hs _ _ e) (λ_ _ _ e=>hs _ _ e) (λb ps e=>⟨#[],by rw[hs _ _ e];simp⟩) (λm hm=>?_) (λb u e=>?_) I.bare
 .obtain⟨o,es,ep,ho,r⟩:=hm
  exact⟨o,es,ep,k _ o (λz=>(hf _ z).2.1 rfl) ho,r⟩
 .rcases hn b u e with z|z
  .refine(I.hok b u z).stay (λc v hc q=>k c v ?_ q) (λ_ q=>hs _ _ q) λ_ _ q=>hs _ _ q
   rcases hc with y|y
   .rw[y];exact JZ b u z
   .exact JZ c _ y
  .exact z
def Zc(K:bw)(a b:aH):It:=⟨λi H=>∃xs ys,cj K H a xs/\cj K H b ys/\i<min xs.length ys.length,
 λi H v H'=>∃p x y,H p=ao/\v=.ref p/\H'=upd H p (.tup [x,y])/\∀xs ys,cj K H a xs->cj K H b ys->xs[i]?=aa x/\ys[i]?=aa y,
 λi H=>∃xs ys,cj K H a xs/\cj K H b ys/\i=min xs.length ys.length⟩
theorem anA{P:fV}{w:dD}{K:bw}{es:List Expr}{k:Nat}{ps:Pos}{a b z TI TO i1 i2:aH}(D:Vx z TI TO i1 i2 a b):
  Turn P w K (.Tuple es k ps) (Zc K a b) [z,TI,TO,i1,i2] z (λi h=>ux h z TI TO .none/\pU h TI (.ref i1) (.ref i2)/\(∃c d,pU h TO c d)/\h.IsListIter i1 a i/\h.IsListIter i2 b i) where
 mem:=bF
 obj:=λi h st c hc=>by
  obtain⟨h1,h2,⟨_,_,h3⟩,⟨o4,e4,_,d4⟩,⟨o5,e5,_,d5⟩⟩:=st
  simp only[cg,kE,or_false] at hc;rcases hc with rfl|rfl|rfl|rfl|rfl
  .exact⟨_,h1,λv q=>by cases q⟩
  .exact⟨_,h2,λv q=>by cases q⟩
  .exact⟨_,h3,λv q=>by cases q⟩
  .exact⟨_,e4,λv q=>by rw[d4] at q;cases q⟩
  .exact⟨_,e5,λv q=>by rw[d5] at q;cases q⟩
 keep:=λi h h' st kk=>by
  obtain⟨h1,h2,⟨c,d,h3⟩,h4,h5⟩:=st
  exact⟨kk z bF _ h1,kk TI bF _ h2,⟨c,d,kk TO bF _ h3⟩,h4.at λo e=>kk i1 bF o e,h5.at λo e=>kk i2 bF o e⟩
 item:=by
  intro X hP hw hK hc i au s σ H E I hf st hg;subst hP hw hK
  obtain⟨xs,ys,ha,hb,hi⟩:=hg
  obtain⟨aK,r1,p1,_⟩:=I.list ha
  obtain⟨its2,r2,p2,_⟩:=I.list hb
  have l1:=r1.length;have l2:=r2.length;have W:=akQ (prog:=X.prog) (w:=X.w) (A:=X.A) (I.ok.hd hc) z TI TO i1 i2 a b D aK.toArray its2.toArray
  obtain⟨s1,s2,s3,s4,s5⟩:=st
  refine W.item i s _ E (by simp;lia) ⟨s1,s2,s3,s4,s5,p1.isList,p2.isList⟩ λT vals h' tk hv hT ht hm kk=>?_
  obtain⟨x,y,hx,hy,rfl⟩:=hv
  refine⟨_,rfl,W.go es k ps i T _ _ E hm λh2 st2 rO=>?_⟩
  have gx:xs[i]?=aa (xs.getD i .non):=by
   have:i<xs.length:=az;simp[pR,this]
  have gy:ys[i]?=aa (ys.getD i .non):=by
   have:i<ys.length:=az;simp[pR,this]
  obtain⟨u1,hu1,q1⟩:=r1.get gx
  obtain⟨u2,hu2,q2⟩:=r2.get gy
  have ex:u1=x:=by
   have:aK[i]?=aa x:=by simpa using hx
   rw[hu1] at this;exact jj this
  have ey:u2=y:=by
   have:its2[i]?=aa y:=by simpa using hy
   rw[hu2] at this;exact jj this
  subst ex ey;have wf:∀c,c∈[z,TO,i1,i2]->lU X au H c:=λc hc=>hf c (by simp at hc⊢;rcases hc with rfl|rfl|rfl|rfl<;>simp)
  have J5:H T=ao:=I.hok.fresh hT;have nT:T∉[z,TO,i1,i2]:=W.apart i T _ hm;have kT:h2.get? T=h'.get? T:=by
   obtain⟨o,e,_⟩:=id ht
   rw[rO T o nT e];exact e.symm
  obtain⟨oT,eT,cT,nT',dT⟩:=id ht
  refine⟨.ref T,upd H T (.tup [xs.getD i .non,ys.getD i .non]),I.Og (λc o hc e=>rO c o hc (kk c o hc e)) wf (cO.upd J5) (λc o e n=>?_) (λc u e=>?_),rfl,⟨T,_,_,J5,rfl,rfl,λxs' ys' h1 h2=>?_⟩,?_,λc hc=>?_⟩
  .rw[fD]
   .exact n
   .intro z;subst z;exact absurd (cL e) (Ij.mpr hT)
  .by_cases J6:c=T
   .subst J6;rw[gV] at e;cases e;refine .inr ⟨by show 2<=cH;decide,[u1,u2],.cons q1 (.cons q2 .nil),oT,kT.trans eT,cT,nT',by simpa using dT⟩
   .rw[fD J6] at e;exact .inl e
  .rw[I.Vu h1 ha,I.Vu h2 hb]
   exact⟨gx,gy⟩
  .exact⟨st2.1,st2.2.1,st2.2.2.1,st2.2.2.2.1,st2.2.2.2.2.1⟩
  .rw[fD]
   .exact(hf c hc).1
   .intro z;subst z
    obtain⟨o,e,_⟩:∃o,s.heap.get? c=aa o/\True:=by
     simp only[cg,kE,or_false] at hc
     obtain⟨c1,d1,s3⟩:=s3
     obtain⟨o4,e4,_⟩:=s4
     obtain⟨o5,e5,_⟩:=s5
     rcases hc with rfl|rfl|rfl|rfl|rfl
     .exact⟨_,s1,trivial⟩
     .exact⟨_,s2,trivial⟩
     .exact⟨_,s3,trivial⟩
     .exact⟨_,e4,trivial⟩
     .exact⟨_,e5,trivial⟩
    exact absurd (cL e) (Ij.mpr hT)
 done:=by
  intro X hP hw hK hc i au s σ H E I hf st hg;subst hP hw hK
  obtain⟨xs,ys,ha,hb,hi⟩:=hg
  obtain⟨aK,r1,p1,_⟩:=I.list ha
  obtain⟨its2,r2,p2,_⟩:=I.list hb
  have l1:=r1.length;have l2:=r2.length;have W:=akQ (prog:=X.prog) (w:=X.w) (A:=X.A) (I.ok.hd hc) z TI TO i1 i2 a b D aK.toArray its2.toArray
  obtain⟨s1,s2,s3,s4,s5⟩:=st
  have e:i=min aK.toArray.size its2.toArray.size:=by simp;lia
  subst e;refine W.done s _ E ⟨s1,s2,s3,s4,s5,p1.isList,p2.isList⟩ λh' tk kk=>⟨rfl,?_⟩
  have wf:∀c,c∈[z,TO,i1,i2]->lU X au H c:=λc hc=>hf c (by simp at hc⊢;rcases hc with rfl|rfl|rfl|rfl<;>simp)
  exact I.Og kk wf (cO.refl H) (λ_ _ _ n=>n) λ_ _ e=>.inl e
 self:=λ_ _ _ _ _ st h=>RG st.1 h
def atj(K:bw)(t:TA):TI:=λσ H R=>t σ H λvs H1=>∃a b xs ys,vs=[.ref a,.ref b]/\cj K H1 a xs/\cj K H1 b ys/\R (Zc K a b) H1
theorem aqP{X:Cx}{es:List Expr}{k:Nat}{ps:Pos}{t:TA}{p pos:Pos}(hg:Gl X "zip")(hm:X.mg "zip"=ao)(ha:PA X [x,y] t)(hs:bM [x,y] X.env=[(aA,eval x X.env),(aA,eval y X.env)]:=by rfl)(hs2:bM [y] X.env=[(aA,eval y X.env)]:=by rfl):
  PI X (.Tuple es k ps) (.Call (.Name "zip" p) [x,y] [] pos) (atj X.K t):=by
 intro au s σ H R I h;refine Call_ (wI I hg hm ah7 (KD (b7 (ha pos au s σ H _ I h) λus s1 aY=>?_) (by rw[hs,hs2]) (by rw[hs2];rfl)))
 obtain⟨vs,H1,I1,r1,q1⟩:=aY
 obtain⟨a,b,xs,ys,e,h1,h2,q⟩:=q1
 subst e;cases r1 with
 |cons r rr=>
  cases rr with
  |cons r' rr=>
   cases rr;cases r;cases r'
   obtain⟨aK,v1,p1,_⟩:=I1.list h1
   obtain⟨its2,v2,p2,_⟩:=I1.list h2
   have Zd:a<s1.heap.objs.size:=by obtain⟨_,e,_⟩:=p1.isList;exact cL e
   have uH:b<s1.heap.objs.size:=by obtain⟨_,e,_⟩:=p2.isList;exact cL e
   refine call_zip_2 p1.isList p2.isList λh' g1 g2 g3 g4 g5 hsz kk=>?_
   refine RG g1 ?_;have I2:Inv X au σ H1 {s1 with heap:=h'}:=I1.kept (t':=s1.toks) kk
   refine⟨s1.heap.objs.size+4,[s1.heap.objs.size+4,s1.heap.objs.size+2,s1.heap.objs.size+3,s1.heap.objs.size,s1.heap.objs.size+1],_,_,H1,rfl,I2,anA (zipApart_new Zd uH),⟨g1,g2,⟨_,_,g3⟩,g4,g5⟩,λc hc=>?_,q⟩
   refine I1.wY ?_ (I1.hok.fresh ?_)
   all_goals
    simp only[cg,kE,or_false] at hc;rcases hc with rfl|rfl|rfl|rfl|rfl<;>lia
theorem alh(I:Inv X au σ H s)(rx:RelV x u)(ty:pK X.K H x t)(e:Su X.K t aK=aa b)
  (hc:s.heap.IsTuple c aK.toArray)(h:∀tk,Q (.bool b) {s with toks:=tk}):aQ (model X.prog X.w) A (call (.builtin "isinstance") [u,.ref c]) Q E s:=by
 obtain⟨⟨oc,od,oda,osl⟩,g1,g2,g3,g4⟩:=hc
 simp only at g2 g4;subst g2 g4;cases ty with
 |non=>cases(show u=j6 from rx);exact vW aiC I.jY qt g1 e (λz=>nomatch z) h
 |bl y=>cases(show u=uU y from rx);exact vW aiD I.jY qt g1 e (λz=>nomatch z) h
 |int i=>obtain⟨t,q⟩:=(show ∃t,u=zJ i t from rx);cases q;exact vW ai0 I.jY qt g1 e (λz=>nomatch z) h
 |str y=>obtain⟨t,q⟩:=(show ∃t,u=M6 y t from rx);cases q;exact vW ai1 I.jY qt g1 e (λz=>nomatch z) h
 |flt y=>obtain⟨t,q⟩:=(show ∃t,u=abJ y t from rx);cases q;exact vW aiu I.jY qt g1 e (λz=>nomatch z) h
 |@lst a xs ea=>
  cases(show u=dJ a from rx)
  obtain⟨_,_,n,_,h1⟩:=(show gn X.prog X.w H s.heap a (.lst xs) from I.hok a _ ea)
  exact vW Rr I.jY ⟨_,h1,rfl⟩ g1 e (λz=>nomatch z) h
 |@qb a ob xs ea=>
  cases(show u=dJ a from rx)
  obtain⟨_,_,_,n,_,h1⟩:=(show gn X.prog X.w H s.heap a (.qb ob (.lst xs)) from I.hok a _ ea)
  exact vW Rr I.jY ⟨_,h1,rfl⟩ g1 e (λz=>nomatch z) h
 |@tup a xs ea=>
  cases(show u=dJ a from rx)
  obtain⟨_,_,_,p⟩:=(show gn X.prog X.w H s.heap a (.tup xs) from I.hok a _ ea)
  obtain⟨o,h1,h2,_⟩:=p
  exact vW aiv I.jY ⟨o,h1,h2⟩ g1 e (λz=>nomatch z) h
 |@dK a aC epo ea=>
  cases(show u=dJ a from rx)
  obtain⟨_,_,vs,_,p⟩:=(show gn X.prog X.w H s.heap a (.dK aC epo) from I.hok a _ ea)
  obtain⟨o,es,h1,h2,_⟩:=p
  exact vW Rt I.jY ⟨o,h1,h2.1⟩ g1 e (λz=>nomatch z) h
 |@dT a aC epo ea=>
  cases(show u=dJ a from rx)
  obtain⟨_,_,xs,_,o,es,h1,h2,_⟩:=(show gn X.prog X.w H s.heap a (.dT aC epo) from I.hok a _ ea)
  exact vW Rt I.jY ⟨o,h1,h2.1⟩ g1 e (λz=>nomatch z) h
 |@ins a C dx fs ea cl ha hn htk hm=>
  cases(show u=dJ a from rx)
  obtain⟨mA,O,_⟩:=aeo I.hok ea
  obtain⟨od,J,_⟩:=O.look
  exact vW (ai2 (cl.get _) cl.hd ha hn htk hm) I.jY J g1 e (λz=>nomatch z) h
theorem akh:jm X (.builtin "isinstance") (λxs H Q=>∃x c m n t p q,xs=[x,.ref c]/\H c=aa (.tup [.ty m,.ty n])/\pK X.K H x t/\DR X.K t (.type m)=aa p/\DR X.K t (.type n)=aa q/\Q (.bl (p||q)) H):=by
 intro au s σ H xs us Q I r h
 obtain⟨x,c,m,n,t,p,q,rfl,hc,ty,e1,e2,k⟩:=h
 obtain⟨u,u2,rfl,r1,r2⟩:=vals2 r
 cases r2
 obtain⟨_,aK,rv,ob,g1,g2,g3⟩:=(show gn X.prog X.w H s.heap c (.tup [.ty m,.ty n]) from I.hok c _ hc)
 cases rv with
 |cons a1 rv=>
  cases rv with
  |cons a2 rv=>
   cases rv;cases a1;cases a2;exact alh I r1 ty (aoY e1 e2) ⟨ob,g1,g2,g3⟩ λtk=>⟨.bl (p||q),H,I.tok tk,rfl,k⟩
end L2
namespace L2
open PySem PySem.Spec PyProof.Rows PySem.W
section
variable{N:Nat}{lt:Nat->Nat->Bool}{α β:Type}
def eU(N:Nat)(lt:Nat->Nat->Bool):KasT α->(α->Prop)->Prop
 |.ret a,R=>R a
 |.ask i j k,R=>i<N/\j<N/\eU N lt (k (lt i j)) R
theorem eU.mono:∀{t:KasT α},eU N lt t R->(∀a,R a->S a)->eU N lt t S
 |.ret a,h,f=>f a h
 |.ask i j k,h,f=>⟨h.1,h.2.1,eU.mono h.2.2 f⟩
theorem eU.bind:∀{t:KasT α},eU N lt t (λa=>eU N lt (f a) R)->eU N lt (t.bind f) R
 |.ret a,h=>h
 |.ask i j k,h=>⟨h.1,h.2.1,eU.bind h.2.2⟩
theorem eU.wp(ask:∀i j,i<N->j<N->∀C:Bool->aZ->Prop,C (lt i j) s->cmp i j C s)(q:∀a,R a->Q a s):∀{t:KasT α},eU N lt t R->t.kasWp cmp Q s
 |.ret a,h=>q a h
 |.ask i j k,h=>ask i j h.1 h.2.1 _ (eU.wp ask q h.2.2)
def KP(N:Nat)(p:Array Nat):Prop:=p.toList.Perm (dh N)
theorem KP.ix(h:KP N p)(h0:0<N)(i:Nat):p.getD i 0<N:=by
 by_cases hi:i<p.size
 .have:p.getD i 0∈p.toList:=by simp[ali,hi]
  exact qZ.mp (h.mem_iff.mp this)
 .simpa[ali,hi] using h0
theorem KP.rev(h:KP N p)(i j:Nat):KP N (kas_rev p i j):=((mirror_perm p i j _).toList).trans h
theorem KP.bub(h:KP N p)(i j:Nat):KP N (bubble p i j):=((bubble_perm p i j).toList).trans h
theorem Xq(h:KP N p)(h0:0<N):∀f n,eU N lt (kas_asc p f n) λ_=>True
 |0,n=>trivial
 |f+1,n=>by
  refine⟨h.ix h0 _,h.ix h0 _,?_⟩
  dsimp only;split
  .exact trivial
  .exact Xq h h0 f (n+1)
theorem Oh(h0:0<N):∀f (p:Array Nat) n q,KP N p->eU N lt (kas_desc f p n q) λr=>KP N r.1
 |0,p,n,q,h=>h
 |f+1,p,n,q,h=>by
  refine⟨h.ix h0 _,h.ix h0 _,?_⟩
  dsimp only;split
  .split
   .exact Oh h0 f _ _ _ (h.rev _ _)
   .exact Oh h0 f _ _ _ h
  .refine⟨h.ix h0 _,h.ix h0 _,?_⟩
   dsimp only;split
   .exact h
   .exact Oh h0 f _ _ _ h
theorem adm(h0:0<N)(h:KP N p)(n nrem:Nat):eU N lt (kas_tail3 n nrem p) λr=>KP N r.2:=
 eU.bind (eU.mono (Xq (h.rev 0 n) h0 _ _) λ_ _=>h.rev 0 n)
theorem abN(h0:0<N)(h:KP N p)(n nrem:Nat):eU N lt (kas_descPart n nrem p) λr=>KP N r.2:=by
 refine eU.bind (eU.mono (Oh h0 _ p _ _ h) λr hr=>?_);split
 .exact adm h0 (KP.rev hr _ _) _ _
 .exact adm h0 hr _ _
theorem anB(h0:0<N)(h:KP N p)(nrem:Nat):eU N lt (kas_count nrem p) λr=>KP N r.2:=by
 refine eU.bind (eU.mono (Xq h h0 _ _) λn _=>?_);split
 .exact h
 .split
  .refine⟨h.ix h0 _,h.ix h0 _,?_⟩
   dsimp only;split
   .exact h
   .exact abN h0 (h.rev _ _) _ _
  .exact abN h0 h _ _
theorem Vy(h0:0<N)(h:KP N p)(k:Nat):∀f l r,eU N lt (kas_place p k f l r) λ_=>True
 |0,l,r=>trivial
 |f+1,l,r=>by
  unfold kas_place;split
  .exact trivial
  .refine⟨h.ix h0 _,h.ix h0 _,?_⟩
   dsimp only;split
   .exact Vy h0 h k f _ _
   .exact Vy h0 h k f _ _
theorem afr(h0:0<N):∀f (p:Array Nat) k,KP N p->eU N lt (kas_bin f p k) (KP N)
 |0,p,k,h=>h
 |f+1,p,k,h=>eU.bind (eU.mono (Vy h0 h k _ _ _) λl _=>afr h0 f _ _ (h.bub _ _))
theorem aet(h0:0<N):eU N lt (kas_sort N) (KP N):=by
 refine eU.bind (eU.mono (anB h0 (p:=aki (dh N)) (xK _) N) λr hr=>?_);split
 .exact afr h0 _ _ _ hr
 .exact hr
end
def kLt:Key->Key->Bool
 |.inl i,.inl j=>decide (i<j)
 |.inr x,.inr y=>decide (x.cps.toList<y.cps.toList)
 |_,_=>aA
def eF:List Key->List Key->Bool
 |a::r,b::t=>if a=b then eF r t else kLt a b
 |_,_=>aA
def cA:Key->Bool
 |.inl _=>aq
 |.inr _=>aA
theorem adn(ra:RelV (kV a) u)(rb:RelV (kV b) v)(ht:cA a=cA b)(h:Q (kLt a b) s):aQ (model prog w) A (oneLt' f u v) Q E s:=by
 cases a with
 |inl i=>
  cases b with
  |inr y=>cases ht
  |inl j=>
   obtain⟨t,rfl⟩:=ra
   obtain⟨t',rfl⟩:=rb
   cases f with
   |true=>exact oneLt_int h
   |false=>exact kat_one _ _ (lt_int h)
 |inr x=>
  cases b with
  |inl y=>cases ht
  |inr y=>
   obtain⟨t,rfl⟩:=ra
   obtain⟨t',rfl⟩:=rb
   cases f with
   |true=>exact oneLt_str h
   |false=>exact kat_one _ _ (lt_str h)
theorem WL(ht:cA a=cA b):vD (kV a) (kV b)=decide (a=b):=by
 cases a with
 |inl i=>
  cases b with
  |inr y=>cases ht
  |inl j=>show(i==j)=_;rw[uP];simp
 |inr x=>
  cases b with
  |inl y=>cases ht
  |inr y=>show(x==y)=_;rw[uP];simp
theorem Ey(a:Key):tD (kV a)=aq:=by cases a<;>rfl
theorem ado:∀{ks js:List Key}{us vs:List aL}{i:Nat},Vals (ks.map kV) us->Vals (js.map kV) vs->ks.map cA=js.map cA->Q (eF ks js) s->KatLex prog w A aq aA Q (us.zip vs) i s
 |[],[],_,_,_,ra,rb,_,h=>by
  cases ra;cases rb;exact kat_nil h
 |[],_::_,_,_,_,_,_,e,_=>by cases e
 |_::_,[],_,_,_,_,_,e,_=>by cases e
 |a::ks,b::js,us,vs,i,ra,rb,e,h=>by
  cases ra with
  |cons r1 ra=>
   cases rb with
   |cons r2 rb=>
    have e1:cA a=cA b:=(sG e).1;have e2:=(sG e).2;refine kat_cons (Pb r1 r2 (Ey a) (Ey b) prog w _ _ ?_);rw[WL e1];unfold eF at h;by_cases hab:a=b
    .rw[bC hab] at h;rw[dW hab];exact kat_yes (ado ra rb e2 h)
    .rw[bB hab] at h;rw[jy hab];exact kat_no (adn r1 r2 e1 h)
section
variable{prog:fV}{w:dD}{A:iz}{s:aZ}{vs:List aL}{κ:SortKind}{Rl:List Nat->Prop}
def Kp(a:aH)(h h':cu):Prop:=∀b o,b≠a->h.get? b=aa o->h'.get? b=aa o
theorem alj(ho:s.heap.get? a=aa (seqObj "list" vs.toArray n))(h64:vs.length<64)(hg:2<=vs.length->eU vs.length lt (kas_sort vs.length) λp=>KP vs.length p/\Rl p.toList)(hsm:vs.length<2->Rl (dh vs.length))
  (hk:2<=vs.length->∀s':aZ,Kp a s.heap s'.heap->∀Q:SortKind->aZ->Prop,Q κ s'->aQ (model prog w) A (keyKind' vs.toArray) Q (λ_ _=>False) s')
  (hl:2<=vs.length->∀s':aZ,Kp a s.heap s'.heap->∀i j,i<vs.length->j<vs.length->∀C:Bool->aZ->Prop,C (lt i j) s'->kas_ask prog w A κ vs i j C s')
  (h:∀(p:List Nat)(h':cu)(c:Nat),p.Perm (dh vs.length)->Rl p->Kp a s.heap h'->h'.get? a=aa (seqObj "list" (p.map λi=>vs.getD i j6).toArray c)->P (.done (.ret .none)) {s with heap:=h'}):
  aQ (model prog w) A (mq.«list.sort» ⟨[.ref a],[]⟩) P E s:=by
 have lta:a<s.heap.objs.size:=cL ho
 obtain⟨e1,ho1⟩:∃e1,(s.heap.update a (o9 λ_=>(#[]:Array aL))).get? a=aa (seqObj "list" #[] e1):=⟨_,get?_update_seq ho λ_=>#[]⟩
 have sz:vs.length<=cH:=by rw[lN];lia
 have kp:Kp a s.heap (((s.heap.update a (o9 λ_=>(#[]:Array aL))).push (seqObj "tuple" vs.toArray 0)).push (seqObj "list" #[] 0)):=λb o hb e=>
  cG _ (cG _ (((rW s.heap a _).2 b hb).trans e))
 have J7:(((s.heap.update a (o9 λ_=>(#[]:Array aL))).push (seqObj "tuple" vs.toArray 0)).push (seqObj "list" #[] 0)).get? a=aa (seqObj "list" #[] e1):=cG _ (cG _ ho1);rw[list_sort_plain];refine aJ (listItems_at ho rfl (aJ (listUpdate_at ho rfl (aJ (seqEpoch_at ho1 rfl (aJ (wpAny_newTuple (aJ (abm (nF ?_) (j5 _))) (by show vs.length<=_;exact sz))))) (by rw[gK];exact sz) (j5 _))));show aQ (model prog w) A _ P E {s with heap:=((s.heap.update a (o9 λ_=>(#[]:Array aL))).push (seqObj "tuple" vs.toArray 0)).push (seqObj "list" #[] 0)};dsimp only;have fin:∀(p:List Nat),p.Perm (dh vs.length)->Rl p->∀out:Array aL,out=(p.map λi=>vs.getD i j6).toArray->
   P (.done (.ret .none)) {s with heap:=(((s.heap.update a (o9 λ_=>(#[]:Array aL))).push (seqObj "tuple" vs.toArray 0)).push (seqObj "list" #[] 0)).update a (o9 λ_=>out)}:=λp hp hrl out eo=>by
  subst eo;refine h p _ _ hp hrl (λb o hb e=>((rW _ a _).2 b hb).trans (kp b o hb e)) (get?_update_seq J7 _)
 by_cases h2:vs.toArray.size<2
 .rw[bC h2,bC h2];refine aJ (bz ?_);rw[StateT.run_pure];refine aJ (bz ?_);dsimp only;have hz:(pairsOf vs).size<=cH:=by rw[pairsOf_size];exact sz
  refine aJ (seqEpoch_at J7 rfl (aJ (listUpdate_at J7 rfl ?_ (hsz2:=by rw[Array.size_map];show(pairsOf vs).size<=_;lia))));simp only[bne_self_eq_false,qj,if_false];refine bz (fin (dh vs.length) (xK _) (hsm (by simpa using h2)) _ ?_);apply Array.toList_inj.mp
  show((vs.toArray.zip vs.toArray).map (·.2)).toList=_
  rw[Array.toList_map,Array.toList_zip,List.map_snd_zip (bU _)];show vs=_;refine DK bF λi h1 h3=>?_
  simp[pR,h1]
 .have h2':2<=vs.length:=by simpa using h2
  rw[bB h2,bB h2];refine aJ (uf (hk h2' _ kp (λk s'=>k=κ/\s'={s with heap:=((s.heap.update a (o9 λ_=>(#[]:Array aL))).push (seqObj "tuple" vs.toArray 0)).push (seqObj "list" #[] 0)}) ⟨rfl,rfl⟩) (λk s0 hk0=>?_) λ_ _ x=>x.elim)
  obtain⟨rfl,rfl⟩:=hk0
  refine aJ (uf (kat_run (ks:=vs) (vs:=vs) (Q:=λst' s'=>∃p:Array Nat,(KP vs.length p/\Rl p.toList)/\arrOf st'=p.map (kas_item (vs.toArray.zip vs.toArray))/\failedOf st'=ao/\s'={s with heap:=((s.heap.update a (o9 λ_=>(#[]:Array aL))).push (seqObj "tuple" vs.toArray 0)).push (seqObj "list" #[] 0)})
   rfl h2' h64 (G:=λp s'=>(KP vs.length p/\Rl p.toList)/\s'={s with heap:=((s.heap.update a (o9 λ_=>(#[]:Array aL))).push (seqObj "tuple" vs.toArray 0)).push (seqObj "list" #[] 0)}) (λp st' s' a1 a2 a3 a4=>⟨p,a4.1,a2,a3,a4.2⟩) (eU.wp (lt:=lt) (hl h2' _ kp) (λp hp=>⟨hp,rfl⟩) (hg h2'))) ?_ λ_ _ e=>e)
  rintro⟨⟨⟩,st'⟩ s' ⟨p,⟨hp,hrl⟩,har,hf,rfl⟩
  dsimp only;have hout:=kat_snds (ks:=vs) (vs:=vs) rfl har;have hps:p.toList.length=vs.length:=by rw[hp.length_eq,oK]
  rw[hout];refine aJ (seqEpoch_at J7 rfl (aJ (listUpdate_at J7 rfl ?_ (j5 _) (by rw[gK,bD,hps];lia))));rw[hf];simp only[bne_self_eq_false,qj,if_false];exact bz (fin p.toList hp hrl _ rfl)
theorem Ud(h64:vs.length<64)(hg:2<=vs.length->eU vs.length lt (kas_sort vs.length) λp=>KP vs.length p/\Rl p.toList)(hsm:vs.length<2->Rl (dh vs.length))
  (hc:∀R:List aL->aZ->Prop,(∀us h1 tk,s.heap.objs.size<=h1.objs.size->(∀b o,s.heap.get? b=aa o->h1.get? b=aa o)->us=vs->R us {s with heap:=h1,toks:=tk})->aQ (model prog w) A.in1 (collect (.ref r)) R E s)
  (hk:2<=vs.length->∀s':aZ,(∀b o,s.heap.get? b=aa o->s'.heap.get? b=aa o)->∀Q:SortKind->aZ->Prop,Q κ s'->aQ (model prog w) A.in1.in1 (keyKind' vs.toArray) Q (λ_ _=>False) s')
  (hl:2<=vs.length->∀s':aZ,(∀b o,s.heap.get? b=aa o->s'.heap.get? b=aa o)->∀i j,i<vs.length->j<vs.length->∀C:Bool->aZ->Prop,C (lt i j) s'->kas_ask prog w A.in1.in1 κ vs i j C s')
  (h:∀(p:List Nat)(D:aH)(h':cu)(c tk:Nat),p.Perm (dh vs.length)->Rl p->s.heap.objs.size<=D->(∀b o,s.heap.get? b=aa o->h'.get? b=aa o)->h'.get? D=aa (seqObj "list" (p.map λi=>vs.getD i j6).toArray c)->Q (.ref D) {s with heap:=h',toks:=tk}):
  aQ (model prog w) A (call (.builtin "sorted") [.ref r]) Q E s:=by
 refine ahR kind_sorted plain_sorted entry_sorted (args_sorted1 _) ?_;unfold mq.«sorted»;refine aJ (m:=checkCount "sorted" 1 1 _) (bz (aJ (hc _ λus h1 tk hsz kk eu=>?_)));subst eu;refine aJ (abm ?_ (by rw[lN];lia));have hoL:(h1.push (seqObj "list" us.toArray 0)).get? h1.objs.size=aa (seqObj "list" us.toArray 0):=gR _ rfl;have ltD:∀b o,s.heap.get? b=aa o->b≠h1.objs.size:=λb o e=>gj (cL (kk b o e))
 have up:∀s':aZ,Kp h1.objs.size (h1.push (seqObj "list" us.toArray 0)) s'.heap->∀b o,s.heap.get? b=aa o->s'.heap.get? b=aa o:=λs' k b o e=>k b o (ltD b o e) (cG _ (kk b o e))
 refine aJ (nF (oZ slot_list_sort ⟨_,hoL,rfl⟩ entry_list_sort (alj (κ:=κ) (lt:=lt) (s:={s with heap:=h1.push (seqObj "list" us.toArray 0),toks:=tk}) hoL h64 hg hsm (λh2 s' k=>hk h2 s' (up s' k)) (λh2 s' k=>hl h2 s' (up s' k)) λp h' c hp hrl k e=>⟨_,rfl,?_⟩) (args_list_sort _)));exact bz ⟨_,rfl,h p h1.objs.size h' c tk hp hrl hsz (up {s with heap:=h'} k) e⟩
end
def vA(h:cu)(d:aH)(es:Array Iu)(ep:Nat):Prop:=∃o,h.get? d=aa o/\o.ExactDict/\o.data=.dict es ep
section
variable{w:dD}{A:iz}{s:aZ}{d it:aH}{ep i:Nat}
theorem vA.ty(h:vA s.heap d es ep):s.TypeIs (.ref d) "dict":=let ⟨o,ho,hc,_⟩:=h;⟨o,ho,hc.1⟩
theorem adp(hd:(d==sO)=aA)(hm:vA s.heap d es ep)
  (hQ:Q (.ref s.heap.objs.size) {s with heap:=s.heap.push {cls:=.type "dict_keyiterator",data:=.fields #[.ref d,.int 0 0,.int es.size 0,.int ep 0]}}):aQ (model prog w) A (BZ (.ref d)) Q E s:=by
 obtain⟨o,ho,hc,hdat⟩:=id hm
 have hT:=hm.ty;refine aao hT ai5 (oZ ai5 hT F.entry_dict_iter ?_ (F.args_dict_iter_1 _));unfold mq.«dict.__iter__»;refine aJ ?_;unfold avN;refine aJ (wpAny_notOrdered_dict hT ?_);show aQ _ _ (pure (dJ d)) _ _ s
 refine bz ?_;show aQ _ _ (ah8 d >>= _) _ _ s
 unfold ah8;rw[bB (by rw[hd];exact jK)];refine aJ (bz (aJ (aap ho hdat (aJ (aaQ ho hdat ?_)))));refine aJ (mJ (bz ⟨_,rfl,"dict_keyiterator",_,⟨_,gR _ rfl,rfl⟩,F.slot_dict_keyiterator_next.lookup,?_⟩));simpa[jL] using hQ
theorem adq(hit:s.heap.IsKeyIter it d i es.size ep)(hm:vA s.heap d es ep)(hlt:i<es.size)
  (hQ:∀h',h'.IsKeyIter it d (i+1) es.size ep->zE it s.heap h'->Q (aa es[i].key) {s with heap:=h'}):aQ (model prog w) A (j7 (.ref it)) Q E s:=by
 obtain⟨o,ho,hc,hd⟩:=id hit;obtain⟨od,hod,hcd,hdd⟩:=id hm
 unfold j7;refine aJ (Bo (uL (name:=bI "__next__") hit.typeIs Ra (oZ Ra hit.typeIs ahG ?_ (ahF _))));refine aJ (bz ?_);refine aJ ?_;refine aJ ?_
 first|refine aJ (Q9 hit.typeIs (bz (aJ (Bd ho hd ?_))))|refine aJ (Rh hit.typeIs (bz (aJ (Bd ho hd ?_))))
 have own:ahH "dict_keyiterator"=aA:=bA;simp only[own,qj,if_false];show aQ _ _ (if(dJ d==j6)=aq then _ else _) _ _ s
 rw[bB (show ¬((dJ d==j6)=aq) from jK)];refine aJ (bz (aJ (aap hod hdd ?_)));rw[bB bF];refine aJ (bz (aJ (aaQ hod hdd ?_)));rw[bB bF];refine bz ?_;simp only[show ¬((i:Int)<0) from by lia,if_false,Dz,mY hlt];refine aJ ?_
 first|refine aJ (Q9 hit.typeIs (bz (aJ (Z4 hit.typeIs ?_))))|refine aJ (Rh hit.typeIs (bz (aJ (Z4 hit.typeIs ?_))))
 show aQ _ _ (setField (.ref it) 1 (jL ((i:Int)+1)) >>= _) _ _ s;refine aJ (xM ho hd bF ?_);have hit':(s.heap.update it (abn (·.setIfInBounds 1 (jL ((i:Int)+1))))).IsKeyIter it d (i+1) es.size ep:=⟨_,vM _ ho (Z5 (Hg hd _)),(aaq ..).trans hc,by rw[Hg hd];simp[jL]⟩
 refine aJ (nF ?_);refine aJ (Z4 (s:={s with heap:=s.heap.update it (abn (·.setIfInBounds 1 (jL ((i:Int)+1))))}) hit'.typeIs ?_);show aQ _ _ (pure es[i].key) _ _ _;exact bz (bz ⟨_,rfl,bz (hQ _ hit' (rW ..))⟩)
theorem aeu(hh:A.handled=ao)(hit:s.heap.IsKeyIter it d i es.size ep)(hm:vA s.heap d es ep)(hge:es.size<=i)
  (hQ:∀h',Ms it s.heap h'->Q ao {s with heap:=h'}):aQ (model prog w) A (j7 (.ref it)) Q E s:=by
 obtain⟨o,ho,hc,hd⟩:=id hit;obtain⟨od,hod,hcd,hdd⟩:=id hm
 unfold j7;refine aJ (Bo (uL (name:=bI "__next__") hit.typeIs Ra (oZ Ra hit.typeIs ahG ?_ (ahF _))));refine aJ (bz ?_);refine aJ ?_;refine aJ ?_
 first|refine aJ (Q9 hit.typeIs (bz (aJ (Bd ho hd ?_))))|refine aJ (Rh hit.typeIs (bz (aJ (Bd ho hd ?_))))
 have own:ahH "dict_keyiterator"=aA:=bA;simp only[own,qj,if_false];show aQ _ _ (if(dJ d==j6)=aq then _ else _) _ _ s
 rw[bB (show ¬((dJ d==j6)=aq) from jK)];refine aJ (bz (aJ (aap hod hdd ?_)));rw[bB bF];refine aJ (bz (aJ (aaQ hod hdd ?_)));rw[bB bF];refine bz ?_;simp only[show ¬((i:Int)<0) from by lia,if_false,Dz,Z1 hge];refine aJ ?_
 first|refine aJ (Q9 hit.typeIs (bz ?_))|refine aJ (Rh hit.typeIs (bz ?_))
 show aQ _ _ (setField (.ref it) 0 .none >>= _) _ _ s;refine aJ (xM ho hd bF ?_);show aQ _ _ (Jp (.type "StopIteration") [] >>= _) _ _ _;refine aJ ?_;simp only[Jp,Vz];refine aJ (mJ ?_ (by size_fits));refine aJ (m:=Hr _ _) (HS (a:=j6) (by first|rfl|(simp only[Hr];rfl)) ?_);refine mJ ?_ (by size_fits);simp only[VB];refine aJ (abo ?_);rw[show A.in1.handled=ao from hh];refine aJ (bz (abO ?_));refine aJ (RJ (T:="StopIteration") (b:=aq) ⟨_,gR _ rfl,rfl⟩ aa5 ?_);exact bz (hQ _ (((rW ..).extBut.push _).push _))
theorem amm(hh:A.handled=ao)(hne:d≠it):yu prog w A it [it,d] [it] es.size (λi v=>(es[i]?).map (·.key)=aa v) (λi h=>h.IsKeyIter it d i es.size ep/\vA h d es ep) where
 sub:=λb hb=>by simp at hb;simp[hb]
 frame:=λ_ _ _ st hk=>⟨st.1.at λo e=>hk it bF o e,let ⟨o,ho,r⟩:=st.2;⟨o,hk d bF o ho,r⟩⟩
 item:=λi s Q E hi st hQ=>adq st.1 st.2 hi λh' hit' hs'=>hQ _ h' s.toks (by simp[hi]) ⟨hit',let ⟨o,ho,r⟩:=st.2;⟨o,(hs'.2 d hne).trans ho,r⟩⟩ λb o hb e=>(hs'.2 b λz=>hb (by simp[z])).trans e
 done:=λs Q E st hQ=>aeu hh st.1 st.2 (bU _) λh' he'=>hQ h' s.toks λb o hb e=>he' b o (λz=>hb (by simp[z])) e
 self:=λ_ _ _ _ st hQ=>aie st.1 hQ
theorem aoZ(lo:(d==sO)=aA):KdlSrc prog w "dict" d d es.size (λi v=>(es[i]?).map (·.key)=aa v) (λh=>vA h d es ep) where
 type:=λ_ hm=>hm.ty
 there:=λ_ hm=>let ⟨_,ho,_⟩:=hm;⟨cL ho,cL ho⟩
 keep:=λ_ _ hm hk=>let ⟨o,ho,r⟩:=hm;⟨o,hk d (.inl rfl) o ho,r⟩
 notList:=bA
 notTuple:=bA
 hint:=λ_ _ _ _ hm hq=>kdl_hint_dict hm.ty hq
 iter:=λ_ _ hh hm=>⟨_,_,(λ_ _ hq=>adp lo hm hq),amm hh (let ⟨_,ho,_⟩:=hm;gj (cL ho)),⟨⟨_,gR _ rfl,rfl,rfl⟩,let ⟨o,ho,r⟩:=hm;⟨o,cG _ ho,r⟩⟩⟩
theorem akR(K:KdlSrc prog w T r d n P OK)(hh:A.handled=ao)(hok:OK s.heap)(hn:n<=cH)
  (h:∀(h':cu)(tk:Nat)(bJ:Array aL),s.heap.objs.size<=h'.objs.size->(∀b o,s.heap.get? b=aa o->h'.get? b=aa o)->ItemsOf P bJ n->R bJ.toList {s with heap:=h',toks:=tk}):
  aQ (model prog w) A (collect (.ref r)) R E s:=by
 have hlt:=K.there _ hok;unfold collect;refine aJ (aa6 (rZ entry_proto_collect' ?_));rw[tW ahJ _];show aQ _ A.in1 (newList [] >>= λl=>again (.builtin "list.__iadd__" ⟨[l,.ref r],[]⟩)) _ _ s;refine aJ (mJ ?_);refine bz ⟨sH Ri _,rZ entry_list_iadd' ?_⟩;rw[tW Ri _];have hS:(s.heap.push {cls:=.type "list",data:=.seq ([]:List aL).toArray}).get? s.heap.objs.size=aa {cls:=.type "list",data:=.seq #[]}:=gR _ rfl;show aQ _ A.in1 (Rb (.ref s.heap.objs.size) (.ref r) (.ref s.heap.objs.size)) _ _ _;have key:=kdl_extend (A:=A) (s:={s with heap:=s.heap.push {cls:=.type "list",data:=.seq ([]:List aL).toArray}}) (R:=λ(q:zX)(s':aZ)=>∃(h':cu)(tk:Nat)(acc':Array aL)(c':Nat),q=.ok (.ret (.ref s.heap.objs.size))/\s'={s with heap:=h',toks:=tk}/\(∀b o,s.heap.get? b=aa o->h'.get? b=aa o)/\h'.get? s.heap.objs.size=aa {cls:=.type "list",dict:=ao,data:=.seq acc' c',slots:=#[]}/\ItemsOf P acc' n)
  K hh (K.keep _ _ hok λb _ o e=>cG _ e) s.heap.objs.size (uR hlt.1) (uR hlt.2) (.ref s.heap.objs.size) 0 hS (λh' tk acc' c' hk hS' hacc=>⟨h',tk,acc',c',rfl,rfl,λb o e=>hk b o (gj (cL e)) (cG _ e),hS',hacc⟩) hn
 refine uf key (λfin s' x=>?_) λe s' x=>?_
 .cases fin with
  |done f=>
   obtain⟨h',tk,acc',c',e,rfl,hk,hS',hacc⟩:=x
   cases e;show aQ _ A (load s.heap.objs.size >>= _) _ _ _
   exact aJ (MN hS' (bz (h h' tk acc' (Ea (cL hS')) hk hacc)))
  |again c₁=>
   refine⟨x.1,Eb x.2 λq s₂ y=>?_⟩
   obtain⟨h',tk,acc',c',rfl,rfl,hk,hS',hacc⟩:=y
   show aQ _ A (load s.heap.objs.size >>= _) _ _ _;exact aJ (MN hS' (bz (h h' tk acc' (Ea (cL hS')) hk hacc)))
 .obtain⟨_,_,_,_,e',_⟩:=x;cases e'
end
theorem Vb:∀{us:List aL}{ns:List Str},StrsAre us ns->Vals (ns.map V.str) us
 |_,_,.nil=>.nil
 |_,_,.cons _ t r=>.cons ⟨t,rfl⟩ (Vb r)
theorem ai6:jm X (.builtin "sorted") (λxs H Q=>∃(p:aH)(ns:List Int),xs=[.ref p]/\cj X.K H p (ns.map V.int)/\ns.length<64/\∀(l:aH)(ns':List Int),H l=ao->ns'.Perm ns->ns'.Pairwise (·<=·)->Q (.ref l) (upd H l (.lst (ns'.map V.int)))):=by
 intro au s σ H xs us Q I r h
 obtain⟨p,ns,rfl,hp,h64,q⟩:=h
 obtain⟨u,rfl,ru⟩:=vals1 r
 cases ru
 obtain⟨aK,rv,pl,_⟩:=I.list hp
 have hi:IntsAre aK ns:=intsAre_of rv;have hl:=rv.length;rw[bD] at hl;refine sorted_ints pl.isList hi az λout ns' a1 a2 a3=>?_
 obtain⟨e,he⟩:=sortedAll_at s.heap aK out
 have hz:ns'.length<=cH:=by rw[a2.length_eq,lN];lia
 exact⟨.ref (s.heap.objs.size+1),_,I.laid (o:=.lst (ns'.map V.int)) (t':=s.toks) (λ_ _=>sortedAll_old) (xP _) ⟨by rw[bD];exact hz,out.toList,e,M7 a1,by simpa[seqObj] using he⟩,rfl,q _ ns' (I.hok.fresh (xP _)) a2 a3⟩
theorem ai7:jm X (.builtin "sorted") (λxs H Q=>∃(p:aH)(ns:List Str),xs=[.ref p]/\cj X.K H p (ns.map V.str)/\ns.length<64/\∀(l:aH)(ns':List Str),H l=ao->ns'.Perm ns->sortedS ns'=aq->Q (.ref l) (upd H l (.lst (ns'.map V.str)))):=by
 intro au s σ H xs us Q I r h
 obtain⟨p,ns,rfl,hp,h64,q⟩:=h
 obtain⟨u,rfl,ru⟩:=vals1 r
 cases ru
 obtain⟨aK,rv,pl,_⟩:=I.list hp
 have hi:StrsAre aK ns:=Ut rv;have hl:=rv.length;rw[bD] at hl;refine sorted_strs pl.isList hi az λout ns' a1 a2 a3=>?_
 obtain⟨e,he⟩:=sortedAll_at s.heap aK out
 have hz:ns'.length<=cH:=by rw[a2.length_eq,lN];lia
 exact⟨.ref (s.heap.objs.size+1),_,I.laid (o:=.lst (ns'.map V.str)) (t':=s.toks) (λ_ _=>sortedAll_old) (xP _) ⟨by rw[bD];exact hz,out.toList,e,Vb a1,by simpa[seqObj] using he⟩,rfl,q _ ns' (I.hok.fresh (xP _)) a2 a3⟩
theorem kY.mL(r:kY k A):A.units+1<iG:=by have:=r.un;lia
abbrev Row:=aH×List Key
def TupAt(h:cu)(r:Row):Prop:=∃aK,Vals (r.2.map kV) aK/\IsTup h r.1 aK.toArray
theorem TupAt.keep(t:TupAt h r)(k:∀b o,h.get? b=aa o->h'.get? b=aa o):TupAt h' r:=by
 obtain⟨aK,v,o,e,c⟩:=t
 exact⟨aK,v,o,k _ _ e,c⟩
theorem aev:∀{aM:List Row},(∀r∈aM,TupAt h r/\r.2.map cA=b::sh)->∃fs,KatTups h (aM.map λr=>dJ r.1) fs/\fs.length=aM.length/\∀f∈fs,∃k,RelV (kV k) f/\cA k=b
 |[],_=>⟨[],KatTups.nil,rfl,bF⟩
 |r::aM,ha=>by
  obtain⟨fs,t,l,g⟩:=aev (aM:=aM) λq hq=>ha q (fQ _ hq)
  obtain⟨⟨aK,v,o,e,c,n,d⟩,s⟩:=ha r eV
  obtain⟨a,ks⟩:=r
  cases ks with
  |nil=>cases s
  |cons k ks=>
   cases v with
   |@cons _ u _ us v1 v2=>
    refine⟨u::fs,KatTups.cons e c d bF t,by simp[l],λf hf=>?_⟩
    rcases cg.mp hf with rfl|hf
    .exact⟨k,v1,(sG s).1⟩
    .exact g f hf
theorem acI(r:RelV (kV k) f)(e:cA k=b):Looks M h (typeOf f) (if b=aq then .type "int" else .type "str"):=by
 subst e;cases k with
 |inl i=>obtain⟨t,rfl⟩:=r;exact Looks.of_pure rfl
 |inr i=>obtain⟨t,rfl⟩:=r;exact Looks.of_pure rfl
theorem VD(aM:List Row)(hi:i<aM.length):(aM.map λr=>dJ r.1).getD i j6=.ref aM[i].1:=by simp[pR,hi]
def rowAt(aM:List Row)(i:Nat):List Key:=((aM[i]?).map (·.2)).getD []
theorem acJ{w:dD}{A:iz}{s':aZ}{aM:List Row}{b:Bool}(ha:∀r∈aM,TupAt s'.heap r/\r.2.map cA=b::sh)(h0:0<aM.length)(Q:SortKind->aZ->Prop)(q:Q (tuples' aq) s'):
  aQ (model prog w) A (keyKind' (aM.map λr=>dJ r.1).toArray) Q (λ_ _=>False) s':=by
 obtain⟨fs,t,l,g⟩:=aev ha
 refine kat_kind (T:=if b=aq then .type "int" else .type "str") t az (λv hv=>?_) (by cases b<;>rfl) (by cases b<;>exact q)
 obtain⟨k,r,e⟩:=g v hv
 exact acI r e
theorem ao0(ha:∀r∈aM,TupAt s'.heap r/\r.2.map cA=sh)(hi:i<aM.length)(hj:j<aM.length)(C:Bool->aZ->Prop)(q:C (eF (rowAt aM i) (rowAt aM j)) s'):
  kas_ask prog w A (tuples' aq) (aM.map λr=>dJ r.1) i j C s':=by
 obtain⟨⟨aK,v,o,e,c,n,d⟩,s1⟩:=ha aM[i] (vR hi)
 obtain⟨⟨its2,v2,o2,e2,c2,n2,d2⟩,s2⟩:=ha aM[j] (vR hj)
 unfold kas_ask;rw[VD aM hi,VD aM hj];have l1:=v.length;have l2:=v2.length;have l3:aM[i].2.length=aM[j].2.length:=by
  have:=congrArg vY (s1.trans s2.symm);simpa using this
 refine kat_lt e d e2 d2 ?_;have ez:decide (aK.toArray.size<its2.toArray.size)=aA:=by
  rw[jy];simp only[gK];rw[bD] at l1 l2;lia
 rw[ez];have q':C (eF aM[i].2 aM[j].2) s':=by
  unfold rowAt at q;rw[fU hi,fU hj] at q;exact q
 exact ado (by simpa using v) (by simpa using v2) (s1.trans s2.symm) q'
theorem Vc{aM:List Row}{p:List Nat}(h:p.Perm (dh aM.length)):(p.map λi=>aM.getD i (0,[])).Perm aM:=by
 have e:(dh aM.length).map (λi=>aM.getD i (0,[]))=aM:=DK bF λi h1 h2=>by simp[pR,h2]
 exact(h.map _).trans (by rw[e])
theorem acK{aM:List Row}{p:List Nat}(h:p.Perm (dh aM.length)):(p.map λi=>(aM.map λr=>dJ r.1).getD i j6)=(p.map λi=>aM.getD i (0,[])).map λr=>dJ r.1:=by
 rw[fj];refine vO λi hi=>?_
 have hlt:=qZ.mp (h.mem_iff.mp hi);rw[VD aM hlt];simp[pR,hlt]
theorem WM:∀{aM:List Row}{us:List aL},Vals (aM.map λr=>V.ref r.1) us->us=aM.map λr=>dJ r.1
 |[],_,h=>by cases h;rfl
 |r::aM,_,h=>by
  cases h with
  |cons a b=>
   cases a;rw[WM b];rfl
theorem Vd:∀(aM:List Row),Vals (aM.map λr=>V.ref r.1) (aM.map λr=>dJ r.1)
 |[]=>.nil
 |r::aM=>.cons rfl (Vd aM)
theorem anC(A:iz)(s:aZ)(ra:RelV (kV a) u)(rb:RelV (kV b) v)(ht:cA a=cA b):Ur A s u v (decide (a=b)):=by
 rw[<-WL ht];exact Pb ra rb (Ey a) (Ey b)
theorem adt(A:iz)(s:aZ)(ra:RelV (kV a) u)(rb:RelV (kV b) v)(ht:cA a=cA b)(prog:fV)(w:dD)(E:aL->aZ->Prop)(Q:aL->aZ->Prop)(h:Q (.bool (kLt a b)) s):
  aQ (model prog w) A (Ed .Lt u v) Q E s:=by
 cases a with
 |inl i=>
  cases b with
  |inr y=>cases ht
  |inl j=>
   obtain⟨t,rfl⟩:=ra
   obtain⟨t',rfl⟩:=rb
   exact(lt_int h:aQ (model prog w) A (gM .Lt _ _) Q E s)
 |inr x=>
  cases b with
  |inl y=>cases ht
  |inr y=>
   obtain⟨t,rfl⟩:=ra
   obtain⟨t',rfl⟩:=rb
   exact(lt_str h:aQ (model prog w) A (gM .Lt _ _) Q E s)
section
open PySem.SeqAt
open PySem.AutoSeq1 (wpAny_loadPart')
open PySem.MeetsSeq PySem.MeetsSeq2 PySem.MeetsSeq3
theorem ajQ(l b:aH)(items items2:Array aL)(n n2:Nat)(dd dd2:Option aH)(sl sl2:Array (Option aL))(ns ms:List Key)(hi:Vals (ns.map kV) items.toList)(hj:Vals (ms.map kV) items2.toList)(hty:ns.map cA=ms.map cA):
  Meets (mq.«tuple.__lt__» ⟨[.ref l,.ref b],[]⟩)
   (λ_ R s=>s.heap.get? l=aa {cls:=.type "tuple",dict:=dd,data:=.seq items n,slots:=sl}/\s.heap.get? b=aa {cls:=.type "tuple",dict:=dd2,data:=.seq items2 n2,slots:=sl2}/\R (.ok (.ret (.bool (eF ns ms)))) s):=
 .of_wp λprog w A R s h=>by
  obtain⟨hp,g,d,tk,os⟩:=s;obtain⟨hl,hb,h⟩:=h
  have f2:=ahT;have z0:ns.length=ms.length:=by have:=congrArg vY hty;simpa using this
  have z1:items.size=ns.length:=by have:=hi.length;rw[bD] at this;simpa using this.symm
  have z2:items2.size=ms.length:=by have:=hj.length;rw[bD] at this;simpa using this.symm
  wp_walk using RW hl,RW hb,ai8 _ (λrest b s'=>b.1=ao/\s'=⟨hp,g,d,tk,os⟩/\∃(vs ws:List aL)(ns' ms':List Key),rest=vs.zip ws/\
   Vals (ns'.map kV) vs/\Vals (ms'.map kV) ws/\ns'.map cA=ms'.map cA/\R (.ok (.ret (.bool (eF ns' ms')))) ⟨hp,g,d,tk,os⟩) _
  case turn=>
   rintro⟨y,x⟩ rest b s' ⟨hb',rfl,vs,ws,ns',ms',hz,QW,hwi,hlen,hR⟩
   cases ns' with
   |nil=>cases QW;rw[List.zip_nil_left] at hz;cases hz
   |cons a ns'=>
    cases ms' with
    |nil=>cases hlen
    |cons c ms'=>
     cases QW with
     |cons r1 agI=>
      cases hwi with
      |cons r2 agJ=>
       rw[aag] at hz;injection hz with hyx hrest
       injection hyx with hy hx
       subst hy hx;have t1:cA a=cA c:=(sG hlen).1;have t2:=(sG hlen).2;unfold eF at hR;refine aJ (anC A.in1 ⟨hp,g,d,tk,os⟩ r1 r2 t1 prog w _ _ ?_);by_cases hac:a=c
       .rw[bC hac] at hR;rw[dW hac];wp_walk
        exact⟨rfl,rfl,_,_,_,_,hrest,agI,agJ,t2,hR⟩
       .rw[bB hac] at hR;rw[jy hac];have Ze:=adt A.in1 ⟨hp,g,d,tk,os⟩ r1 r2 t1 prog w;wp_walk using Ze
        exact⟨_,rfl,by simpa using hR⟩
  case fin=>
   rintro⟨b1,b2⟩ s' ⟨hb',rfl,vs,ws,ns',ms',hz,QW,hwi,hlen,hR⟩
   simp only at hb';subst hb';have hv:eF ns' ms'=decide (items.size<items2.size):=by
    rw[jy az];cases ns' with
    |nil=>unfold eF;rfl
    |cons a ns'=>
     cases ms' with
     |nil=>cases hlen
     |cons c ms'=>
      cases QW with
      |cons r1 agI=>
       cases hwi with
       |cons r2 agJ=>
        rw[aag] at hz;cases hz
   rw[hv] at hR;wp_walk
   exact⟨_,rfl,by simpa[avt] using hR⟩
  case h=>
   exact⟨rfl,rfl,items.toList,items2.toList,ns,ms,rfl,hi,hj,hty,h⟩
end
theorem alk(hl:IsTup s.heap l items)(hb:IsTup s.heap b items2)(hi:Vals (ns.map kV) items.toList)(hj:Vals (ms.map kV) items2.toList)(hty:ns.map cA=ms.map cA)
  (hu:A.units<iG)(h:Q (.bool (eF ns ms)) s):aQ (model prog w) A (gM .Lt (.ref l) (.ref b)) Q E s:=by
 obtain⟨⟨cls,dd,data,sl⟩,ho,hc,n,hd⟩:=id hl
 obtain⟨⟨cls2,dd2,data2,sl2⟩,ho2,hc2,n2,hd2⟩:=id hb
 simp only at hc hd hc2 hd2;subst hc hd hc2 hd2;exact ah1 (op:=.Lt) ⟨_,ho,rfl⟩ ⟨_,ho2,rfl⟩ PySem.F.slot_tuple_lt PySem.F.entry_tuple_lt (PySem.F.args_tuple_lt_2 _ _) (ajQ l b items items2 n n2 dd dd2 sl sl2 ns ms hi hj hty)
  ⟨ho,ho2,show uU (eF ns ms)≠Z8/\Q (.bool (eF ns ms)) s from⟨(λx=>nomatch x),h⟩⟩ hu
mutual
def RX(H:Hp):aB->V->Prop
 |.none,v=>v=.non
 |.bool b,v=>v=.bl b
 |.int i,v=>v=.int i
 |.str x,v=>v=.str x
 |.list ds,v=>∃a vs,v=.ref a/\H a=aa (.lst vs)/\yV H ds vs
 |.tuple ds,v=>∃a vs,v=.ref a/\H a=aa (.tup vs)/\yV H ds vs
 |.dict _,_=>False
def yV(H:Hp):List aB->List V->Prop
 |[],vs=>vs=[]
 |d::ds,vs=>∃v r,vs=v::r/\RX H d v/\yV H ds r
end
mutual
theorem RX.rd{K:bw}:∀{d:aB}{v:V},RX H d v->RD K H d v
 |.none,_,h=>h
 |.bool _,_,h=>h
 |.int _,_,h=>h
 |.str _,_,h=>h
 |.list ds,_,h=>by
  obtain⟨a,vs,e,q,r⟩:=h
  exact⟨a,vs,e,cj.of q,yV.rd r⟩
 |.tuple ds,_,h=>by
  obtain⟨a,vs,e,q,r⟩:=h
  exact⟨a,vs,e,dg.of q,yV.rd r⟩
theorem yV.rd{K:bw}:∀{ds:List aB}{vs:List V},yV H ds vs->rN K H ds vs
 |[],_,h=>h
 |d::ds,vs,h=>by
  obtain⟨v,r,e,q,t⟩:=h
  exact⟨v,r,e,RX.rd q,yV.rd t⟩
end
def J8:aB->aL
 |.none=>.type "NoneType"
 |.bool _=>.type "bool"
 |.int _=>.type "int"
 |.str _=>.type "str"
 |.list _=>.type "list"
 |.tuple _=>.type "tuple"
 |.dict _=>.type "dict"
theorem RX.ty{K:bw}{v:V}(h:RX H d v):pK K H v (J8 d):=by
 cases d with
 |none=>cases(show v=.non from h);exact .non
 |bool b=>cases(show v=.bl b from h);exact .bl b
 |int i=>cases(show v=.int i from h);exact .int i
 |str x=>cases(show v=.str x from h);exact .str x
 |list ds=>obtain⟨a,vs,rfl,e,_⟩:=h;exact .lst e
 |tuple ds=>obtain⟨a,vs,rfl,e,_⟩:=h;exact .tup e
 |dict ds=>exact(show False from h).elim
theorem alm(hu:X.A.units<iG):dR X (gM .Lt) (λx y H Q=>∃a b ks js,x=.ref a/\y=.ref b/\H a=aa (.tup (ks.map kV))/\H b=aa (.tup (js.map kV))/\ks.map cA=js.map cA/\Q (.bl (eF ks js)) H):=by
 intro au s σ H x y v u Q I rx ry h
 obtain⟨a,b,ks,js,rfl,rfl,ha,hb,ht,q⟩:=h
 cases rx;cases ry
 obtain⟨_,aK,r1,p1⟩:=(show gn X.prog X.w H s.heap a (.tup (ks.map kV)) from I.hok a _ ha)
 obtain⟨_,its2,r2,p2⟩:=(show gn X.prog X.w H s.heap b (.tup (js.map kV)) from I.hok b _ hb)
 exact alk p1 p2 (by simpa using r1) (by simpa using r2) ht hu (jf I q rfl)
theorem Uw(hu:X.A.units<iG):dR X (gM .Lt) (λx y H Q=>(∃a b,x=kV a/\y=kV b/\cA a=cA b/\Q (.bl (kLt a b)) H)\/∃a b ks js,x=.ref a/\y=.ref b/\H a=aa (.tup (ks.map kV))/\H b=aa (.tup (js.map kV))/\ks.map cA=js.map cA/\Q (.bl (eF ks js)) H):=by
 refine dR.or ?_ (alm hu);intro au s σ H x y v u Q I rx ry h
 obtain⟨a,b,rfl,rfl,ht,q⟩:=h
 exact adt X.A s rx ry ht _ _ _ _ (jf I q rfl)
structure Ord(lt:Nat->Nat->Bool):Prop where
 Gx:∀a b,lt a b=aq->lt b a=aA
 trans:∀a b c,lt b a=aA->lt c b=aA->lt c a=aA
section
variable{N:Nat}{lt:Nat->Nat->Bool}(O:Ord lt)
abbrev at0(p:Array Nat)(i:Nat):Nat:=p.getD i 0
def Up(lt:Nat->Nat->Bool)(p:Array Nat)(n:Nat):Prop:=∀i j,i<j->j<n->lt (at0 p j) (at0 p i)=aA
def Dn(lt:Nat->Nat->Bool)(p:Array Nat)(n:Nat):Prop:=∀i j,i<j->j<n->lt (at0 p i) (at0 p j)=aA
def Lk(lt:Nat->Nat->Bool)(p:Array Nat)(i j:Nat):Prop:=∀a b,i<=a->a<j->i<=b->b<j->lt (at0 p a) (at0 p b)=aA
theorem yo(p:Array Nat)(i:Nat):at0 p i=(p[i]?).getD 0:=vL
theorem zY(hj:j<=p.size)(k:Nat):at0 (kas_rev p i j) k=if i<=k/\k<j then at0 p (i+j-1-k) else at0 p k:=by
 rw[yo,yo,yo];unfold kas_rev;rw[getElem?_mirror_all hj];split<;>rfl
theorem afs(hk:k<p.size)(hl:l<=k)(x:Nat):at0 (bubble p k (k-l)) x=if x=l then at0 p k else if l<x/\x<=k then at0 p (x-1) else at0 p x:=by
 rw[yo,yo,yo,yo,getElem?_bubble hk (k-l) az];have e:k-(k-l)=l:=az;rw[e];split
 .rfl
 .split<;>rfl
theorem KP.size(h:KP N p):p.size=N:=by
 have:=h.length_eq;rw[oK] at this;simpa using this
include O
theorem Ord.GP(a:Nat):lt a a=aA:=by
 cases e:lt a a with
 |false=>rfl
 |true=>rw[O.Gx a a e] at e;cases e
theorem Up.succ(h:Up lt p n)(hn:1<=n)(hs:lt (at0 p n) (at0 p (n-1))=aA):Up lt p (n+1):=λi j hij hj=>by
 by_cases e:j<n
 .exact h i j hij e
 .have ej:j=n:=az;subst ej;by_cases ei:i=j-1
  .rw[ei];exact hs
  .exact O.trans _ _ _ (h i (j-1) az az) hs
theorem Dn.succ(h:Dn lt p n)(hn:1<=n)(hs:lt (at0 p (n-1)) (at0 p n)=aA):Dn lt p (n+1):=λi j hij hj=>by
 by_cases e:j<n
 .exact h i j hij e
 .have ej:j=n:=az;subst ej;by_cases ei:i=j-1
  .rw[ei];exact hs
  .exact O.trans _ _ _ hs (h i (j-1) az az)
theorem Dn.like(h:Dn lt p n)(l:Lk lt p i j)(hj:j<=p.size)(hn:j<=n):Dn lt (kas_rev p i j) n:=λa b hab hb=>by
 rw[zY hj,zY hj];by_cases ha:i<=a/\a<j
 .rw[bC ha];by_cases hb':i<=b/\b<j
  .rw[bC hb'];exact l _ _ az az az az
  .rw[bB hb'];exact h _ _ az az
 .rw[bB ha];by_cases hb':i<=b/\b<j
  .rw[bC hb'];exact h _ _ az az
  .rw[bB hb'];exact h _ _ az az
theorem Dn.turn(h:Dn lt p n)(hn:n<=p.size):Up lt (kas_rev p 0 n) n:=λa b hab hb=>by
 rw[zY hn,zY hn,bC ⟨az,az⟩,bC ⟨az,az⟩];exact h _ _ az az
theorem Xr(h:KP N p)(h0:0<N):∀f n,1<=n->Up lt p n->eU N lt (kas_asc p f n) λm=>Up lt p m/\n<=m/\m<=n+f/\(m=n+f\/lt (at0 p m) (at0 p (m-1))=aq)
 |0,n,hn,u=>⟨u,bU _,bU _,.inl rfl⟩
 |f+1,n,hn,u=>by
  refine⟨h.ix h0 _,h.ix h0 _,?_⟩
  dsimp only;split
  .rename_i e
   exact⟨u,bU _,az,.inr e⟩
  .rename_i e
   refine(Xr h h0 f (n+1) az (u.succ O hn (by simpa using e))).mono λm hm=>?_
   obtain⟨a,b,c,d⟩:=hm
   refine⟨a,az,az,?_⟩
   rcases d with d|d
   .left;lia
   .exact .inr d
theorem Oi(h0:0<N):∀f (p:Array Nat) n q,KP N p->1<=n->q<n->n+f<=N->Dn lt p n->Lk lt p (n-(q+1)) n->eU N lt (kas_desc f p n q) λr=>KP N r.1/\1<=r.2.1/\r.2.2<r.2.1/\r.2.1<=n+f/\Dn lt r.1 r.2.1/\Lk lt r.1 (r.2.1-(r.2.2+1)) r.2.1
 |0,p,n,q,h,hn,hq,hf,d,l=>⟨h,hn,hq,bU _,d,l⟩
 |f+1,p,n,q,h,hn,hq,hf,d,l=>by
  have sz:=h.size;have one:∀(p:Array Nat),Lk lt p (n+1-(0+1)) (n+1):=λp a b h1 h2 h3 h4=>by
   have e1:a=n:=az;have e2:b=n:=az;rw[e1,e2];exact O.GP _
  refine⟨h.ix h0 _,h.ix h0 _,?_⟩
  dsimp only;split
  .rename_i e;have e':lt (at0 p (n-1)) (at0 p n)=aA:=O.Gx _ _ e;split
   .have hj:n<=p.size:=az;have dl:=d.like O l hj (bU _);have hs:lt (at0 (kas_rev p (n-(q+1)) n) (n-1)) (at0 (kas_rev p (n-(q+1)) n) n)=aA:=by
     rw[zY hj,zY hj,bC ⟨az,az⟩,bB az];exact O.trans _ _ _ e' (l _ _ az az az az)
    refine(Oi h0 f _ (n+1) 0 (h.rev _ _) az az az (dl.succ O hn hs) (one _)).mono λr hr=>?_
    obtain⟨a1,a2,a3,a4,a5,a6⟩:=hr
    exact⟨a1,a2,a3,az,a5,a6⟩
   .refine(Oi h0 f _ (n+1) 0 h az az az (d.succ O hn e') (one _)).mono λr hr=>?_
    obtain⟨a1,a2,a3,a4,a5,a6⟩:=hr
    exact⟨a1,a2,a3,az,a5,a6⟩
  .rename_i e;have e1:lt (at0 p n) (at0 p (n-1))=aA:=by simpa using e
   refine⟨h.ix h0 _,h.ix h0 _,?_⟩
   dsimp only;split
   .exact⟨h,hn,hq,(by show n<=n+(f+1);lia),d,l⟩
   .rename_i e';have e2:lt (at0 p (n-1)) (at0 p n)=aA:=by simpa using e'
    have l2:Lk lt p (n+1-(q+1+1)) (n+1):=λa b h1 h2 h3 h4=>by
     have e3:n+1-(q+1+1)=n-(q+1):=az;rw[e3] at h1 h3;by_cases ha:a=n
     .by_cases hb:b=n
      .rw[ha,hb];exact O.GP _
      .rw[ha];exact O.trans _ _ _ (l (n-1) b az az az az) e1
     .by_cases hb:b=n
      .rw[hb];exact O.trans _ _ _ e2 (l a (n-1) az az az az)
      .exact l a b az az az az
    refine(Oi h0 f _ (n+1) (q+1) h az az az (d.succ O hn e2) l2).mono λr hr=>?_
    obtain⟨a1,a2,a3,a4,a5,a6⟩:=hr
    exact⟨a1,a2,a3,az,a5,a6⟩
theorem adu(h0:0<N)(h:KP N p)(n:Nat)(hn:1<=n)(hN:n<=N)(d:Dn lt p n):eU N lt (kas_tail3 n N p) λr=>KP N r.2/\Up lt r.2 r.1/\1<=r.1/\r.1<=N:=by
 have sz:=h.size;refine eU.bind ((Xr O (h.rev 0 n) h0 (N-n) n hn (d.turn O az)).mono λm hm=>?_)
 exact⟨h.rev 0 n,hm.1,az,az⟩
theorem abP(h0:0<N)(h:KP N p)(n:Nat)(hn:1<=n)(hN:n+1<=N)(d:Dn lt p (n+1)):eU N lt (kas_descPart n N p) λr=>KP N r.2/\Up lt r.2 r.1/\1<=r.1/\r.1<=N:=by
 have l0:Lk lt p (n+1-(0+1)) (n+1):=λa b h1 h2 h3 h4=>by
  have e1:a=n:=az;have e2:b=n:=az;rw[e1,e2];exact O.GP _
 refine eU.bind ((Oi O h0 (N-(n+1)) p (n+1) 0 h az az az d l0).mono λr hr=>?_)
 obtain⟨a1,a2,a3,a4,a5,a6⟩:=hr
 have sz:=a1.size;split
 .exact adu O h0 (a1.rev _ _) _ a2 az (a5.like O a6 az (bU _))
 .exact adu O h0 a1 _ a2 az a5
theorem anD(h0:0<N)(h:KP N p):eU N lt (kas_count N p) λr=>KP N r.2/\Up lt r.2 r.1/\1<=r.1/\r.1<=N:=by
 have sz:=h.size;refine eU.bind ((Xr O h h0 (N-1) 1 (bU _) (λi j hij hj=>absurd hj az)).mono λn hn=>?_)
 obtain⟨u,h1,h2,h3⟩:=hn
 split
 .rename_i e;have:=eq_of_beq e
  exact⟨h,u,h1,by show n<=N;lia⟩
 .rename_i e;have en:n≠N:=λx=>e (by rw[x];simp)
  have hl:lt (at0 p n) (at0 p (n-1))=aq:=by
   rcases h3 with h3|h3
   .lia
   .exact h3
  have hl':=O.Gx _ _ hl;split
  .refine⟨h.ix h0 _,h.ix h0 _,?_⟩
   dsimp only;split
   .exact⟨h,u,h1,by show n<=N;lia⟩
   .rename_i e';have e1:lt (at0 p 0) (at0 p (n-1))=aA:=by simpa using e'
    have like:Lk lt p 0 n:=λa b _ ha _ hb=>by
     have g1:lt (at0 p a) (at0 p 0)=aA:=by
      by_cases hz:a=0
      .rw[hz];exact O.GP _
      .exact u 0 a az ha
     have g2:lt (at0 p (n-1)) (at0 p b)=aA:=by
      by_cases hz:b=n-1
      .rw[hz];exact O.GP _
      .exact u b (n-1) az az
     have g3:lt (at0 p 0) (at0 p b)=aA:=O.trans (at0 p b) (at0 p (n-1)) (at0 p 0) g2 e1;have g4:lt (at0 p a) (at0 p (n-1))=aA:=by
      by_cases hz:a=n-1
      .rw[hz];exact O.GP _
      .cases q:lt (at0 p a) (at0 p (n-1)) with
       |false=>rfl
       |true=>
        exfalso;have k1:lt (at0 p 0) (at0 p (n-1))=aA:=e1;have k2:lt (at0 p a) (at0 p 0)=aA:=g1;have:=O.trans (at0 p (n-1)) (at0 p 0) (at0 p a) k1 k2;rw[this] at q;cases q
     exact O.trans (at0 p b) (at0 p (n-1)) (at0 p a) g2 g4
    have dn:Dn lt p n:=λi j hij hj=>like i j (j5 _) az (j5 _) hj
    have dr:=dn.like O like az (bU _);refine abP O h0 (h.rev 0 n) n h1 az (dr.succ O h1 ?_);rw[zY az,zY az,bC ⟨az,az⟩,bB az];exact O.trans _ _ _ hl' (like _ _ az az az az)
  .have e1:n=1:=az;subst e1;refine abP O h0 h 1 (bU _) az λi j hij hj=>?_
   have ei:i=0:=az;have ej:j=1:=az;rw[ei,ej];exact hl'
theorem VF(h0:0<N)(h:KP N p)(k:Nat)(u:Up lt p k):∀f l r,l<=r->r<=k->r-l<=f->(∀i,i<l->lt (at0 p k) (at0 p i)=aA)->(∀i,r<=i->i<k->lt (at0 p i) (at0 p k)=aA)->
  eU N lt (kas_place p k f l r) λm=>m<=k/\(∀i,i<m->lt (at0 p k) (at0 p i)=aA)/\∀i,m<=i->i<k->lt (at0 p i) (at0 p k)=aA
 |0,l,r,hlr,hr,hf,g1,g2=>by
  have e:l=r:=az;subst e
  exact⟨hr,g1,g2⟩
 |f+1,l,r,hlr,hr,hf,g1,g2=>by
  unfold kas_place;split
  .have e:l=r:=az;subst e
   exact⟨hr,g1,g2⟩
  .refine⟨h.ix h0 _,h.ix h0 _,?_⟩
   dsimp only;split
   .rename_i e;have e':=O.Gx _ _ e;refine VF h0 h k u f l ((l+r) / 2) az az az g1 λi hi hk=>?_
    by_cases hz:i=(l+r) / 2
    .rw[hz];exact e'
    .exact O.trans _ _ _ e' (u _ i az hk)
   .rename_i e;have e':lt (at0 p k) (at0 p ((l+r) / 2))=aA:=by simpa using e
    refine VF h0 h k u f ((l+r) / 2+1) r az hr az (λi hi=>?_) g2;by_cases hz:i=(l+r) / 2
    .rw[hz];exact e'
    .exact O.trans _ _ _ (u i _ az az) e'
theorem aft(h0:0<N):∀f (p:Array Nat) k,KP N p->k+f<=N->Up lt p k->eU N lt (kas_bin f p k) λr=>KP N r/\Up lt r (k+f)
 |0,p,k,h,hk,u=>⟨h,u⟩
 |f+1,p,k,h,hk,u=>by
  have sz:=h.size;refine eU.bind ((VF O h0 h k u k 0 k (j5 _) (bU _) az (λi hi=>absurd hi (R0 _)) (λi h1 h2=>absurd h2 az)).mono λl hl=>?_)
  obtain⟨hlk,g1,g2⟩:=hl
  have ub:Up lt (bubble p k (k-l)) (k+1):=λi j hij hj=>by
   rw[afs az hlk,afs az hlk];by_cases hi:i=l
   .rw[bB az,bC ⟨az,az⟩,bC hi];exact g2 _ az az
   .by_cases hj':j=l
    .rw[bC hj',bB hi,bB az];exact g1 _ az
    .by_cases hli:l<i
     .rw[bB hj',bC ⟨az,az⟩,bB hi,bC ⟨hli,az⟩];exact u _ _ az az
     .by_cases hlj:l<j
      .rw[bB hj',bC ⟨hlj,az⟩,bB hi,bB az];exact u _ _ az az
      .rw[bB hj',bB az,bB hi,bB az];exact u _ _ az az
  refine(aft h0 f _ (k+1) (h.bub _ _) az ub).mono λr hr=>?_
  have e:k+(f+1)=k+1+f:=az;rw[e];exact hr
theorem ao1(h0:0<N):eU N lt (kas_sort N) λp=>KP N p/\Up lt p N:=by
 refine eU.bind ((anD O h0 (p:=aki (dh N)) (xK _)).mono λr hr=>?_)
 obtain⟨a1,a2,a3,a4⟩:=hr
 split
 .have e:max r.1 1=r.1:=az;rw[e]
  refine(aft O h0 (N-r.1) r.2 r.1 a1 az a2).mono λp hp=>?_
  have e2:r.1+(N-r.1)=N:=az;rw[e2] at hp;exact hp
 .have e:r.1=N:=az;rw[e] at a2
  exact⟨a1,a2⟩
end
theorem WN(h:kLt a b=aq):kLt b a=aA:=by
 cases a with
 |inl i=>
  cases b with
  |inr y=>cases h
  |inl j=>have:=of_decide_eq_true h;exact jy az
 |inr x=>
  cases b with
  |inl y=>cases h
  |inr y=>exact KeyOrd.klt_asymm (O:=strKind.toKeyOrd) (a:=x.cps.toList) (b:=y.cps.toList) h
theorem afu(a:Key):kLt a a=aA:=by
 cases e:kLt a a with
 |false=>rfl
 |true=>rw[WN e] at e;cases e
theorem afv(t1:cA a=cA b)(t2:cA b=cA c)(h:kLt a c=aq):kLt a b=aq\/kLt b c=aq:=by
 cases a with
 |inl i=>
  cases b with
  |inr y=>cases t1
  |inl j=>
   cases c with
   |inr y=>cases t2
   |inl k=>
    have h1:=of_decide_eq_true h;by_cases h2:i<j
    .exact .inl (dW h2)
    .exact .inr (dW az)
 |inr x=>
  cases b with
  |inl y=>cases t1
  |inr y=>
   cases c with
   |inl k=>cases t2
   |inr z=>exact strKind.negTrans x.cps.toList y.cps.toList z.cps.toList h
theorem str_of_list{x y:Str}(h:x.cps.toList=y.cps.toList):x=y:=by
 cases x;cases y;simp at h;simp[h]
theorem Pg(t:cA a=cA b)(h1:kLt a b=aA)(h2:kLt b a=aA):a=b:=by
 cases a with
 |inl i=>
  cases b with
  |inr y=>cases t
  |inl j=>
   have g1:=of_decide_eq_false h1;have g2:=of_decide_eq_false h2;have:i=j:=az;rw[this]
 |inr x=>
  cases b with
  |inl y=>cases t
  |inr y=>
   have:=strKind.total x.cps.toList y.cps.toList h1 h2;rw[str_of_list this]
theorem aew:∀{a b:List Key},eF a b=aq->eF b a=aA
 |[],_,h=>by unfold eF at h;cases h
 |_::_,[],h=>by unfold eF at h;cases h
 |a::r,b::t,h=>by
  unfold eF at h⊢;by_cases e:a=b
  .rw[bC e] at h;rw[bC e.symm];exact aew h
  .rw[bB e] at h;rw[bB (kJ e)];exact WN h
theorem afw:∀{a b c:List Key},a.map cA=b.map cA->b.map cA=c.map cA->eF a c=aq->eF a b=aq\/eF b c=aq
 |[],_,_,_,_,h=>by unfold eF at h;cases h
 |_::_,_,[],_,_,h=>by unfold eF at h;cases h
 |_::_,[],_::_,t,_,_=>by cases t
 |a::r,b::u,c::t,t1,t2,h=>by
  have q1:=(sG t1).1;have q2:=(sG t2).1;have q3:=(sG t1).2;have q4:=(sG t2).2;by_cases e:a=c
  .subst e;have h':eF r t=aq:=by
    unfold eF at h
    rwa [bC rfl] at h
   by_cases e2:a=b
   .subst e2;rcases afw q3 q4 h' with g|g
    .left;unfold eF;rw[bC rfl];exact g
    .right;unfold eF;rw[bC rfl];exact g
   .cases g:kLt a b with
    |true=>left;unfold eF;rw[bB e2];exact g
    |false=>
     right;unfold eF;rw[bB (kJ e2)];cases g2:kLt b a with
     |true=>rfl
     |false=>exact absurd (Pg q1 g g2) e2
  .have h':kLt a c=aq:=by
    unfold eF at h
    rwa [bB e] at h
   rcases afv q1 q2 h' with g|g
   .left;unfold eF;rw[bB (λz=>by rw[z,afu] at g;cases g)];exact g
   .right;unfold eF;rw[bB (λz=>by rw[z,afu] at g;cases g)];exact g
theorem afx:∀{a b:List Key},a.map cA=b.map cA->eF a b=aA->eF b a=aA->a=b
 |[],[],_,_,_=>rfl
 |[],_::_,t,_,_=>by cases t
 |_::_,[],t,_,_=>by cases t
 |a::r,b::u,t,h1,h2=>by
  have q1:=(sG t).1;have q2:=(sG t).2;by_cases e:a=b
  .subst e;unfold eF at h1 h2;rw[bC rfl] at h1 h2;rw[afx q2 h1 h2]
  .unfold eF at h1 h2;rw[bB e] at h1;rw[bB (kJ e)] at h2;exact absurd (Pg q1 h1 h2) e
def wR(aM:List Row)(i:Nat):List Key:=(aM.getD i (aM.headD (0,[]))).2
def vh(aM:List Row)(i j:Nat):Bool:=eF (wR aM i) (wR aM j)
def runK{α:Type}(lt:Nat->Nat->Bool):KasT α->α
 |.ret a=>a
 |.ask i j k=>runK lt (k (lt i j))
theorem eU.run:∀{t:KasT α},eU N lt t R->eU N lt t (λa=>R a/\a=runK lt t)/\R (runK lt t)
 |.ret a,h=>⟨⟨h,rfl⟩,h⟩
 |.ask i j k,h=>let r:=eU.run h.2.2;⟨⟨h.1,h.2.1,r.1⟩,r.2⟩
def nA(ks:List (List Key)):List Nat:=if ks.length<2 then dh ks.length else(runK (λi j=>eF (ks.getD i (ks.headD [])) (ks.getD j (ks.headD []))) (kas_sort ks.length)).toList
def pM(ks:List (List Key)):List (List Key):=(nA ks).map λi=>ks.getD i (ks.headD [])
theorem M8(ks:List (List Key)):(nA ks).Perm (dh ks.length):=by
 unfold nA;split
 .exact xK _
 .exact(eU.run (aet (lt:=λi j=>eF (ks.getD i (ks.headD [])) (ks.getD j (ks.headD []))) az)).2
theorem acL(ks:List (List Key)):(pM ks).Perm ks:=by
 have:=(M8 ks).map λi=>ks.getD i (ks.headD [])
 refine this.trans (aaR ?_);refine DK bF λi h1 h2=>?_
 simp[h2]
theorem adw(aM:List Row)(i:Nat):wR aM i=(aM.map (·.2)).getD i ((aM.map (·.2)).headD []):=by
 unfold wR;cases h:aM[i]? with
 |none=>cases aM<;>simp_all [pR]
 |some r=>simp[pR,h]
theorem Ve(hn:n=aM.length)(h2:2<=n):eU n (vh aM) (kas_sort n) λp=>KP n p/\p.toList=nA (aM.map (·.2)):=by
 subst hn;have e:vh aM=λi j=>eF ((aM.map (·.2)).getD i ((aM.map (·.2)).headD [])) ((aM.map (·.2)).getD j ((aM.map (·.2)).headD [])):=by
  funext i j;rw[vh,adw,adw]
 refine(eU.run (aet (lt:=vh aM) (N:=aM.length) az)).1.mono λp hp=>⟨hp.1,?_⟩
 unfold nA;rw[bB (by rw[bD];lia),hp.2,e,bD]
theorem Ux{aM:List Row}(hn:n=aM.length)(h:n<2):dh n=nA (aM.map (·.2)):=by
 subst hn;unfold nA;rw[bC (by rw[bD];exact h),bD]
theorem aex{aM:List Row}(h:p.Perm (dh aM.length))(hr:p=nA (aM.map (·.2))):(p.map λi=>aM.getD i (0,[])).map (·.2)=pM (aM.map (·.2)):=by
 unfold pM;rw[<-hr,fj];refine vO λi hi=>?_
 have hlt:=qZ.mp (h.mem_iff.mp hi);simp[pR,hlt]
theorem adx(ha:∀r∈aM,TupAt s'.heap r/\r.2.map cA=sh)(hi:i<aM.length)(hj:j<aM.length)(C:Bool->aZ->Prop)(q:C (vh aM i j) s'):
  kas_ask prog w A (tuples' aq) (aM.map λr=>dJ r.1) i j C s':=by
 refine ao0 ha hi hj C ?_;have e1:wR aM i=rowAt aM i:=by simp[wR,rowAt,pR,hi]
 have e2:wR aM j=rowAt aM j:=by simp[wR,rowAt,pR,hj]
 unfold vh at q;rw[e1,e2] at q;exact q
theorem aiH:jm X (.builtin "sorted") (λxs H Q=>∃(p:aH)(aM:List Row)(b:Bool)(sh:List Bool),xs=[.ref p]/\cj X.K H p (aM.map λr=>V.ref r.1)/\aM.length<64/\(∀r∈aM,H r.1=aa (.tup (r.2.map kV))/\r.2.map cA=b::sh)/\
  ∀(l:aH)(rows':List Row),H l=ao->rows'.Perm aM->rows'.map (·.2)=pM (aM.map (·.2))->Q (.ref l) (upd H l (.lst (rows'.map λr=>V.ref r.1)))):=by
 intro au s σ H xs us Q I r h
 obtain⟨p,aM,b,sh,rfl,hp,h64,ha,q⟩:=h
 obtain⟨u,rfl,ru⟩:=vals1 r
 cases ru
 obtain⟨aK,rv,pl,_⟩:=I.list hp
 have e0:=WM rv;subst e0;have tu:∀r∈aM,TupAt s.heap r/\r.2.map cA=b::sh:=λr hr=>by
  obtain⟨_,aK,v,t⟩:=(show gn X.prog X.w H s.heap r.1 (.tup (r.2.map kV)) from I.hok r.1 _ (ha r hr).1)
  exact⟨⟨aK,v,t⟩,(ha r hr).2⟩
 refine Ud (κ:=tuples' aq) (lt:=vh aM) (vs:=aM.map λr=>dJ r.1) (Rl:=λp=>p=nA (aM.map (·.2))) (by simpa using h64) (λh2=>Ve (by rw[bD]) h2) (λh2=>Ux (by rw[bD]) h2) (λR hR=>?_) (λh2 s' k Q' q'=>acJ (λr hr=>⟨(tu r hr).1.keep k,(tu r hr).2⟩) (by rw[bD] at h2;lia) Q' q')
  (λh2 s' k i j hi hj C q'=>adx (sh:=b::sh) (λr hr=>⟨(tu r hr).1.keep k,(tu r hr).2⟩) (by simpa using hi) (by simpa using hj) C q') λp D h' c tk hp' hrl hD k e=>?_
 .refine collect_list pl.isList (hR _ _ s.toks ?_ (λb o e=>?_) rfl)
  .rw[ai9,size_push'];lia
  .have hlt:b≠s.heap.objs.size:=gj (cL e);rw[aio _ _ _ _ hlt];exact cG _ e
 .rw[bD] at hp';rw[acK hp'] at e
  refine⟨.ref D,_,I.laid (o:=.lst ((p.map λi=>aM.getD i (0,[])).map λr=>V.ref r.1)) k hD ⟨?_,_,c,Vd _,by simpa[seqObj] using e⟩,rfl,q D _ (I.hok.fresh hD) (Vc hp') (aex hp' hrl)⟩
  rw[bD,bD,hp'.length_eq,oK,lN];lia
theorem aaS(hc:X.calm=aq):jm X (.builtin "sorted") (λxs H Q=>∃(d:aH)(aC:List (List Key×V))(b:Bool)(sh:List Bool),xs=[.ref d]/\Dm H d aC/\aC.length<64/\(∀kv∈aC,kv.1.map cA=b::sh)/\
  ∀(l:aH)(aM:List Row),H l=ao->(aM.map (·.2)).Perm (aC.map (·.1))->aM.map (·.2)=pM (aC.map (·.1))->(∀r∈aM,H r.1=aa (.tup (r.2.map kV)))->Q (.ref l) (upd H l (.lst (aM.map λr=>V.ref r.1)))):=by
 intro au s σ H xs us Q I r h
 obtain⟨d,aC,b,sh,rfl,hd,h64,ha,q⟩:=h
 obtain⟨u,rfl,ru⟩:=vals1 r
 cases ru
 obtain⟨z,lo,ys,rel,o,es,ep,g1,g2,g3,g4,g5,g6⟩:=Aa I.hok hd
 have raw:vA s.heap d es ep:=⟨o,g1,g2,g3⟩
 obtain⟨aM,r1,r2,r3⟩:∃aM:List Row,aM.map (·.2)=aC.map (·.1)/\(∀r∈aM,H r.1=aa (.tup (r.2.map kV)))/\es.toList.map (·.key)=aM.map λr=>dJ r.1:=by
  clear g5 g6 h64 ha q z hd;rw[g4];clear g4 raw g3;induction rel with
  |nil=>exact⟨[],rfl,bF,rfl⟩
  |@cons p q ps qs h t ih=>
   obtain⟨aM,a1,a2,a3⟩:=ih
   refine⟨(q.2.1,p.1)::aM,by simp[a1],λr hr=>?_,?_⟩
   .rcases cg.mp hr with rfl|hr
    .exact h.2.1
    .exact a2 r hr
   .rw[dU,dU,a3];rfl
 have hlen:aM.length=aC.length:=by
  have:=congrArg vY r1;simpa using this
 have hes:es.size=aM.length:=by
  have:=congrArg vY r3;simpa using this
 have tu:∀r∈aM,TupAt s.heap r/\r.2.map cA=b::sh:=λr hr=>by
  obtain⟨_,aK,v,t⟩:=(show gn X.prog X.w H s.heap r.1 (.tup (r.2.map kV)) from I.hok r.1 _ (r2 r hr))
  have:r.2∈aC.map (·.1):=by rw[<-r1];exact cY.mpr ⟨r,hr,rfl⟩
  obtain⟨kv,hk,e⟩:=cY.mp this
  exact⟨⟨aK,v,t⟩,by rw[<-e];exact ha kv hk⟩
 refine Ud (κ:=tuples' aq) (lt:=vh aM) (vs:=aM.map λr=>dJ r.1) (Rl:=λp=>p=nA (aM.map (·.2))) (by rw[bD];lia) (λh2=>Ve (by rw[bD]) h2) (λh2=>Ux (by rw[bD]) h2) (λR hR=>?_) (λh2 s' k Q' q'=>acJ (λr hr=>⟨(tu r hr).1.keep k,(tu r hr).2⟩) (by rw[bD] at h2;lia) Q' q')
  (λh2 s' k i j hi hj C q'=>adx (sh:=b::sh) (λr hr=>⟨(tu r hr).1.keep k,(tu r hr).2⟩) (by simpa using hi) (by simpa using hj) C q') λp D h' c tk hp' hrl hD k e=>?_
 .refine akR (aoZ (es:=es) (ep:=ep) lo) (I.ok.hd hc) raw (by rw[lN];lia) λh' tk bJ hsz kk hacc=>hR _ h' tk hsz kk ?_
  refine aiI λi=>?_
  by_cases hi:i<es.size
  .have e1:bJ.size=es.size:=hacc.1;have:=hacc.2 i (bJ[i]'az) (by simp[e1,hi]);rw[G9,mY az];rw[<-this,<-r3,jC,G9]
  .have e1:bJ.size=es.size:=hacc.1;rw[KQ (by simp;lia),KQ (by simp;lia)]
 .rw[bD] at hp';rw[acK hp'] at e
  refine⟨.ref D,_,I.laid (o:=.lst ((p.map λi=>aM.getD i (0,[])).map λr=>V.ref r.1)) k hD ⟨?_,_,c,Vd _,by simpa[seqObj] using e⟩,rfl,q D _ (I.hok.fresh hD) (((Vc hp').map _).trans (by rw[r1])) ((aex hp' hrl).trans (by rw[r1])) λr hr=>r2 r ((Vc hp').mem_iff.mp hr)⟩
  rw[bD,bD,hp'.length_eq,oK,lN];lia
abbrev Yw:=List (Option aB)
def er(Z:List aH)(H:Hp):Hp:=λb=>if b∈Z then ao else H b
theorem jt(h:er Z H b=aa o):H b=aa o:=by
 unfold er at h;split at h
 .cases h
 .exact h
theorem Gk(Z:List aH)(H:Hp):cO (er Z H) H:=λb o h=>jt h
theorem Oj(s:cO H H'):cO (er Z H) (er Z H'):=λb o h=>by
 unfold er at h⊢;split at h
 .cases h
 .rename_i n;rw[bB n];exact s _ _ h
theorem aqQ(H:Hp):er [] H=H:=by
 funext b;simp[er]
end L2
namespace HT
open PySem PySem.Spec PyProof.Rows
theorem aip{t sl:aH}{vl vu:aL}{lo hi:Option Int}(ht:IsTup s.heap t items)(hs:s.heap.IsSliceOf sl vl vu .none)(pl:wJ vl lo)(pu:wJ vu hi)
  (hw:cQ items.size 0 lo=0/\cQ items.size items.size hi=items.size)(h:Q (.ref t) s):aQ (model prog w) A (zQ (.ref t) (.ref sl)) Q E s:=by
 obtain⟨os,hos,hcs,hds⟩:=id hs
 have hTs:s.TypeIs (.ref sl) "slice":=⟨os,hos,hcs⟩
 unfold zQ
 try with_reducible refine nF ?_
 first|refine aJ (bz ?_)|skip
 refine aJ (aiF ht.typeIs bA ?_);refine aJ (uL (name:=bI "__getitem__") ht.typeIs Q8
  (oZ Q8 ht.typeIs entry_tuple_getitem ?_ (args_tuple_getitem _ _)))
 show aQ _ _ (ahO (.ref t) >>= _) _ _ s;refine aJ (tupleItemsOf_ ht ?_);refine aJ (Mj hTs ?_);rw[bC bA];refine aJ (aaE hs pl pu ?_);have hyes:((((cQ items.size 0 lo:Nat):Int)==0&&(1:Int)==1&&(cQ items.size items.size hi-cQ items.size 0 lo)==items.size)=aq):=by
  rw[hw.1,hw.2];simp
 show aQ _ _ (if(((cQ items.size 0 lo:Nat):Int)==0&&(1:Int)==1&&(cQ items.size items.size hi-cQ items.size 0 lo)==items.size)=aq then _ else _) _ _ s;rw[bC hyes];unfold avy;refine aJ (aJ (Mj ht.typeIs (bz ?_)));rw[bC bA];refine aJ (ug ?_);exact bz ⟨_,rfl,bz h⟩
end HT
namespace L2
open PySem PySem.Spec PyProof.Rows PySem.W
section
variable{X:Cx}
def atk(K:bw):V->Option Int->Option Int->Hp->VK->Prop:=λx lo hi H Q=>∃a xs,x=.ref a/\dg K H a xs/\(vq xs lo hi=xs->Q (.ref a) H)/\∀p,H p=ao->Q (.ref p) (upd H p (.tup (vq xs lo hi)))
theorem ao2:yR X (atk X.K):=by
 intro au s σ H x v vl vu lo hi sl Q I rx hs pl pu h
 obtain⟨a,xs,rfl,hx,q1,q2⟩:=h
 by_cases hw:HT.cQ xs.length 0 lo=0/\HT.cQ xs.length xs.length hi=xs.length
 .cases rx
  obtain⟨aK,r,ht,hz⟩:=I.tuple hx
  have hlen:aK.toArray.size=xs.length:=by rw[gK];exact r.length.symm
  refine⟨"tuple",_,PyProof.Rows.slot_tuple_getitem.lookup,ht.typeIs,?_⟩
  refine HT.aip ht hs pl pu (by rw[hlen];exact hw) ?_
  refine⟨.ref a,H,I,rfl,q1 ?_⟩
  unfold vq;rw[hw.1,hw.2];simp
 .exact aqB au s σ H _ v vl vu lo hi sl Q I rx hs pl pu ⟨a,xs,rfl,hx,hw,q2⟩
end
end L2
namespace HT
open PySem PySem.Spec PyProof.Rows
open Sem (wp)
open Builtin
theorem RK:fillsNumberSlot (.type "tuple") "mul"=pure aA:=
 PySem.fillsNumberSlot_seq (id:="tuple.__mul__") (r:=aa (.builtin "tuple.__rmul__")) F.slot_tuple_mul.lookup bL F.slot_tuple_rmul.lookup bL
theorem Tw:seqRepeat? (.type "tuple")=pure (aa (.builtin "tuple.__mul__")):=by
 unfold seqRepeat?;rw[aja (T:="tuple") (name:="__mul__") (id:="tuple.__mul__") F.slot_tuple_mul.lookup bL,aja (T:="tuple") (name:="__rmul__") (id:="tuple.__rmul__") F.slot_tuple_rmul.lookup bL];rfl
theorem Rk(a:Int)(t:Tok)(l:aH)(dd:Option aH)(items:Array aL)(n:Nat)(ss:Array (Option aL)):
  Meets (mq.«int.__rmul__» ⟨[.int a t,.ref l],[]⟩) (λ_ R s=>s.heap.get? l=aa {cls:=.type "tuple",dict:=dd,data:=.seq items n,slots:=ss}/\R (.ok (.ret Z8)) s):=
 .of_wp λprog w A R s h=>by obtain⟨hp,g,d,tk,os⟩:=s;obtain⟨hl,h⟩:=h;wp_walk;exact⟨_,rfl,h⟩
theorem aln(l:aH)(dd:Option aH)(items:Array aL)(n:Nat)(ss:Array (Option aL))(x:Int)(u:Tok)(hc0:¬(decide (x< -(2^63))||decide (x>=2^63))=aq)(hc1:¬(items.isEmpty||x==1)=aq)(hc2:¬(decide (x<=0)||items.isEmpty)=aq)
  (hc3:¬(items.size:Int)*x>(2^63-1) / 8)(hc4:¬ZJ ((items.size:Int)*x)=aq)(hsz:(Us (λx1 x2=>x1++x2) #[] (cN x.toNat items)).size<=cH):
  Meets (mq.«tuple.__mul__» ⟨[.ref l,.int x u],[]⟩) (λ_ R s=>s.heap.get? l=aa {cls:=.type "tuple",dict:=dd,data:=.seq items n,slots:=ss}/\R (.ok (.ret (dJ s.heap.objs.size))) {s with heap:=s.heap.push {cls:=xT "tuple",data:=adl (Us (λx1 x2=>x1++x2) #[] (cN x.toNat items))},toks:=s.toks}):=
 .of_wp λprog w A R s h=>by
  obtain⟨hp,g,d,tk,os⟩:=s;obtain⟨hl,h⟩:=h
  wp_walk;rw[bB hc0];refine aJ (tupleItemsOf_ (items:=items) ⟨_,hl,rfl,n,rfl⟩ ?_);rw[bB hc1];show aQ _ _ (if(decide (x<=0)||items.isEmpty)=aq then _ else _) _ _ _;rw[bB hc2];show aQ _ _ (if(items.size:Int)*x>(2^63-1) / 8 then _ else _) _ _ _;rw[bB hc3];show aQ _ _ (if ZJ ((items.size:Int)*x)=aq then _ else _) _ _ _;rw[bB hc4];exact aJ (m:=KJ _) (mJ (bz ⟨_,rfl,h⟩) hsz)
end HT
namespace L2
open PySem PySem.Spec PyProof.Rows PySem.W
section
variable{X:Cx}
def Qe(K:bw):R2:=λx y H Q=>∃a xs k,x=.ref a/\y=.int k/\dg K H a xs/\xs≠[]/\2<=k/\xs.length*k.toNat<=cH/\∀p,H p=ao->Q (.ref p) (upd H p (.tup (cN k.toNat xs).flatten))
theorem ao3:dR X (pC .Mult) (Qe X.K):=by
 intro au s σ H x y v u Q I rx ry h
 obtain⟨l,xs,k,rfl,rfl,hH,h0,h2,hz,q⟩:=h
 cases rx
 obtain⟨t,rfl⟩:=ry
 obtain⟨aK,r,ht,_⟩:=I.tuple hH
 have hl:xs.length=aK.length:=r.length
 obtain⟨⟨cls,dd,data,sl⟩,ho,hc,n,hd⟩:=id ht
 simp only at hc hd;subst hc hd;have hlen:aK.length*k.toNat<=cH:=by rw[<-hl];exact hz
 have hln:=yj;have hp:1<=aK.length:=by
  rw[<-hl];cases xs with
  |nil=>exact absurd rfl h0
  |cons _ _=>simp
 have hk:k.toNat<=aK.length*k.toNat:=ah0 _ hp;have hsl:cH=16777216:=lN;have hmul:((aK.toArray.size:Nat):Int)*k=((aK.length*k.toNat:Nat):Int):=by
  rw[gK,ajn,aac az]
 have hne:aK≠[]:=λz=>by subst z;simp at hp
 have hnew:Us (λx1 x2=>x1++x2) #[] (cN k.toNat aK.toArray)=(cN k.toNat aK).flatten.toArray:=by
  have:=foldl_rep aK k.toNat [];rw[gm] at this;exact this
 refine ZL (T:="tuple") (U:="int") bA ⟨_,ho,rfl⟩ (λs'=>Ei s' k t) HT.RK aaT Ho HT.Tw F.slot_int_index.lookup
  (Bs Ho (Ei s k t) aaG (aar _ _) (HT.Rk k t l dd aK.toArray n sl)
   ⟨ho,rfl,⟨_,ho,rfl⟩,Bs aaH ⟨_,ho,rfl⟩ aas (aah _ _) (HT.aln l dd aK.toArray n sl k t ?_ ?_ ?_ ?_ ?_ ?_) ⟨ho,?_⟩⟩)
 .simp;lia
 .simp[hne];lia
 .simp[hne];lia
 .rw[hmul];lia
 .unfold ZJ;rw[hmul];intro h;have:=of_decide_eq_true h;lia
 .rw[hnew,gK,len_rep,akj];exact hlen
 .rw[hnew]
  refine⟨.ref s.heap.objs.size,_,I.laid (t':=s.toks) (o:=.tup (cN k.toNat xs).flatten) (λb ob q=>cG _ q) (bU _) ?_,rfl,q _ (I.hok.fresh (bU _))⟩
  exact⟨by rw[len_rep,akj];exact hz,_,r.rep k.toNat,IsTup.new _ _⟩
end
section
variable{Γ:Yw}{K:bw}
end
section
variable{Γ:Yw}{K:bw}
end
section
variable{Γ:Yw}{K:bw}
end
section
variable{X:Cx}
theorem alo(hu:X.A.units+64<iG):dR X (gM .NotEq) (λx y H Q=>∃d e,RX H d x/\RX H e y/\nD d=aq/\nD e=aq/\Q (.bl (!PyData.eqv d e)) H):=by
 intro au s σ H x y v u Q I rx ry h
 obtain⟨d,e,hd,he,h1,h2,q⟩:=h
 obtain⟨as,ra⟩:=RD.reads I (hd.rd (K:=X.K)) rx
 obtain⟨bs,rb⟩:=RD.reads I (he.rd (K:=X.K)) ry
 exact ne_dataH ra rb h1 h2 hu ⟨.bl _,H,I,rfl,q⟩
end
theorem Ol{xs:Array Nat}(h:xs.toList.Pairwise (·<·))(hik:i<k)(hk:k<xs.size):xs.getD i d<xs.getD k d:=by
 have h1:=Aw.mp h i k (by simpa using Tv hik hk) (by simpa using hk) hik;have hi:i<xs.size:=Tv hik hk;rw[vL,vL,mY hk,mY hi];simpa using h1
theorem VG(h:xs.toList.Pairwise (·<·)):∀f lo hi,lo<=hi->hi<=xs.size->hi-lo<=f->(∀i,i<lo->xs.getD i j<j)->(∀i,hi<=i->i<xs.size->j<=xs.getD i j)->
  K6 xs j f lo hi<=xs.size/\(∀i,i<K6 xs j f lo hi->xs.getD i j<j)/\∀i,K6 xs j f lo hi<=i->i<xs.size->j<=xs.getD i j
 |0,lo,hi,h1,h2,h3,h4,h5=>by
  unfold K6
  exact⟨az,h4,λi a b=>h5 i az b⟩
 |f+1,lo,hi,h1,h2,h3,h4,h5=>by
  unfold K6;by_cases hlt:lo<hi
  .rw[bC hlt];dsimp only;by_cases hm:xs.getD ((lo+hi) / 2) j<j
   .rw[bC hm];refine VG h f _ _ az h2 az (λi hi'=>?_) h5;by_cases e:i=(lo+hi) / 2
    .rw[e];exact hm
    .exact Tv (Ol h az az) hm
   .rw[bB hm];refine VG h f _ _ az az az h4 (λi hi' hs=>?_);by_cases e:i=(lo+hi) / 2
    .rw[e];lia
    .have:=Ol (d:=j) h (show(lo+hi) / 2<i by lia) hs;lia
  .rw[bB hlt]
   exact⟨az,h4,λi a b=>h5 i az b⟩
theorem Vf(j:Nat)(h:xs.toList.Pairwise (·<·)):lK xs j<=xs.size/\(∀i,i<lK xs j->xs.getD i j<j)/\∀i,lK xs j<=i->i<xs.size->j<=xs.getD i j:=
 VG h xs.size 0 xs.size (j5 _) (bU _) az (λi hi=>az) (λi a b=>az)
theorem aey(h:xs.toList.Pairwise (·<·)):lK xs 0=0:=by
 obtain⟨_,b,_⟩:=Vf 0 h
 cases e:lK xs 0 with
 |zero=>rfl
 |succ n=>have:=b 0 az;lia
theorem ab7(h:xs.toList.Pairwise (·<·))(hi:i<xs.size):lK xs (xs[i]+1)=i+1:=by
 obtain⟨a,b,c⟩:=Vf (xs[i]+1) h
 have e:∀k d,(hk:k<xs.size)->xs.getD k d=xs[k]:=λk d hk=>by rw[vL,mY hk];rfl
 have mono:∀p q,(hp:p<xs.size)->(hq:q<xs.size)->p<q->xs[p]<xs[q]:=λp q hp hq pq=>by
  have:=Ol (d:=0) h pq hq
  rwa [e p 0 hp,e q 0 hq] at this
 by_cases h1:lK xs (xs[i]+1)<=i
 .have:=c i h1 hi;rw[e i _ hi] at this;lia
 .by_cases h2:lK xs (xs[i]+1)=i+1
  .exact h2
  .have hs:i+1<xs.size:=az;have:=b (i+1) az;rw[e _ _ hs] at this;have:=mono i (i+1) hi hs az;lia
structure lV(b:Bool)(t:BJ):Prop where
 led:t.led=b
 Zf:t.dummies=#[]
 Zg:t.place.toList.Pairwise (·<·)
theorem lV.standIn(h:lV b t)(n:Nat):lV b (t.standIn n):=⟨h.led,rfl,by simpa[SetTable.standIn] using ah2⟩
theorem lV.orStandIn(h:lV b t)(n:Nat):lV b (t.orStandIn n):=by
 unfold SetTable.orStandIn;split
 .exact h
 .exact h.standIn n
theorem has_none(j:Nat):akk #[] j=aA:=rfl
theorem ab8(hd:t.dummies=#[])(f:Nat->Int)(h:Int):∀fuel (p:SetTable.Probe) j d,p.dummy=ao->aat t f h fuel p=aa (.empty j d)->d=ao/\t.slot j=.empty
 |0,p,j,d,_,e=>by simp[aat] at e
 |fuel+1,p,j,d,hp,e=>by
  unfold aat at e;have adv:(t.advance p).dummy=ao:=by
   unfold SetTable.advance;split<;>exact hp
  cases hs:t.slot p.j with
  |empty=>
   rw[hs] at e;simp only[Rv,av0] at e
   exact⟨by rw[<-e.2];exact hp,by rw[<-e.1];exact hs⟩
  |dummy=>
   unfold ajR at hs;rw[hd] at hs;simp only[has_none] at hs;split at hs
   .cases hs
   .simp at hs
  |live i=>
   rw[hs] at e;simp only at e;split at e
   .cases e
   .exact ab8 hd f h fuel _ j d adv e
theorem alp(h:xs.toList.Pairwise (·<·))(hn:xs[lK xs j]?≠aa j):(SetTable.insertAt xs (lK xs j) j).toList.Pairwise (·<·):=by
 obtain⟨a,b,c⟩:=Vf j h
 rw[SetTable.toList_insertAt];have h':=h;rw[<-Rn (lK xs j) xs.toList,aif] at h'
 obtain⟨h1,h2,h3⟩:=h'
 have e:∀k d,(hk:k<xs.size)->xs.getD k d=xs.toList[k]'(by simpa using hk):=λk d hk=>by rw[vL,mY hk];simp
 have lo:∀x,x∈xs.toList.take (lK xs j)->x<j:=λx hx=>by
  obtain⟨i,hi,rfl⟩:=tX hx
  have hi':i<lK xs j:=by simp at hi;lia
  have:=b i hi';rw[e i j az] at this;rw[aiJ];exact this
 have hi:∀x,x∈xs.toList.drop (lK xs j)->j<x:=λx hx=>by
  obtain⟨i,hi,rfl⟩:=tX hx
  have hs:lK xs j+i<xs.size:=by simp at hi;lia
  have h0:=c (lK xs j) (bU _) az;have ne:xs.getD (lK xs j) j≠j:=λz=>hn (by
   have hb:lK xs j<xs.size:=az;rw[vL,mY hb] at z;rw[mY hb];simpa using z)
  rw[List.getElem_drop,<-e _ j hs];by_cases z:i=0
  .subst z;simp only[Nat.add_zero];lia
  .have:=Ol (d:=j) h (show lK xs j<lK xs j+i by lia) hs;lia
 rw[aif]
 refine⟨h1,uM.mpr ⟨hi,h2⟩,λx hx y hy=>?_⟩
 rcases cg.mp hy with rfl|hy
 .exact lo x hx
 .exact h3 x hx y hy
theorem lV.layNew(h:lV b t)(es:Array (Int×aL))(hs:Int)(x:aL):lV b (layNew t es hs x).2.1:=by
 unfold PySem.layNew;cases hf:t.freeSlot hs with
 |none=>exact h.standIn _
 |some q=>
  obtain⟨slot,wd⟩:=q
  have free:t.slot slot=.empty:=by
   unfold SetTable.freeSlot at hf;split at hf
   .rename_i j d hp
    obtain⟨rfl,hj⟩:=ab8 h.Zf _ _ _ _ _ _ rfl hp
    simp only[Rv,ajS] at hf;rw[<-hf.1];exact hj
   .cases hf
  have hn:t.place[lK t.place slot]?≠aa slot:=λz=>by
   unfold ajR at free;simp[z] at free
  show lV b ((t.put slot).1.orStandIn _);refine lV.orStandIn (t:=(t.put slot).1) ⟨h.led,?_,alp h.Zg hn⟩ _
  show(if akk t.dummies slot then _ else t.dummies)=#[]
  rw[h.Zf];rfl
theorem lV.relayAll(h:lV b t)(es:Array (Int×aL))(n:Nat):lV b (relayAll t es n).2.1:=by
 unfold Ls;split
 .rename_i t' order hr;dsimp only;split
  .unfold SetTable.relaid SetTable.laid at hr;cases ho:SetTable.layClean (SetTable.sizeAbove n-1) (es.map (·.1)) with
   |none=>simp[ho] at hr
   |some owner=>
    simp only[ho,Option.bind_eq_bind,m9,Option.pure_def,Rv,ajS] at hr;rw[<-hr.1]
    refine⟨h.led,rfl,?_⟩
    simp only[List.map_filterMap];refine av4 _ (λx y hxy=>?_) ah2;intro u hu v hv;simp only[Ax] at hu hv
    obtain⟨p,⟨_,_,rfl⟩,rfl⟩:=hu
    obtain⟨q,⟨_,_,rfl⟩,rfl⟩:=hv
    exact hxy
  .exact h.standIn _
 .exact h.standIn _
theorem lV.plain(h:lV b t)(v:Bool):lV b {t with plain:=v}:=⟨h.led,h.Zf,h.Zg⟩
theorem lV.fresh(b:Bool):lV b (.fresh 0 0 b):=⟨rfl,rfl,.nil⟩
end L2
namespace L2
open PySem PySem.Spec PySem.W
section
variable{prog:fV}{w:dD}{T:Type}[DecidableEq T](knd:Bg prog w T)
def bt(w:dD):Bool:=!(w.params.followText "set-order")
inductive mW:List (Int×aL)->List T->Prop
 |nil:mW [] []
 |cons {e:Int×aL} {k:T} {es:List (Int×aL)} {ks:List T}:(knd.is k e.2=aq/\e.1=knd.hash k/\e.2.scannable=aq)->mW es ks->mW (e::es) (k::ks)
def nU(h:cu)(a:aH)(ks:List T):Prop:=∃o es ep t,h.get? a=aa o/\o.ExactSet/\o.data=.set es ep t/\(∃ks',mW knd es.toList ks'/\ks'.Perm ks)/\es.size<qu/\t.fits es.size=aq/\lV (bt w) t
def oF(ks:List T)(k:T):List T:=if k∈ks then ks else ks++[k]
variable{knd}
theorem mW.elems(h:mW knd es ks):ElemsOf knd es:=by
 induction h with
 |nil=>intro e he;cases he
 |cons a _ ih=>
  intro e he;rcases cg.mp he with rfl|he
  .exact⟨⟨_,a.1,a.2.1⟩,a.2.2⟩
  .exact ih e he
theorem mW.len(h:mW knd es ks):es.length=ks.length:=by
 induction h with
 |nil=>rfl
 |cons _ _ ih=>simp[ih]
theorem mW.perm(p:es'.Perm es):∀{ks:List T},mW knd es ks->∃ks',mW knd es' ks'/\ks'.Perm ks:=by
 induction p with
 |nil=>intro ks h;exact⟨ks,h,.refl _⟩
 |cons x _ ih=>
  intro ks h;cases h with
  |cons a r=>
   obtain⟨ks',h1,h2⟩:=ih r
   exact⟨_::ks',.cons a h1,h2.cons _⟩
 |swap x y l=>
  intro ks h;cases h with
  |cons a r=>
   cases r with
   |cons b r=>exact⟨_::_::_,.cons b (.cons a r),.swap ..⟩
 |trans _ _ ih1 ih2=>
  intro ks h
  obtain⟨k2,h1,p1⟩:=ih2 h
  obtain⟨k3,h2,p2⟩:=ih1 h1
  exact⟨k3,h2,p2.trans p1⟩
theorem mW.push(h:mW knd es ks)(hk:knd.is k x=aq)(hx:x.scannable=aq):mW knd (es++[(knd.hash k,x)]) (ks++[k]):=by
 induction h with
 |nil=>exact .cons ⟨hk,rfl,hx⟩ .nil
 |cons a _ ih=>exact .cons a ih
theorem mW.mem(h:mW knd es ks)(hm:x∈es)(hp:knd.is k x.2=aq):k∈ks:=by
 induction h with
 |nil=>cases hm
 |cons a _ ih=>
  rcases cg.mp hm with rfl|hm
  .cases knd.inj _ _ _ hp a.1;exact eV ..
  .exact fQ _ (ih hm)
theorem mW.none(h:mW knd es ks)(e:es.findIdx? (λe=>knd.is k e.2)=.none):k∉ks:=by
 have e':=List.findIdx?_eq_none_iff.mp e;clear e;induction h with
 |nil=>intro h;cases h
 |cons a _ ih=>
  intro hm;rcases cg.mp hm with rfl|hm
  .have:=e' _ (eV ..);rw[a.1] at this;cases this
  .exact ih (λx hx=>e' x (fQ _ hx)) hm
theorem aez{h:cu}{a:aH}{o:Obj}{ep:Nat}(ho:h.get? a=aa o)(ex:o.ExactSet)(hd:o.data=.set es ep t)(e:∃ks',mW knd es'.toList ks'/\ks'.Perm ks)
  (hb:es'.size<qu)(hf:t'.fits es'.size=aq)(tb:lV (bt w) t'):
  ∃o',(h.update a (Uy es' t')).get? a=aa o'/\o'.ExactSet/\o'.data=.set es' (ep+1) t'/\nU knd (h.update a (Uy es' t')) a ks:=by
 have g:=vM (Uy es' t') ho (by rw[putSet_of es' t' hd];rfl);rw[putSet_of es' t' hd] at g
 exact⟨_,g,ex,rfl,_,es',ep+1,t',g,ex,rfl,e,hb,hf,tb⟩
theorem aeA(hk:knd.is k x=aq)(hx:x.scannable=aq)(hS:nU knd s.heap a ks)(room:ks.length+1<qu)
  (h:∀b h',zE a s.heap h'->nU knd h' a (oF ks k)->Q b {s with heap:=h'}):aQ (model prog w) A (setAddHashed a x (knd.hash k)) Q E s:=by
 obtain⟨o,es,ep,t,ho,ex,hd,⟨k0,ek,pk⟩,hb,hf,tb⟩:=hS
 have sz:es.size=ks.length:=by rw[<-lY,ek.len,pk.length_eq]
 have el:=ek.elems;have mono:∀{u:Unit->aZ->Prop}{s1:aZ}(g:Bool),u () s1->∀r:Sem Unit,(r=rule "set.scan.the-table-gave-way"\/r=pure ())->aQ (model prog w) A r u E s1:=λg hu r hr=>by
  rcases hr with rfl|rfl
  .exact ug hu
  .exact bz hu
 unfold setAddHashed setAddHashedIn;refine nF (aJ (Hi ho hd hf ?_));simp only[byScan_of hx hb el,if_true];unfold setAddByScan;refine aJ (aJ (ug (aJ (wpAny_setScan_of hk ho hd hf el ?_))));cases hr:es.toList.findIdx? (λe=>knd.is k e.2) with
 |some j=>
  obtain⟨hj,hp,_⟩:=List.findIdx?_eq_some_iff_getElem.mp hr
  have hm:k∈ks:=pk.mem_iff.mp (ek.mem (vR hj) hp);refine bz (bz (h _ s.heap (aau a s.heap) ?_));rw[oF,bC hm]
  exact⟨o,es,ep,t,ho,ex,hd,⟨k0,ek,pk⟩,hb,hf,tb⟩
 |none=>
  have hm:k∉ks:=λz=>ek.none hr (pk.mem_iff.mpr z)
  have pn:=layNew_perm t es (knd.hash k) x;have fn:=layNew_fits t es (knd.hash k) x;have tn:=tb.layNew es (knd.hash k) x;dsimp only;generalize layNew t es (knd.hash k) x=L at pn fn tn⊢
  obtain⟨es1,t1,wd,gv⟩:=L
  dsimp only at pn fn tn⊢;rw[aiK] at pn
  obtain⟨k1,e1,p1⟩:=(ek.push hk hx).perm pn
  have ak:oF ks k=ks++[k]:=by rw[oF,bB hm]
  have q1:∃ks',mW knd es1.toList ks'/\ks'.Perm (oF ks k):=⟨k1,e1,by rw[ak];exact p1.trans (pk.append_right _)⟩
  have vG:es1.size=es.size+1:=by rw[<-lY,pn.length_eq,gJ,lY];rfl
  have b1:es1.size<qu:=az;refine aJ (mono gv ?_ _ (by cases gv<;>first|exact .inl rfl|exact .inr rfl));have tail:∀t2:BJ,t2.fits es1.size=aq->lV (bt w) t2->aQ (model prog w) A (do
    storeSet a es1 t2
    if(!wd&&t2.tooFull)=aq then do
      (match(Ls t2 es1 (DW es1.size)).2.2 with|true=>rule "set.scan.the-table-gave-way" |false=>pure ())
      storeSet a (Ls t2 es1 (DW es1.size)).1 (Ls t2 es1 (DW es1.size)).2.1
      pure (aa aq)
     else pure (aa aq)) (λr s'=>aQ (model prog w) A (match r with|some added=>pure added|none=>setAddHashedIn a x (knd.hash k) 99999) Q E s') E s:=λt2 f2 tb2=>by
   obtain⟨o1,g1,ex1,d1,S1⟩:=aez (knd:=knd) ho ex hd q1 b1 f2 tb2
   refine aJ (aiL ho hd ?_ (aav b1));have CK:=rW s.heap a (Uy es1 t2);split
   .have pr:=relayAll_perm t2 es1 (DW es1.size);have fr:=relayAll_fits t2 es1 (DW es1.size);have tr:=tb2.relayAll es1 (DW es1.size);generalize Ls t2 es1 (DW es1.size)=L2 at pr fr tr⊢
    obtain⟨es2,t3,gv2⟩:=L2
    dsimp only at pr fr tr⊢
    obtain⟨k2,e2,p2⟩:=q1
    obtain⟨k3,e3,p3⟩:=e2.perm pr
    have sz2:es2.size=es1.size:=by rw[<-lY,pr.length_eq,lY]
    have b2:es2.size<qu:=az;refine aJ (mono gv2 ?_ _ (by cases gv2<;>first|exact .inl rfl|exact .inr rfl));refine aJ (aiL g1 d1 ?_ (aav b2))
    obtain⟨_,_,_,_,S2⟩:=aez (knd:=knd) g1 ex1 d1 ⟨k3,e3,p3.trans p2⟩ b2 fr tr
    exact bz (bz (h _ _ (CK.trans (rW ..)) S2))
   .exact bz (bz (h _ _ CK S1))
  split
  .refine aJ ?_;rw[hashByValue_scannable 8 hx];refine bz ?_;by_cases hv:plainKind x=aq
   .simp only[hv,if_true];exact tail t1 fn tn
   .simp only[hv,qj,if_false];exact tail _ (SetTable.fits_plain_off fn) (tn.plain aA)
  .refine aJ (bz ?_);simp only[if_true];exact tail t1 fn tn
end
section
variable{T:Type}[DecidableEq T]
def dedup(ks:List T):List T:=ks.foldl oF []
theorem ab9(ks:List T)(k:T):dedup (ks++[k])=oF (dedup ks) k:=by simp[dedup,aiM]
theorem anE{k x:T}:x∈oF ks k↔x∈ks\/x=k:=by
 unfold oF;split
 .rename_i h
  exact⟨.inl,λz=>z.elim id λe=>e▸h⟩
 .simp
theorem aa7:∀(ks as:List T),x∈ks.foldl oF as↔x∈as\/x∈ks
 |[],as=>by simp
 |k::ks,as=>by rw[vV,aa7,anE,cg,or_assoc]
theorem amn{x:T}:x∈dedup ks↔x∈ks:=by
 rw[dedup,aa7];simp
theorem alq{k:T}(h:ks.Nodup):(oF ks k).Nodup:=by
 unfold oF;split
 .exact h
 .rename_i hk;exact mZ.mpr ⟨h,bF,λa ha b hb=>by rw[gU] at hb;rintro rfl;exact hk (hb▸ha)⟩
theorem aaI:∀(ks as:List T),as.Nodup->(ks.foldl oF as).Nodup
 |[],_,h=>h
 |k::ks,_,h=>aaI ks _ (alq h)
theorem akS(ks:List T):(dedup ks).Nodup:=aaI ks [] .nil
theorem anF(ks:List T)(k:T):(oF ks k).length<=ks.length+1:=by
 unfold oF;split<;>simp
theorem aa8:∀(ks as:List T),(ks.foldl oF as).length<=as.length+ks.length
 |[],_=>by simp
 |k::ks,as=>by
  have h1:=aa8 ks (oF as k);have h2:=anF as k;simp only[vV,fY];lia
theorem Eo(ks:List T):(dedup ks).length<=ks.length:=by simpa[dedup] using aa8 ks []
end
section
variable{prog:fV}{w:dD}{T:Type}[DecidableEq T]{knd:Bg prog w T}{A:iz}{E:aL->aZ->Prop}{s:aZ}
theorem nU.at(H:nU knd h a ks)(e:∀o,h.get? a=aa o->h'.get? a=aa o):nU knd h' a ks:=
 let ⟨o,es,ep,t,ho,r⟩:=H
 ⟨o,es,ep,t,e o ho,r⟩
theorem nU.ty(H:nU knd s.heap a ks):s.TypeIs (.ref a) "set":=let ⟨o,_,_,_,ho,ex,_⟩:=H;⟨o,ho,ex.1⟩
theorem anG{I:aH}{fp wr:List aH}{n:Nat}{Pv:Nat->aL->Prop}{St:Nat->aZ->Prop}(W:WalksS prog w A.in1 I fp wr G n Pv St){S:aH}(out:S∉fp){val:Nat->T}
  (hv:∀i v,Pv i v->knd.is (val i) v=aq/\v.scannable=aq)(room:n+1<qu):∀(m i:Nat)(s:aZ),n-i=m->i<=n->St i s->nU knd s.heap S (dedup ((dh i).map val))->
  (∀s',Moved (S::wr) G s s'->nU knd s'.heap S (dedup ((dh n).map val))->R (.ok (.ret .none)) s')->lQ (model prog w) A (.builtin "set.update.loop" ⟨[.ref S,.ref I],[]⟩) R s:=by
 have uE:S∉wr:=λz=>out (W.sub _ z)
 have aga:∀b,b∈wr->b∈S::wr:=λb z=>fQ _ z
 intro m;induction m with
 |zero=>
  intro i s hm hi st hS hR;obtain rfl:i=n:=az;refine rZ ahD ?_;rw[tW ZF _];show aQ _ A.in1 (j7 (.ref I) >>= _) _ _ s;refine aJ (W.done s _ _ st λs' mv=>?_);show aQ _ A.in1 (ret j6) _ _ s';exact bz (hR s' (mv.mono aga) (hS.at λo e=>mv.heap S o uE e))
 |succ m ih=>
  intro i s hm hi st hS hR;have lt:i<n:=az;refine rZ ahD ?_;rw[tW ZF _];show aQ _ A.in1 (j7 (.ref I) >>= _) _ _ s;refine aJ (W.item i s _ _ lt st λv s' pv st' mv=>?_)
  obtain⟨isv,scv⟩:=hv i v pv
  have hS1:nU knd s'.heap S (dedup ((dh i).map val)):=hS.at λo e=>mv.heap S o uE e
  show aQ _ A.in1 (rD [v] (setAdd S v) >>= _) _ _ s';refine aJ (nF ?_);unfold setAdd;refine nF (aJ (knd.pyHash isv ?_));have few:=Eo ((dh i).map val);rw[bD,oK] at few;refine aeA (knd:=knd) (s:={s' with toks:=s'.toks+1}) isv scv hS1 az λ_ h' same hS2=>?_
  have hS3:nU knd h' S (dedup ((dh (i+1)).map val)):=by rw[R4,j4,List.map_singleton,ab9];exact hS2
  refine bz ⟨sH ZF _,ih (i+1) _ az lt (W.frame _ s' _ _ st' (xP _) λb hb o e=>(same.2 b λz=>out (z▸hb)).trans e) hS3 λs2 mv2 hS4=>?_⟩;exact hR s2 (Moved.trans W.gtrans ((mv.mono aga).then_heap (xP _) λb o hb e=>(same.2 b λz=>hb (by rw[z];exact eV)).trans e) mv2) hS4
end
section
variable{prog:fV}{w:dD}{T:Type}[DecidableEq T]{knd:Bg prog w T}{A:iz}{E:aL->aZ->Prop}{s:aZ}
def nC(w:dD):Obj:={cls:=.type "set",dict:=ao,data:=.set #[] 0 (.fresh 0 0 (bt w))}
theorem afy(g:h.get? a=aa (nC w)):nU knd h a []:=⟨_,#[],0,_,g,⟨rfl,rfl,rfl⟩,rfl,⟨[],.nil,.refl _⟩,bA,rfl,lV.fresh _⟩
theorem anH(a:aL)(h:Q1 (.ref s.heap.objs.size) {s with heap:=s.heap.push (nC w)}):lQ (model prog w) A (.call (.builtin "set.__new__") ⟨[.type "set",a],[]⟩) (wants Q1 E) s:=by
 refine aaU ?_;show aQ _ A.in1 (ajb "set.__new__" ⟨[.type "set",a],[]⟩ >>= λ_=>again (.builtin "set.__new__" ⟨[.type "set",a],[]⟩)) _ _ s;refine aJ (HS (F.newCall_set_1 a) (bz ⟨sH ah9 _,rZ PySem.F.entry_set_new ?_⟩));rw[tW ah9 _];unfold mq.«set.__new__» avz;have sub:=PySem.sub_set_self
 obtain⟨h0,g0,d0,t0,o0⟩:=s
 dsimp only;wp_walk;refine Lf (bz ?_);dsimp only;simp only[newObj];refine aJ (wpAny_alloc (bz ?_));exact bz h
theorem amo(hh:A.handled=ao)(hl:s.heap.IsList l items)(hv:∀i v,items[i]?=aa v->knd.is (val i) v=aq/\v.scannable=aq)(room:items.size+1<qu)
  (h:∀(h':cu)(tk:Nat),nU knd h' s.heap.objs.size (dedup ((dh items.size).map val))->(∀b o,s.heap.get? b=aa o->h'.get? b=aa o)->Q (.ref s.heap.objs.size) {s with heap:=h',toks:=tk}):
  aQ (model prog w) A (call (.type "set") [.ref l]) Q E s:=by
 obtain⟨c0,tl0,awd⟩:=PySem.F.called_set.mro
 have awa:=PySem.F.called_set.made;have awe:=PySem.F.called_set.sub;refine ab1 (aaU (show aQ _ _ (callAny (.type "set") _) _ _ _ from ?_));refine bz ⟨Code.quiet_builtin _ bL,rZ F.entry_type_call ?_⟩;rw[Around.under_plain (weight_type_call_type "set" [.ref l] []) rfl];have n1:=PySem.F.called_set.notType;have n2:=PySem.F.called_set.canCreate;have n3:=PySem.F.typeCall_set_1 (.ref l)
 repeat (any_goals (first|assumption|wp_step))
 refine Eb (anH (.ref l) (E:=E) (Q1:=λobj s1=>obj=.ref s.heap.objs.size/\s1={s with heap:=s.heap.push (nC w)}) ⟨rfl,rfl⟩) λr s1 hr=>?_
 cases r with
 |error e=>exact hr
 |ok fl=>
  cases fl with
  |ret obj=>
   obtain⟨rfl,rfl⟩:=hr
   have g0:(s.heap.push (nC w)).get? s.heap.objs.size=aa (nC w):=gR _ rfl;have ty0:ajT {s with heap:=s.heap.push (nC w)} (.ref s.heap.objs.size) "set":=⟨_,g0,rfl⟩
   have li:=PySem.F.called_set.init.lookup;have bi:=PySem.F.called_set.init.bind (.ref s.heap.objs.size)
   repeat (any_goals (first|assumption|wp_step))
   refine Eb (aih (R:=wants (λr s2=>r=.none/\∃h' tk,s2={s with heap:=h',toks:=tk}/\nU knd h' s.heap.objs.size (dedup ((dh items.size).map val))/\∀b o,s.heap.get? b=aa o->h'.get? b=aa o) E) PySem.F.called_set.init.plain PySem.F.entry_set_init (check_set_init_1 ty0 ?_)) λr2 s2 hr2=>?_
   .obtain⟨ol,hol,hcl,nl,hdl⟩:=hl
    obtain⟨ocls,odict,odata,oslots⟩:=ol
    simp only at hcl hdl;subst hcl;subst hdl;have hol1:(s.heap.push (nC w)).get? l=aa {cls:=.type "list",dict:=odict,data:=.seq items nl,slots:=oslots}:=cG _ hol;have u1:=PySem.F.sub_list_set;have u2:=PySem.F.sub_list_frozenset;have u3:(xT "list"==xT "dict")=aA:=bA;have li1:(s.heap.push (nC w)).IsList l items:=⟨_,hol1,rfl,nl,rfl⟩
    unfold mq.«set.__init__» noKeywords avx;generalize keep:BZ=PI;wp_walk;subst keep;refine K4 li1 (aJ (aa6 ?_));have lt0:l<s.heap.objs.size:=cL hol;have hh3:A.in1.in1.in1.handled=ao:=by simp[hh]
    have ne0:l≠(s.heap.push (nC w)).objs.size:=by rw[sy];exact gj (vQ lt0)
    have atl:s.heap.objs.size∉[(s.heap.push (nC w)).objs.size,l]:=by
     rw[sy];simp only[cg,kE,or_false,not_or]
     exact⟨gj (Lg _),uR lt0⟩
    refine anG (knd:=knd) (val:=val) ((Uv hh3 _ l ne0 items).toS) atl hv room (items.size-0) 0 _ az (j5 _) ⟨⟨_,gR _ rfl,rfl,rfl⟩,li1.push _⟩ (afy (cG _ g0)) λs3 mv hS=>?_
    obtain⟨h3,g3,d3,t3,o3⟩:=s3
    obtain rfl:g3=s.gens:=mv.gens;obtain rfl:d3=s.drawn:=mv.drawn;obtain rfl:o3=s.os:=mv.os;show aQ _ _ _ _ _ _;refine bz (show aQ _ _ (ret j6) _ _ _ from bz ⟨rfl,h3,t3,rfl,hS,λb o e=>?_⟩);have ltb:b<s.heap.objs.size:=cL e;refine mv.heap b o ?_ (cG _ (cG _ e));rw[sy];simp only[cg,kE,or_false,not_or]
    exact⟨gj ltb,gj (vQ ltb)⟩
   .cases r2 with
    |error e=>exact hr2
    |ok f2=>
     cases f2 with
     |ret r=>
      obtain⟨rfl,h',tk,rfl,hS,kk⟩:=hr2
      repeat (any_goals (first|assumption|wp_step))
      exact h _ _ hS kk
     |_=>exact hr2.elim
  |_=>exact hr.elim
end
theorem ady:Manifest.owners.lookup (String.ofList "rotareti_tes".toList.reverse)=aa Manifest.sig_set_iterator:=by kernel_rfl
theorem u0:Slot "set_iterator" "__next__" "set_iterator.__next__":=.of (owner:="set_iterator") (n:="__next__") (by rw[typeLookup_type,aia];kernel_rfl) bL bL bL (by first|exact .inl bL|exact .inr bL) (by rw[aa9];kernel_rfl)
theorem aeB:Slot "set_iterator" "__iter__" "set_iterator.__iter__":=.of (owner:="set_iterator") (n:="__iter__") (by rw[typeLookup_type,aia];kernel_rfl) bL bL bL (by first|exact .inl bL|exact .inr bL) (by rw[aa9];kernel_rfl)
theorem M9:VH table "set_iterator.__next__"=aa mq.«set_iterator.__next__»:=entryFor_of_tree (by kernel_rfl)
theorem amq:VH table "set_iterator.__iter__"=aa mq.«dict_keyiterator.__iter__»:=entryFor_alias (id':="dict_keyiterator.__iter__") (by kernel_rfl) rfl bL (by kernel_rfl)
theorem alr:VH table "set.__iter__"=aa mq.«frozenset.__iter__»:=entryFor_alias (id':="frozenset.__iter__") (by kernel_rfl) rfl bL (by kernel_rfl)
theorem Nb(a:aL):Cg "set_iterator.__next__" ⟨[a],[]⟩:=by
 unfold Cg;rw[signature?_of (id:="set_iterator.__next__") (n:="__txen__".toList) (o:="rotareti_tes".toList) (by kernel_rfl) ady];kernel_rfl
theorem amr(a:aL):Cg "set_iterator.__iter__" ⟨[a],[]⟩:=by
 unfold Cg;rw[signature?_of (id:="set_iterator.__iter__") (n:="__reti__".toList) (o:="rotareti_tes".toList) (by kernel_rfl) ady];kernel_rfl
section
variable{prog:fV}{w:dD}{A:iz}{E:aL->aZ->Prop}{s:aZ}{it S:aH}{es:Array (Int×aL)}{ep i n:Nat}{t:BJ}{first:aL}
def pN(b:Bool)(h:cu)(a:aH)(es:Array (Int×aL))(ep:Nat)(t:BJ):Prop:=∃o,h.get? a=aa o/\o.ExactSet/\o.data=.set es ep t/\t.fits es.size=aq/\lV b t
theorem pN.at(H:pN b h a es ep t)(e:∀o,h.get? a=aa o->h'.get? a=aa o):pN b h' a es ep t:=let ⟨o,ho,r⟩:=H;⟨o,e o ho,r⟩
def nZ(h:cu)(it S:aH)(first:aL)(i n ep:Nat):Prop:=∃o,h.get? it=aa o/\o.cls=.type "set_iterator"/\o.data=.fields #[first,jL i,.ref S,jL n,jL ep]
theorem nZ.at(H:nZ h it S first i n ep)(e:∀o,h.get? it=aa o->h'.get? it=aa o):nZ h' it S first i n ep:=let ⟨o,ho,r⟩:=H;⟨o,e o ho,r⟩
theorem nZ.ty(H:nZ s.heap it S first i n ep):s.TypeIs (.ref it) "set_iterator":=let ⟨o,ho,c,_⟩:=H;⟨o,ho,c⟩
theorem nZ.set{h:cu}{j:Nat}{o:Obj}(ho:h.get? it=aa o)(hc:o.cls=.type "set_iterator")(hd:o.data=.fields vs):
  ∃o',(h.update it (abn (·.setIfInBounds j x))).get? it=aa o'/\o'.cls=.type "set_iterator"/\o'.data=.fields (vs.setIfInBounds j x):=
 ⟨_,vM _ ho (Z5 (Hg hd _)),(aaq ..).trans hc,by rw[Hg hd]⟩
theorem WQ(hit:nZ s.heap it S first i n ep)(h:Q (.ref it) s):aQ (model prog w) A (BZ (.ref it)) Q E s:=by
 refine aao hit.ty aeB (oZ aeB hit.ty amq (show aQ _ _ (ret (.ref it)) _ _ s from ?_) (amr _));exact bz ⟨_,rfl,"set_iterator",_,hit.ty,u0.lookup,h⟩
theorem aeC{slot:Nat}(hit:nZ s.heap it S (jL slot) i n ep)(hs:pN (bt w) s.heap S es ep t)(hn:n=es.size)(ne:S≠it)
  (nx:∀{B:iz}{E':aL->aZ->Prop}{C:Option (aL×Nat)->aZ->Prop},C R s->aQ (model prog w) B (Je S slot i ep) C E' s){x:aL}{nxt:Nat}(hR:R=aa (x,nxt))
  (h:∀h',nZ h' it S (jL nxt) (i+1) n ep->zE it s.heap h'->Q (aa x) {s with heap:=h'}):aQ (model prog w) A (j7 (.ref it)) Q E s:=by
 obtain⟨o,ho,hc,hd⟩:=id hit
 obtain⟨os,hos,exs,hds,hf,tb⟩:=id hs
 unfold j7;refine aJ (Bo (uL (name:=bI "__next__") hit.ty u0 (oZ u0 hit.ty M9 ?_ (Nb _))));unfold mq.«set_iterator.__next__»;refine aJ (bz (aJ (Bd ho hd ?_)));dsimp only[jL];refine aJ (KR hos hds hf ?_);subst hn;subst hR;rw[bB bF];refine aJ (nx ?_);dsimp only;refine aJ (xM ho hd bF ?_)
 obtain⟨o1,g1,c1,d1⟩:=nZ.set (j:=0) (x:=.int nxt 0) ho hc hd
 refine aJ (xM g1 d1 bF ?_)
 obtain⟨o2,g2,c2,d2⟩:=nZ.set (j:=1) (x:=.int (i+1) 0) g1 c1 d1
 refine bz ⟨_,rfl,bz (h _ ⟨o2,g2,c2,?_⟩ ((rW ..).trans (rW ..)))⟩;rw[d2];simp[jL]
theorem aeD(hh:A.handled=ao)(h:∀h',(∀b o,s'.heap.get? b=aa o->h'.get? b=aa o)->Q ao {s' with heap:=h'}):
  aQ (model prog w) A.in1 (do let e <-Jp (.type "StopIteration") [];(VB e:Sem Fin)) (λfin s1=>∃v,fin=Fin.done (Flow.ret v)/\aQ (model prog w) A (pure (aa v)) Q E s1)
   (λe s1=>aQ (model prog w) A (do if(<-isInstance e (xT "StopIteration"))=aq then pure ao else throw e) Q E s1) s':=by
 refine aJ ?_;simp only[Jp,Vz];refine aJ (mJ ?_ (by size_fits));refine aJ (m:=Hr _ _) (HS (a:=j6) (by first|rfl|(simp only[Hr];rfl)) ?_);refine mJ ?_ (by size_fits);simp only[VB];refine aJ (abo ?_);rw[show A.in1.handled=ao from hh];refine aJ (bz (abO ?_));refine aJ (RJ (T:="StopIteration") (b:=aq) ⟨_,gR _ rfl,rfl⟩ aa5 ?_);exact bz (h _ λb o e=>cG _ (cG _ e))
theorem afz{slot:Nat}(hh:A.handled=ao)(hit:nZ s.heap it S (jL slot) i n ep)(hs:pN (bt w) s.heap S es ep t)(hn:n=es.size)
  (nx:∀{B:iz}{E':aL->aZ->Prop}{C:Option (aL×Nat)->aZ->Prop},C ao s->aQ (model prog w) B (Je S slot i ep) C E' s)
  (h:∀h',(∀b o,b≠it->s.heap.get? b=aa o->h'.get? b=aa o)->Q ao {s with heap:=h'}):aQ (model prog w) A (j7 (.ref it)) Q E s:=by
 obtain⟨o,ho,hc,hd⟩:=id hit
 obtain⟨os,hos,exs,hds,hf,tb⟩:=id hs
 unfold j7;refine aJ (Bo (uL (name:=bI "__next__") hit.ty u0 (oZ u0 hit.ty M9 ?_ (Nb _))));unfold mq.«set_iterator.__next__»;refine aJ (bz (aJ (Bd ho hd ?_)));dsimp only[jL];refine aJ (KR hos hds hf ?_);subst hn;rw[bB bF];refine aJ (nx ?_);dsimp only;refine aJ (xM ho hd bF ?_);exact aeD hh λh' kk=>h h' λb o hb e=>kk b o (((rW ..).2 b hb).trans e)
end
section
variable{prog:fV}{w:dD}{A:iz}{E:aL->aZ->Prop}{s:aZ}{it S:aH}{ep i n:Nat}{t:BJ}{first:aL}
theorem Om(h:Q (!bt w) s):aQ (model prog w) A acd Q E s:=by
 unfold acd;refine aJ (Lf (bz ?_));have h':Q (w.params.followText "set-order") s:=by simpa[bt] using h
 exact h'
theorem Uz:∀{l:List α}{j:Nat}(h:j<l.length),(l[j]::l.eraseIdx j).Perm l
 |[],j,h=>by cases h
 |a::l,0,h=>.refl _
 |a::l,j+1,h=>by
  have:=Uz (l:=l) (j:=j) (by simpa using h);simp only[List.getElem_cons_succ,List.eraseIdx_cons_succ]
  exact(Sv ..).trans (this.cons a)
theorem acM(hs:pN (bt w) s.heap S es ep t)(hb:bt w=aq)(nd:(!t.plain&&decide (es.size>1))=aA)
  (h:C (match es[lK t.place slot]?,t.place[lK t.place slot]? with|some (_,x),some j=>aa (x,j+1)|_,_=>ao) s):aQ (model prog w) A (Je S slot i ep) C E s:=by
 obtain⟨o,ho,ex,hd,hf,tb⟩:=hs
 unfold Je;refine aJ (Hi ho hd hf ?_);refine aJ (Om ?_);rw[hb];simp only[ajU,qj,if_false];refine R7 (λz=>?_) (λ_=>?_)
 .have z':(!t.plain&&decide (es.size>1))=aq:=z;rw[nd] at z';cases z'
 refine aJ (show aQ _ _ (if(!t.led&&!es.isEmpty)=aq then _ else _) _ _ _ from ?_);rw[tb.led,hb];simp only[ajU,aa1,qj,if_false];exact bz (bz h)
theorem acN(hs:pN (bt w) s.heap S es ep t)(hb:bt w=aA)
  (h:C (((Bu (w.params.setOrder S ep) es)[i]?).map λe=>(e.2,slot)) s):aQ (model prog w) A (Je S slot i ep) C E s:=by
 obtain⟨o,ho,ex,hd,hf,tb⟩:=hs
 unfold Je;refine aJ (Hi ho hd hf ?_);refine aJ (Om ?_);rw[hb];simp only[ajv,if_true,bne_self_eq_false,qj,if_false];refine aJ ?_;unfold setWalk;refine aJ (Hi ho hd hf ?_);refine aJ (Om ?_);rw[hb];simp only[ajv,if_true];refine aJ (Lf (bz ?_));exact bz h
theorem aeE(f:Nat->Nat):∀(m k:Nat)(left:List α)(out:Array α),left.length=m->(abz f m k left out).toList.Perm (out.toList++left)
 |0,k,left,out,h=>by
  unfold abz;rw[ZW.mp h];simp
 |m+1,k,left,out,h=>by
  unfold abz;have hl:f k%left.length<left.length:=Nat.mod_lt _ az;rw[fU hl];dsimp only
  refine(aeE f m (k+1) _ _ (by rw[aii];simp[hl];lia)).trans ?_
  rw[aiK,qX];refine aib _ ?_;exact Uz hl
theorem Vg(f:Nat->Nat)(xs:Array α):(Bu f xs).toList.Perm xs.toList:=by
 have:=aeE f xs.size 0 xs.toList #[] bF;simpa[Bu] using this
theorem anI(hm:m≠0)(h:∀j d,j<m->Q j {s with drawn:=d}):aQ (model prog w) A (choose src m) Q E s:=λΓ p _=>⟨hm,h _ _ (Nat.mod_lt _ (Nat.pos_of_ne_zero hm))⟩
theorem adz:∀(m:Nat)(xs:List α)(s:aZ)(Q:List α->aZ->Prop),xs.length=m->(∀ys d,ys.Perm xs->Q ys {s with drawn:=d})->aQ (model prog w) A (drawOrder m xs) Q E s
 |0,xs,s,Q,hl,h=>by
  unfold drawOrder;rw[ZW.mp hl] at h;exact bz (h [] s.drawn (.refl _))
 |m+1,[],s,Q,hl,h=>by cases hl
 |m+1,x::xs,s,Q,hl,h=>by
  unfold drawOrder;refine aJ (anI bF λj d hj=>?_);rw[fU hj];dsimp only;refine aJ (adz m _ _ _ (by rw[aii,bC hj];simpa using hl) λys d' hp=>?_);exact bz (h _ d' ((hp.cons _).trans (Uz hj)))
end
def GQ(h:cu)(pl:aH)(ps:List Nat):Prop:=∃o c,h.get? pl=aa o/\o.data=.seq (ps.map λk:Nat=>jL k).toArray c
theorem GQ.at(H:GQ h pl ps)(e:∀o,h.get? pl=aa o->h'.get? pl=aa o):GQ h' pl ps:=let ⟨o,c,ho,r⟩:=H;⟨o,c,e o ho,r⟩
theorem ao4(hit:nZ s.heap it S (.ref pl) i n ep)(hs:pN (bt w) s.heap S es ep t)(hp:GQ s.heap pl ps)(hn:n=es.size)(hk:ps[i]?=aa k)(he:es[k]?=aa e)
  (h:∀h',nZ h' it S (.ref pl) (i+1) n ep->zE it s.heap h'->Q (aa e.2) {s with heap:=h'}):aQ (model prog w) A (j7 (.ref it)) Q E s:=by
 obtain⟨o,ho,hc,hd⟩:=id hit
 obtain⟨os,hos,exs,hds,hf,tb⟩:=id hs
 obtain⟨op,cp,hop,hdp⟩:=hp
 unfold j7;refine aJ (Bo (uL (name:=bI "__next__") hit.ty u0 (oZ u0 hit.ty M9 ?_ (Nb _))));unfold mq.«set_iterator.__next__»;refine aJ (bz (aJ (Bd ho hd ?_)));dsimp only[jL];refine aJ (KR hos hds hf ?_);subst hn;rw[bB bF];refine aJ (rm hop hdp ?_);dsimp only;rw[show((ps.map λk:Nat=>jL k).toArray)[((i:Int)).toNat]?=aa (.int (k:Int) 0) by simp[hk,jL]];dsimp only;refine aJ ?_;unfold setNextDrawn;refine aJ (Hi hos hds hf ?_);simp only[Dz,bne_self_eq_false,qj,if_false,he];refine bz (aJ (xM ho hd bF ?_))
 obtain⟨o1,g1,c1,d1⟩:=nZ.set (j:=1) (x:=.int (i+1) 0) ho hc hd
 refine bz ⟨_,rfl,bz (h _ ⟨o1,g1,c1,?_⟩ (rW ..))⟩;rw[d1];simp[jL]
theorem aqR(hh:A.handled=ao)(hit:nZ s.heap it S (.ref pl) i n ep)(hs:pN (bt w) s.heap S es ep t)(hp:GQ s.heap pl ps)(hn:n=es.size)(hk:ps.length<=i)
  (h:∀h',(∀b o,b≠it->s.heap.get? b=aa o->h'.get? b=aa o)->Q ao {s with heap:=h'}):aQ (model prog w) A (j7 (.ref it)) Q E s:=by
 obtain⟨o,ho,hc,hd⟩:=id hit
 obtain⟨os,hos,exs,hds,hf,tb⟩:=id hs
 obtain⟨op,cp,hop,hdp⟩:=hp
 unfold j7;refine aJ (Bo (uL (name:=bI "__next__") hit.ty u0 (oZ u0 hit.ty M9 ?_ (Nb _))));unfold mq.«set_iterator.__next__»;refine aJ (bz (aJ (Bd ho hd ?_)));dsimp only[jL];refine aJ (KR hos hds hf ?_);subst hn;rw[bB bF];refine aJ (rm hop hdp ?_);dsimp only;rw[show((ps.map λk:Nat=>jL k).toArray)[((i:Int)).toNat]?=ao by simp[hk]];dsimp only;refine aJ (xM ho hd bF ?_)
 obtain⟨o1,g1,c1,d1⟩:=nZ.set (j:=0) (x:=.int 0 0) ho hc hd
 refine aJ (xM g1 d1 bF ?_);exact aeD hh λh' kk=>h h' λb o hb e=>kk b o ((((rW ..).trans (rW ..)).2 b hb).trans e)
theorem ams(hh:A.handled=ao)(ne:S≠it)(hb:bt w=aq)(nd:(!t.plain&&decide (es.size>1))=aA)(hz:t.place.size=es.size)(rs:t.place.toList.Pairwise (·<·)):
  yu prog w A it [it,S] [it] es.size (λi v=>(es.toList.map (·.2))[i]?=aa v) (λi h=>nZ h it S (jL (if i=0 then 0 else t.place.getD (i-1) 0+1:Nat)) i es.size ep/\pN (bt w) h S es ep t) where
 sub:=λb hb=>by simp at hb;simp[hb]
 frame:=λ_ _ _ st hk=>⟨st.1.at λo e=>hk it bF o e,st.2.at λo e=>hk S bF o e⟩
 item:=λi s Q E hi st hQ=>by
  have hp:i<t.place.size:=az;have bl:lK t.place (if i=0 then 0 else t.place.getD (i-1) 0+1)=i:=by
   by_cases z:i=0
   .subst z;exact aey rs
   .rw[bB z];have h1:i-1<t.place.size:=az;have:=ab7 rs h1;rw[vL,mY h1,Hl,this];lia
  refine aeC (R:=aa (es[i].2,t.place[i]+1)) st.1 st.2 rfl ne (λc=>acM st.2 hb nd ?_) rfl λh' hit' same=>hQ _ h' s.toks (by simp[hi]) ⟨?_,st.2.at λo e=>(same.2 S ne).trans e⟩ λb o hb e=>(same.2 b λz=>hb (by simp[z])).trans e
  .rw[bl,mY hi,mY hp];exact c
  .have e1:(if i+1=0 then 0 else t.place.getD (i+1-1) 0+1)=t.place[i]+1:=by
    rw[bB az,aiy,vL,mY hp,Hl]
   rw[e1];exact hit'
 done:=λs Q E st hQ=>by
  have bl:lK t.place (if es.size=0 then 0 else t.place.getD (es.size-1) 0+1)=es.size:=by
   by_cases z:es.size=0
   .rw[bC z,z];exact aey rs
   .rw[bB z];have h1:es.size-1<t.place.size:=az;have:=ab7 rs h1;rw[vL,mY h1,Hl,this];lia
  refine afz hh st.1 st.2 rfl (λc=>acM st.2 hb nd ?_) λh' kk=>hQ h' s.toks λb o hb e=>kk b o (λz=>hb (by simp[z])) e
  rw[bl,Z1 (bU _)];exact c
 self:=λ_ _ _ _ st hQ=>WQ st.1 hQ
theorem amu(hh:A.handled=ao)(ne:S≠it)(hb:bt w=aA):
  yu prog w A it [it,S] [it] es.size (λi v=>((Bu (w.params.setOrder S ep) es).toList.map (·.2))[i]?=aa v) (λi h=>nZ h it S (jL (0:Nat)) i es.size ep/\pN (bt w) h S es ep t) where
 sub:=λb hb=>by simp at hb;simp[hb]
 frame:=λ_ _ _ st hk=>⟨st.1.at λo e=>hk it bF o e,st.2.at λo e=>hk S bF o e⟩
 item:=λi s Q E hi st hQ=>by
  have hl:(Bu (w.params.setOrder S ep) es).size=es.size:=by rw[<-lY,(Vg _ es).length_eq,lY]
  have hp:i<(Bu (w.params.setOrder S ep) es).size:=az;refine aeC (R:=aa ((Bu (w.params.setOrder S ep) es)[i].2,0)) st.1 st.2 rfl ne (λc=>acN st.2 hb ?_) rfl λh' hit' same=>hQ _ h' s.toks (by simp[hp]) ⟨hit',st.2.at λo e=>(same.2 S ne).trans e⟩ λb o hb e=>(same.2 b λz=>hb (by simp[z])).trans e
  rw[mY hp];exact c
 done:=λs Q E st hQ=>by
  have hl:(Bu (w.params.setOrder S ep) es).size=es.size:=by rw[<-lY,(Vg _ es).length_eq,lY]
  refine afz hh st.1 st.2 rfl (λc=>acN st.2 hb ?_) λh' kk=>hQ h' s.toks λb o hb e=>kk b o (λz=>hb (by simp[z])) e
  rw[Z1 az];exact c
 self:=λ_ _ _ _ st hQ=>WQ st.1 hQ
theorem als(hh:A.handled=ao)(ne:S≠it)(np:pl≠it)(pp:ps.Perm (dh es.size)):
  yu prog w A it [it,S,pl] [it] es.size (λi v=>(ps.map λk=>(es.getD k (0,.none)).2)[i]?=aa v) (λi h=>nZ h it S (.ref pl) i es.size ep/\pN (bt w) h S es ep t/\GQ h pl ps) where
 sub:=λb hb=>by simp at hb;simp[hb]
 frame:=λ_ _ _ st hk=>⟨st.1.at λo e=>hk it bF o e,st.2.1.at λo e=>hk S bF o e,st.2.2.at λo e=>hk pl bF o e⟩
 item:=λi s Q E hi st hQ=>by
  have hl:ps.length=es.size:=by rw[pp.length_eq,oK]
  have hp:i<ps.length:=az;have hk:ps[i]<es.size:=qZ.mp (pp.mem_iff.mp (vR hp));refine ao4 (k:=ps[i]) (e:=es[ps[i]]) st.1 st.2.1 st.2.2 rfl (fU hp) (mY hk) λh' hit' same=>hQ _ h' s.toks ?_ ⟨hit',st.2.1.at λo e=>(same.2 S ne).trans e,st.2.2.at λo e=>(same.2 pl np).trans e⟩ λb o hb e=>(same.2 b λz=>hb (by simp[z])).trans e
  rw[jC,fU hp,lC,vL,mY hk];rfl
 done:=λs Q E st hQ=>by
  have hl:ps.length=es.size:=by rw[pp.length_eq,oK]
  exact aqR hh st.1 st.2.1 st.2.2 rfl az λh' kk=>hQ h' s.toks λb o hb e=>kk b o (λz=>hb (by simp[z])) e
 self:=λ_ _ _ _ st hQ=>WQ st.1 hQ
section
variable{w:dD}{A:iz}{s:aZ}{S:aH}{ep:Nat}{t:BJ}
theorem amv(hs:pN (bt w) s.heap S es ep t)(h:Q (bt w&&(!t.plain&&decide (es.size>1))) s):aQ (model prog w) A (setDrawn S) Q E s:=by
 obtain⟨os,hos,exs,hds,hf,tb⟩:=id hs
 unfold setDrawn;refine aJ (Hi hos hds hf ?_);refine aJ (Om (bz ?_));rw[Bool.not_not];exact h
theorem anJ(hh:A.handled=ao)(hs:pN (bt w) s.heap S es ep t)(hb:es.size<qu)
  (h:∀(I:aH)(h1:cu)(d:Drawn)(fp:List aH)(out:List aL)(St:Nat->cu->Prop),yu prog w A I fp [I] es.size (λi v=>out[i]?=aa v) St->St 0 h1->out.Perm (es.toList.map (·.2))->(∀b o,s.heap.get? b=aa o->h1.get? b=aa o)->s.heap.objs.size<=I->
   (∀b∈fp,b=S\/s.heap.objs.size<=b)->Q (.ref I) {s with heap:=h1,drawn:=d}):aQ (model prog w) A (BZ (.ref S)) Q E s:=by
 obtain⟨os,hos,exs,hds,hf,tb⟩:=id hs
 have hT:s.TypeIs (.ref S) "set":=⟨os,hos,exs.1⟩
 have lt:S<s.heap.objs.size:=cL hos;have hz:t.place.size=es.size:=by
  have:=hf;simp only[SetTable.fits,j0,beq_iff_eq] at this;exact this.1
 refine aao hT ajp (oZ ajp hT alr ?_ (F.args_set_iter_1 _));unfold mq.«frozenset.__iter__» av5 av1;refine aJ (aJ (bz (bz ?_)));refine aJ (aJ (KR hos hds hf (bz ?_)));refine aJ (amv hs ?_);by_cases hd:(bt w&&(!t.plain&&decide (es.size>1)))=aq
 .rw[bC hd];refine aJ (adz _ _ _ _ (oK ..) λps d pp=>?_);have pl:ps.length=es.size:=by rw[pp.length_eq,oK]
  unfold Vz;refine aJ (mJ ?_ (show(List.map (λi:Nat=>jL i) ps).toArray.size<=cH by rw[gK,bD,pl,lN];unfold qu at hb;lia));have g1:(s.heap.push {cls:=.type "tuple",data:=.seq (ps.map λk:Nat=>jL k).toArray}).get? S=aa os:=cG _ hos;refine aJ (aiN (s:={s with heap:=s.heap.push _,drawn:=d}) g1 hds hf ?_);refine aJ ?_;unfold newFields;refine mJ ?_;refine bz ⟨_,rfl,"set_iterator",_,⟨_,gR _ rfl,rfl⟩,u0.lookup,?_⟩;have vG:(s.heap.push {cls:=.type "tuple",data:=.seq (ps.map λk:Nat=>jL k).toArray}).objs.size=s.heap.objs.size+1:=sy ..;refine h _ _ d [_,S,s.heap.objs.size] _ _ (als (ep:=ep) (t:=t) hh ?_ ?_ pp) ⟨⟨_,gR _ rfl,rfl,rfl⟩,⟨os,cG _ g1,exs,hds,hf,tb⟩,⟨_,0,cG _ (gR _ rfl),rfl⟩⟩ ?_ (λb o e=>cG _ (cG _ e)) ?_ ?_
  .rw[vG];exact gj (vQ lt)
  .rw[vG];exact gj (Lg _)
  .have e2:(dh es.size).map (λk=>(es.getD k (0,j6)).2)=es.toList.map (·.2):=by
    refine DK bF λj h1 h2=>?_
    have hj:j<es.size:=by simpa using h1
    simp[vL,mY hj]
   rw[<-e2];exact pp.map _
  .rw[vG];exact xP _
  .intro b hb';simp only[cg,kE,or_false] at hb';rcases hb' with rfl|rfl|rfl
   .right;rw[vG];exact xP _
   .exact .inl rfl
   .exact .inr (bU _)
 .rw[bB hd];refine aJ (bz ?_);refine aJ (aiN hos hds hf ?_);refine aJ ?_;unfold newFields;refine mJ ?_;refine bz ⟨_,rfl,"set_iterator",_,⟨_,gR _ rfl,rfl⟩,u0.lookup,?_⟩;have agK:∀b,b∈[s.heap.objs.size,S]->b=S\/s.heap.objs.size<=b:=λb hb'=>by
   simp only[cg,kE,or_false] at hb';rcases hb' with rfl|rfl
   .exact .inr (bU _)
   .exact .inl rfl
  cases hbt:bt w with
  |true=>
   rw[hbt] at hd;have nd:(!t.plain&&decide (es.size>1))=aA:=by simpa using hd
   exact h _ _ s.drawn [_,S] _ _ (ams (ep:=ep) hh (gj lt) hbt nd hz tb.Zg) ⟨⟨_,gR _ rfl,rfl,rfl⟩,⟨os,cG _ hos,exs,hds,hf,tb⟩⟩ (.refl _) (λb o e=>cG _ e) (bU _) agK
  |false=>
   exact h _ _ s.drawn [_,S] _ _ (amu (ep:=ep) (t:=t) hh (gj lt) hbt) ⟨⟨_,gR _ rfl,rfl,rfl⟩,⟨os,cG _ hos,exs,hds,hf,tb⟩⟩ ((Vg _ es).map _) (λb o e=>cG _ e) (bU _) agK
end
end L2
namespace L2
open PySem PySem.Spec PySem.W PyProof.Rows
section
variable{prog:fV}{w:dD}{A:iz}{E:aL->aZ->Prop}{s:aZ}{S:aH}{es:Array (Int×aL)}{ep:Nat}{t:BJ}
theorem anK(hT:s.TypeIs (.ref S) "set")(h:Q aA s):aQ (model prog w) A (ahK (.ref S)) Q E s:=by
 unfold ahK;refine aJ (wpAny_specialOf hT PySem.F.slot_set_len.lookup ?_);generalize hid:("set.__len__":String)=nm
 wp_delta
 rw[show splitId nm=aa ("set","__len__") by subst hid;decide +kernel];subst hid;refine aJ (RJ (T:="set") (b:=aq) hT (by rw[aa9];kernel_rfl) ?_);refine R7 (λz=>absurd z bA) λ_=>R7 (λ_=>?_) λz=>absurd bL z
 exact aJ (Mj hT (bz h))
theorem amw{out:List aL}(h:ItemsOf (λi v=>out[i]?=aa v) bJ out.length):bJ=out.toArray:=by
 refine Array.ext (by simpa using h.1) λj h1 h2=>?_
 have this:out[j]?=aa bJ[j]:=h.2 j bJ[j] (mY h1);have hj:j<out.length:=by simpa using h2
 rw[fU hj] at this;simpa using(jj this).symm
theorem alu{R:zX->aZ->Prop}(hh:A.handled=ao)(hs:pN (bt w) s.heap S es ep t)(hb:es.size<qu){L:aH}(ne:L≠S){c0:Nat}(hL:s.heap.get? L=aa {cls:=.type "list",data:=.seq #[] c0})(res:aL)
  (hR:∀(h':cu)(d:Drawn)(tk:Nat)(us:List aL)(c':Nat),us.Perm (es.toList.map (·.2))->(∀b o,b≠L->s.heap.get? b=aa o->h'.get? b=aa o)->h'.get? L=aa {cls:=.type "list",dict:=ao,data:=.seq us.toArray c',slots:=#[]}->
   R (.ok (.ret res)) {s with heap:=h',drawn:=d,toks:=tk}):
  aQ (model prog w) A.in1 (Rb (.ref L) (.ref S) res) (λfin s'=>match fin with|.done f=>R (.ok f) s'|.again c'=>c'.quiet=aq/\lQ (model prog w) A c' R s') (λe s'=>R (.error e) s') s:=by
 obtain⟨os,hos,exs,hds,hf,tb⟩:=id hs
 have hT:s.TypeIs (.ref S) "set":=⟨os,hos,exs.1⟩
 have ltL:L<s.heap.objs.size:=cL hL;unfold Rb;refine aJ (Mj hT ?_);rw[show(ZR (.ref L) (.ref S)||xT "set"==xT "list"||xT "set"==xT "tuple")=aA by
  rw[show ZR (.ref L) (.ref S)=aA by simp[ZR,ne]];decide]
 simp only[qj,if_false];refine aJ (anJ (A:=A.in1) hh hs hb λI h1 d fp out St W st pm kp geI okf=>?_);have lo:out.length=es.size:=by rw[pm.length_eq,bD,lY]
 have iI:L∉fp:=λz=>(okf L z).elim ne λz'=>absurd ltL (Ij.mpr z')
 have run:∀(h2:cu)(c1 tk:Nat),St 0 h2->(∀b o,b≠L->s.heap.get? b=aa o->h2.get? b=aa o)->h2.get? L=aa {cls:=.type "list",data:=.seq #[] c1}->
   lQ (model prog w) A (.builtin "list.extend.loop" ⟨[.ref L,.ref I,res],[]⟩) R {s with heap:=h2,drawn:=d,toks:=tk}:=λh2 c1 tk st2 k2 g2=>by
  refine codeAny_extend_loopS W.toS (aav hb) L iI res es.size 0 _ #[] c1 rfl (j5 _) st2 g2 (ItemsOf.nil _) λs3 bJ c3 mv g3 io=>?_
  rw[<-lo] at io;have ea:=amw io;subst ea;rw[Moved.eq_with mv];refine hR s3.heap d s3.toks out c3 pm (λb o nb e=>mv.heap b o (λz=>?_) (k2 b o nb e)) g3;rcases cg.mp z with z|z
  .exact nb z
  .exact absurd (cL e) (by rw[gU.mp z];exact Ij.mpr geI)
 have gL:=kp L _ hL;have gS:ajT {s with heap:=h1,drawn:=d} (.ref S) "set":=⟨os,kp S _ hos,exs.1⟩
 refine aJ (nF (anK gS ?_));refine R7 (λ_=>?_) λ_=>bz ⟨sH ahS _,run h1 c0 s.toks st (λb o _ e=>kp b o e) gL⟩
 refine aJ (ug (aJ (show aQ _ _ (Iv L (·.push .none) >>= λ_=>Iv L (·.pop)) _ _ _ from ?_)));refine aJ (Ba gL rfl ?_);have u2:=vM (o9 (·.push j6)) gL rfl;refine Ba (hz:=by seq_fits) u2 rfl ?_;have u3:=vM (o9 (·.pop)) u2 rfl;have far:∀b o,b≠L->h1.get? b=aa o->((h1.update L (o9 (·.push j6))).update L (o9 (·.pop))).get? b=aa o:=λb o nb e=>
  (qi _ _ (kJ nb)).trans ((qi _ _ (kJ nb)).trans e)
 exact bz ⟨sH ahS _,run _ _ s.toks (W.frame 0 _ _ st λb hb' o e=>far b o (λz=>iI (z▸hb')) e) (λb o nb e=>far b o nb (kp b o e)) u3⟩
theorem akT(hh:A.handled=ao)(hs:pN (bt w) s.heap S es ep t)(hb:es.size<qu)
  (h:∀(h':cu)(d:Drawn)(tk:Nat)(us:List aL),us.Perm (es.toList.map (·.2))->s.heap.objs.size<=h'.objs.size->(∀b o,s.heap.get? b=aa o->h'.get? b=aa o)->R us {s with heap:=h',drawn:=d,toks:=tk}):
  aQ (model prog w) A (collect (.ref S)) R E s:=by
 have ltS:S<s.heap.objs.size:=let ⟨_,e,_⟩:=hs;cL e
 unfold collect;refine aJ (aa6 (rZ entry_proto_collect' ?_));rw[tW ahJ _];show aQ _ A.in1 (newList [] >>= λl=>again (.builtin "list.__iadd__" ⟨[l,.ref S],[]⟩)) _ _ s;refine aJ (mJ (bz ⟨sH Ri _,rZ entry_list_iadd' ?_⟩));rw[tW Ri _];have g0:(s.heap.push {cls:=.type "list",data:=.seq ([]:List aL).toArray}).get? s.heap.objs.size=aa {cls:=.type "list",data:=.seq #[]}:=gR _ rfl;show aQ _ A.in1 (Rb (.ref s.heap.objs.size) (.ref S) (.ref s.heap.objs.size)) _ _ _;have key:=alu (prog:=prog) (A:=A) (s:={s with heap:=s.heap.push {cls:=.type "list",data:=.seq ([]:List aL).toArray}})
  (R:=λ(q:zX)(s':aZ)=>∃(h':cu)(d:Drawn)(tk:Nat)(us:List aL)(c':Nat),q=.ok (.ret (.ref s.heap.objs.size))/\s'={s with heap:=h',drawn:=d,toks:=tk}/\us.Perm (es.toList.map (·.2))/\(∀b o,s.heap.get? b=aa o->h'.get? b=aa o)/\h'.get? s.heap.objs.size=aa {cls:=.type "list",dict:=ao,data:=.seq us.toArray c',slots:=#[]})
  hh (hs.at λo e=>cG _ e) hb (uR ltS) g0 (.ref s.heap.objs.size) (λh' d tk us c' pm kk g=>⟨h',d,tk,us,c',rfl,rfl,pm,λb o e=>kk b o (gj (cL e)) (cG _ e),g⟩)
 refine uf key (λfin s' x=>?_) λe s' x=>?_
 .cases fin with
  |done f=>
   obtain⟨h',d,tk,us,c',e,rfl,pm,kk,g⟩:=x
   cases e;show aQ _ A (load s.heap.objs.size >>= _) _ _ _;exact aJ (MN g (bz (h h' d tk us pm (Ea (cL g)) kk)))
  |again c1=>
   refine⟨x.1,Eb x.2 λq s2 y=>?_⟩
   obtain⟨h',d,tk,us,c',rfl,rfl,pm,kk,g⟩:=y
   show aQ _ A (load s.heap.objs.size >>= _) _ _ _;exact aJ (MN g (bz (h h' d tk us pm (Ea (cL g)) kk)))
 .obtain⟨_,_,_,_,_,e',_⟩:=x
  cases e'
end
section
variable{prog:fV}{w:dD}{A:iz}{E:aL->aZ->Prop}{s:aZ}{S:aH}{es:Array (Int×aL)}{ep:Nat}{t:BJ}
theorem ace{Ok:List aL->Prop}(hh:A.handled=ao)(hs:pN (bt w) s.heap S es ep t)(few:es.size<64)
  (srt:∀us:List aL,us.Perm (es.toList.map (·.2))->∀(B:iz)(s1:aZ)(a:aH)(n:Nat)(P:Fin->aZ->Prop)(E':aL->aZ->Prop),s1.heap.get? a=aa (seqObj "list" us.toArray n)->
   (∀out:Array aL,Ok out.toList->P (.done (.ret .none)) {s1 with heap:=sortedHeap s1.heap a us out})->aQ (model prog w) B (mq.«list.sort» ⟨[.ref a],[]⟩) P E' s1)
  (h:∀(D:aH)(h':cu)(d:Drawn)(tk c:Nat)(out:Array aL),Ok out.toList->s.heap.objs.size<=D->(∀b o,s.heap.get? b=aa o->h'.get? b=aa o)->h'.get? D=aa (seqObj "list" out c)->Q (.ref D) {s with heap:=h',drawn:=d,toks:=tk}):
  aQ (model prog w) A (call (.builtin "sorted") [.ref S]) Q E s:=by
 refine ahR kind_sorted plain_sorted entry_sorted (args_sorted1 _) ?_;unfold mq.«sorted»;refine aJ (m:=checkCount "sorted" 1 1 _) (bz (aJ (akT (A:=A.in1) hh hs (by unfold qu;lia) λh1 d tk us pm ge kk=>?_)));have lu:us.length=es.size:=by rw[pm.length_eq,bD,lY]
 refine aJ (abm ?_ (by rw[lN];lia));have gL:(h1.push (seqObj "list" us.toArray 0)).get? h1.objs.size=aa (seqObj "list" us.toArray 0):=gR _ rfl;refine aJ (nF (oZ slot_list_sort ⟨_,gL,rfl⟩ entry_list_sort (srt us pm _ {s with heap:=h1.push (seqObj "list" us.toArray 0),drawn:=d,toks:=tk} _ 0 _ _ gL λout ok=>⟨_,rfl,?_⟩) (args_list_sort _)))
 obtain⟨c,gD⟩:=sortedHeap_at (out:=out) gL
 refine bz ⟨_,rfl,h h1.objs.size _ d tk c out ok ge (λb o e=>?_) gD⟩;have lb:b<h1.objs.size:=cL (kk b o e)
 show(sortedHeap (h1.push (seqObj "list" us.toArray 0)) h1.objs.size us out).get? b=aa o
 rw[sortedHeap_old (gj lb) (by rw[sy];exact vQ lb)];exact cG _ (kk b o e)
end
theorem Inv.drew(d:Drawn)(I:Inv X au σ H s):Inv X au σ H {s with drawn:=d}:=
 I.call (g':=s.gens) (t':=s.toks) (d':=d) (ch:=[]) (Un.kept λ_ _ e=>e) (I.hok.kept λ_ _ e=>e) I.bare (λ_ z=>nomatch z)
theorem ajw(l:List α)(d:α):(dh l.length).map (λi=>l.getD i d)=l:=by
 refine DK bF λi h1 h2=>?_
 simp[h2]
section
variable{X:Cx}{T:Type}[DecidableEq T]{knd:Bg X.prog X.w T}{l:Expr}{tl:TE}{p1 p2 pos1 pos2:Pos}
theorem anL(mk:T->V)(dflt:T)(hk:∀k v,RelV (mk k) v->knd.is k v=aq/\v.scannable=aq)(hc:X.calm=aq)(hl:PE X l tl)(g2:Gl X "set")(m2:X.mg "set"=ao){σ:St}{H:Hp}{R:List T->Hp->Prop}(I:Inv X au σ H s)
  (h:tl σ H λx H1=>∃(a:aH)(ns:List T),[x]=[V.ref a]/\cj X.K H1 a (ns.map mk)/\ns.length<64/\R ns H1)(he:bM [l] X.env=(aA,eval l X.env)::bM [] X.env:=by rfl)(hpl:(iC pos2 (bM [] X.env)).any (·.1)=aA:=by rfl):
  aQ (model X.prog X.w) X.A (eval (.Call (.Name "set" p2) [l] [] pos2) X.env) (λv s'=>∃(S:aH)(ns:List T)(H1:Hp),v=.ref S/\Inv X au σ H1 s'/\nU knd s'.heap S (dedup ns)/\ns.length<64/\R ns H1) X.xe s:=by
 refine Dy (wI I g2 m2 (u:=.type "set") rfl ?_);refine KD (b7 (qx hl ur he pos2 au s σ H (λvs H1=>∃(a:aH)(ns:List T),vs=[V.ref a]/\cj X.K H1 a (ns.map mk)/\ns.length<64/\R ns H1) I h) λus s1 aY=>?_) he hpl
 obtain⟨vs,H1,I1,r1,q1⟩:=aY
 obtain⟨a,ns,rfl,ha,h64,q⟩:=q1
 obtain⟨u,rfl,ru⟩:=vals1 r1
 cases ru
 obtain⟨aK,rv,pl,_⟩:=I1.list ha
 have ln:aK.length=ns.length:=by rw[<-rv.length,bD]
 have at':∀i v,aK.toArray[i]?=aa v->knd.is (ns.getD i dflt) v=aq/\v.scannable=aq:=λi v e=>by
  rw[List.getElem?_toArray] at e;have hi:i<aK.length:=(jZ.mp e).1;have r:=Vals.get (i:=i) (x:=mk (ns.getD i dflt)) rv (by simp[jC,fU (ln▸hi),pR])
  obtain⟨v',e',r'⟩:=r
  rw[e] at e';cases e';exact hk _ _ r'
 refine amo (knd:=knd) (val:=λi=>ns.getD i dflt) (I1.ok.hd hc) pl.isList at' (by rw[gK,ln];unfold qu;lia) λh' tk hS kk=>?_
 have e0:(dh aK.toArray.size).map (λi=>ns.getD i dflt)=ns:=by rw[show aK.toArray.size=ns.length from(gK ..).trans ln,ajw]
 rw[e0] at hS
 exact⟨_,ns,H1,rfl,I1.kept kk,hS,h64,q⟩
end
def Yx:aL->Int
 |.int k _=>k
 |_=>0
theorem adA:∀(us:List aL),(∀v,v∈us->∃k t,v=.int k t)->IntsAre us (us.map Yx)
 |[],_=>.nil
 |v::us,h=>by
  obtain⟨k,t,rfl⟩:=h v (eV ..)
  exact .cons k t (adA us λx hx=>h x (fQ _ hx))
theorem anM(h:mW (intKind prog w) es ks):(es.map (·.2)).map Yx=ks/\∀v,v∈es.map (·.2)->∃k t,v=.int k t:=by
 induction h with
 |nil=>exact⟨rfl,λv hv=>by cases hv⟩
 |@cons e k es ks a _ ih=>
  obtain⟨t,ht⟩:=aiA (show abI k e.2=aq from a.1)
  refine⟨by rw[dU,dU,ih.1,ht];rfl,λv hv=>?_⟩
  rcases cg.mp hv with rfl|hv
  .exact⟨k,t,ht⟩
  .exact ih.2 v hv
theorem anN(h:mW (Ma prog w) es ks):(es.map (·.2)).map strOf=ks/\∀v,v∈es.map (·.2)->∃x t,v=.str x t:=by
 induction h with
 |nil=>exact⟨rfl,λv hv=>by cases hv⟩
 |@cons e k es ks a _ ih=>
  obtain⟨t,ht⟩:=ain (show abk k e.2=aq from a.1)
  refine⟨by rw[dU,dU,ih.1,ht];rfl,λv hv=>?_⟩
  rcases cg.mp hv with rfl|hv
  .exact⟨k,t,ht⟩
  .exact ih.2 v hv
def ar7(K:bw)(tl:TE):TE:=λσ H Q=>tl σ H λx H1=>∃(a:aH)(ns:List Int),[x]=[V.ref a]/\cj K H1 a (ns.map V.int)/\ns.length<64/\∀(D:aH)(ns':List Int),H1 D=ao->ns'.Perm (dedup ns)->ns'.Pairwise (·<=·)->Q (.ref D) (upd H1 D (.lst (ns'.map V.int)))
section
variable{X:Cx}{l:Expr}{tl:TE}{p1 p2 pos1 pos2:Pos}
theorem akU(hc:X.calm=aq)(hl:PE X l tl)(g1:Gl X "sorted")(m1:X.mg "sorted"=ao)(g2:Gl X "set")(m2:X.mg "set"=ao)
  (he:bM [.Call (.Name "set" p2) [l] [] pos2] X.env=(aA,eval (.Call (.Name "set" p2) [l] [] pos2) X.env)::bM [] X.env:=by rfl)(hpl:(iC pos1 (bM [] X.env)).any (·.1)=aA:=by rfl)
  (he2:bM [l] X.env=(aA,eval l X.env)::bM [] X.env:=by rfl)(Yy:(iC pos2 (bM [] X.env)).any (·.1)=aA:=by rfl):
  PE X (.Call (.Name "sorted" p1) [.Call (.Name "set" p2) [l] [] pos2] [] pos1) (ar7 X.K tl):=by
 intro au s σ H Q I h;refine Dy (wI I g1 m1 (u:=.builtin "sorted") rfl ?_);refine ZG ?_ he hpl;rw[he];show aQ _ _ (Jb ((aA,eval (.Call (.Name "set" p2) [l] [] pos2) X.env)::iC pos1 (bM [] X.env))) _ _ s;refine Hf (b7 (anL (knd:=intKind X.prog X.w) V.int 0 (λk v r=>?_) hc hl g2 m2 I h he2 Yy) λv s1 ⟨S,ns,H1,e,I1,hS,h64,q⟩=>K5 ?_)
 .obtain⟨t,rfl⟩:=r
  exact⟨PySem.intKind_is _ _ _ _,rfl⟩
 subst e
 obtain⟨o,es,ep,t,ho,ex,hd,⟨ks',ek,pk⟩,hb,hf,tb⟩:=hS
 obtain⟨e1,e2⟩:=anM ek
 have few:es.size<64:=by
  have:=Eo ns;rw[<-lY,ek.len,pk.length_eq];lia
 refine ace (Ok:=λout=>∃ns',IntsAre out ns'/\ns'.Perm (dedup ns)/\ns'.Pairwise (·<=·)) (I1.ok.hd hc) ⟨o,ho,ex,hd,hf,tb⟩ few (λus pm B s2 a n P E' ho' hp=>?_) λD h' d tk c out ok ge kk gD=>?_
 .refine list_sort_tree ho' (adA us λv hv=>e2 v (pm.mem_iff.mp hv)) (by rw[pm.length_eq,bD,lY];exact few) λout ns' a1 a2 a3=>hp out ⟨ns',a1,a2.trans ?_,a3⟩
  exact(pm.map Yx).trans (by rw[e1];exact pk)
 .obtain⟨ns',a1,a2,a3⟩:=ok
  have hz:ns'.length<=cH:=by
   have:=Eo ns;rw[a2.length_eq,lN];lia
  exact⟨.ref D,_,(I1.laid (o:=.lst (ns'.map V.int)) (t':=tk) kk ge ⟨by rw[bD];exact hz,out.toList,c,M7 a1,by simpa[seqObj] using gD⟩).drew d,rfl,q D ns' (I1.hok.fresh ge) a2 a3⟩
end
section
variable{prog:fV}{w:dD}{A:iz}{s:aZ}{I S:aH}{fp wr:List aH}{n:Nat}{St:Nat->cu->Prop}{bt:Nat->Nat->Bool}
def agb(v:aL)(c:Nat):Obj:={cls:=.type "list",dict:=ao,data:=.seq #[v,v] c,slots:=#[]}
theorem ao5(W:yu prog w A.in1 I fp wr n Pv St)(cmp:CmpOf prog w A.in1 .Gt Pv bt)(out:S∉fp)(kw:List (Str×aL)):∀(m j:Nat)(s:aZ)(vb:aL)(c:Nat),n-(j+1)=m->j+1<=n->St (j+1) s.heap->Pv (jk bt j) vb->s.heap.get? S=aa (agb vb c)->
  (∀v h' tk,Pv (jk bt (n-1)) v->(∀b o,b∉wr->b≠S->s.heap.get? b=aa o->h'.get? b=aa o)->R (.ok (.ret v)) {s with heap:=h',toks:=tk})->lQ (model prog w) A (.builtin "max.loop" ⟨[.ref I,.none,.ref S],kw⟩) R s:=by
 have uE:S∉wr:=λz=>out (W.sub _ z)
 have nm:(toString "max"++toString ".loop":String)="max.loop":=bA;intro m;induction m with
 |zero=>
  intro j s vb c hm hj st pb hS hR;have last:j+1=n:=az;refine rZ G8 ?_;rw[tW rT _];show aQ _ A.in1 (Bv (.ref S) >>= _) _ _ s;refine aJ (rm hS rfl ?_);show aQ _ A.in1 (tryCatch (j7 (.ref I)) _ >>= _) _ _ s;refine aJ (zA (W.done s _ _ (last▸st) λh' tk kk=>?_));have g:=kk S _ uE hS;show aQ _ A.in1 (Iv S (λ_=>#[]) >>= _) _ _ _;refine aJ (Ba g rfl (aJ (xQ (bz ?_))));exact hR vb _ tk (by rw[<-last];exact pb) λb o hb hbS e=>(qi _ _ (kJ hbS)).trans (kk b o hb e)
 |succ m ih=>
  intro j s vb c hm hj st pb hS hR;have lt:j+1<n:=az;refine rZ G8 ?_;rw[tW rT _];show aQ _ A.in1 (Bv (.ref S) >>= _) _ _ s;refine aJ (rm hS rfl ?_);show aQ _ A.in1 (tryCatch (j7 (.ref I)) _ >>= _) _ _ s;refine aJ (zA (W.item (j+1) s _ _ lt st λv h' tk pv st' kk=>?_));have g:=kk S _ uE hS;show aQ _ A.in1 (tryCatch (rD [v,v] (Ed .Gt v vb >>= _)) _ >>= _) _ _ _;refine aJ (zA (nF (aJ (cmp (j+1) (jk bt j) v vb _ _ _ pv pb ?_))));refine aJ (nF (vP (aJ (xQ (bz ?_)))));cases hb:bt (j+1) (jk bt j) with
  |true=>
   simp only[if_true];refine aJ (Ba g rfl (aJ (xQ ?_)));rw[nm];refine bz ⟨sH rT _,ih (j+1) _ v _ az lt (W.frame _ _ _ st' λb hbf o e=>(qi _ _ λz:S=b=>out (z▸hbf)).trans e) (by simp only[jk,hb,if_true];exact pv) (vM _ g rfl) λv' h2 tk2 vH rO=>?_⟩;exact hR v' h2 tk2 vH λb o hb' hbS e=>rO b o hb' hbS ((qi _ _ (kJ hbS)).trans (kk b o hb' e))
  |false=>
   simp only[qj,if_false];refine aJ (xQ ?_);rw[nm];refine bz ⟨sH rT _,ih (j+1) _ vb c az lt st' (by simp only[jk,hb,qj,if_false];exact pb) g λv' h2 tk2 vH rO=>?_⟩;exact hR v' h2 tk2 vH λb o hb' hbS e=>rO b o hb' hbS (kk b o hb' e)
theorem ao6(W:yu prog w A.in1 I fp wr n Pv St)(cmp:CmpOf prog w A.in1 .Gt Pv bt)(out:S∉fp)(st:St 0 s.heap)(hS:s.heap.get? S=aa {cls:=.type "list",dict:=ao,data:=.seq #[] c,slots:=#[]})
  (hR:∀v h' tk,(if n=0 then v=d else Pv (jk bt (n-1)) v)->(∀b o,b∉wr->b≠S->s.heap.get? b=aa o->h'.get? b=aa o)->R (.ok (.ret v)) {s with heap:=h',toks:=tk}):lQ (model prog w) A (.builtin "max.loop" ⟨[.ref I,.none,.ref S],[(k,d)]⟩) R s:=by
 have uE:S∉wr:=λz=>out (W.sub _ z)
 have nm:(toString "max"++toString ".loop":String)="max.loop":=bA;refine rZ G8 ?_;rw[tW rT _];show aQ _ A.in1 (Bv (.ref S) >>= _) _ _ s;refine aJ (rm hS rfl ?_);by_cases h0:n=0
 .show aQ _ A.in1 (tryCatch (j7 (.ref I)) _ >>= _) _ _ s;refine aJ (zA (W.done s _ _ (h0▸st) λh' tk kk=>?_));show aQ _ A.in1 (rule _ >>= λ_=>ret d) _ _ _;exact aJ (ug (bz (hR d h' tk (by rw[bC h0]) λb o hb _ e=>kk b o hb e)))
 .show aQ _ A.in1 (tryCatch (j7 (.ref I)) _ >>= _) _ _ s;refine aJ (zA (W.item 0 s _ _ az st λv h' tk pv st' kk=>?_));have g:=kk S _ uE hS;show aQ _ A.in1 (Iv S (λ_=>#[v,v]) >>= _) _ _ _;refine aJ (Ba g rfl ?_);rw[nm];refine bz ⟨sH rT _,ao5 W cmp out _ _ 0 _ v _ rfl az (W.frame _ _ _ st' λb hbf o e=>(qi _ _ λz:S=b=>out (z▸hbf)).trans e) pv (vM _ g rfl) λv' h2 tk2 vH rO=>?_⟩;exact hR v' h2 tk2 (by rw[bB h0];exact vH) λb o hb' hbS e=>rO b o hb' hbS ((qi _ _ (kJ hbS)).trans (kk b o hb' e))
end
section
variable{prog:fV}{w:dD}{A:iz}{E:aL->aZ->Prop}{s:aZ}
theorem amx(a d:aL):Cg "max" ⟨[a],[("default",d)]⟩:=by unfold Cg;kernel_rfl
def maxD(d:Int):List Int->Int
 |[]=>d
 |n::ns=>ns.foldl max n
theorem adB(val:Nat->Int):∀k,val (jk (λi j=>decide (val i>val j)) k)=((dh k).map λi=>val (i+1)).foldl max (val 0)
 |0=>rfl
 |k+1=>by
  rw[R4,j4,aiM,<-adB val k];rw[show jk (λi j=>decide (val i>val j)) (k+1)=if decide (val (k+1)>val (jk (λi j=>decide (val i>val j)) k)) then k+1 else jk (λi j=>decide (val i>val j)) k from rfl];by_cases h:val (k+1)>val (jk (λi j=>decide (val i>val j)) k)
  .rw[bC (dW h)];show val (k+1)=max _ (val (k+1));lia
  .rw[bB (by simpa using h)];show _=max _ (val (k+1));lia
theorem ao7(ns:List Int)(h:0<ns.length)(d:Int):ns.getD (jk (λi j=>decide (ns.getD i 0>ns.getD j 0)) (ns.length-1)) 0=maxD d ns:=by
 have:=adB (λi=>ns.getD i 0) (ns.length-1);rw[show ns.getD (jk (λi j=>decide (ns.getD i 0>ns.getD j 0)) (ns.length-1)) 0=_ from this];cases ns with
 |nil=>cases h
 |cons a as=>
  show _=as.foldl max a;have e:(dh ((a::as).length-1)).map (λi=>(a::as).getD (i+1) 0)=as:=by
   rw[fY,aiy];refine DK bF λi h1 h2=>?_
   simp[h2]
  rw[e];rfl
theorem abA{id:String}{b:mq}{as:List aL}{kw:List (Str×aL)}{Q:aL->aZ->Prop}(hk:builtinKind id=ao)(hp:plainId id=aq)(hb:VH table id=aa b)(ha:Cg id ⟨as,kw⟩)
  (hc:aQ (model prog w) A.in1 (b ⟨as,kw⟩) (λfin s'=>match fin with
   |.done f=>(match(Except.ok f:zX) with|.ok (.ret v)=>Q v s'|.ok _=>False|.error e=>E e s')
   |.again c'=>c'.quiet=aq/\lQ (model prog w) A c' (λr s'=>match r with|.ok (.ret v)=>Q v s'|.ok _=>False|.error e=>E e s') s') E s):aQ (model prog w) A (call (.builtin id) as kw) Q E s:=by
 refine ab1 (aih hp hb ?_);simp only[ajb,hk];cases hg:Manifest.signature? id with
 |none=>exact bz hc
 |some sg=>
  simp only[Cg,hg] at ha;show aQ _ A.in1 (ajx id sg ⟨as,kw⟩) _ _ s;rw[show ajx id sg ⟨as,kw⟩=pure () from ha];exact bz hc
theorem amy(hh:A.handled=ao)(hl:s.heap.IsList l aK.toArray)(hi:IntsAre aK ns)
  (h:∀(v:aL)(h':cu)(tk:Nat),(if ns=[] then v=d else ∃t,v=zJ (maxD 0 ns) t)->(∀b o,s.heap.get? b=aa o->h'.get? b=aa o)->Q v {s with heap:=h',toks:=tk}):aQ (model prog w) A (call (.builtin "max") [.ref l] [("default",d)]) Q E s:=by
 have nm:(toString "max"++toString ".loop":String)="max.loop":=bA;have ln:aK.length=ns.length:=hi.length;have J9:l<s.heap.objs.size:=by obtain⟨o,ho,_⟩:=hl;exact cL ho
 refine abA ajc aiO aiP (amx _ _) ?_;show aQ _ A.in1 (Rc "max" ["key","default"] 0 ⟨[],[("default",d)]⟩ >>= _) _ _ s;refine aJ (HS (show Rc "max" ["key","default"] 0 ⟨[],[("default",d)]⟩=pure [ao,aa d] from rfl) (aJ (bz ?_)));refine aJ (K4 hl (aJ (mJ ?_)));rw[nm];have vG:(s.heap.push {cls:=.type "list_iterator",data:=.fields #[.ref l,.int 0 0]}).objs.size=s.heap.objs.size+1:=sy ..;have W:=Uv (prog:=prog) (w:=w) (A:=A.in1) (by simp[hh]) s.heap.objs.size l (gj J9) aK.toArray;have val:∀(i:Nat)(v:aL),aK.toArray[i]?=aa v->∃t,v=zJ (ns.getD i 0) t:=λi v hv=>IntsAre.int_at hi i v (by simpa using hv)
 refine bz ⟨sH rT _,?_⟩;show lQ (model prog w) A (.builtin "max.loop" ⟨[.ref s.heap.objs.size,.none,.ref (s.heap.push {cls:=.type "list_iterator",data:=.fields #[.ref l,.int 0 0]}).objs.size],[("default",d)]⟩) _ {s with heap:=(s.heap.push {cls:=.type "list_iterator",data:=.fields #[.ref l,.int 0 0]}).push {cls:=.type "list",data:=.seq #[]}};refine ao6 W (CmpOf.ints_gt (λi=>ns.getD i 0) val) ?_ ⟨⟨_,cG _ (gR _ rfl),rfl,rfl⟩,(hl.push _).push _⟩ (gR _ rfl) λv h' tk hv kk=>?_
 .rw[vG];simp only[cg,kE,or_false,not_or]
  exact⟨uR (Lg _),uR (vQ J9)⟩
 .refine h v h' tk ?_ λb o e=>kk b o ?_ ?_ (cG _ (cG _ e))
  .by_cases hn:ns=[]
   .rw[bC hn];rw[bC (by rw[gK,ln,hn];rfl)] at hv;exact hv
   .rw[bB hn];have pos:0<ns.length:=List.length_pos_iff.mpr hn;rw[bB (by rw[gK,ln];lia),gK,ln] at hv
    obtain⟨t,e⟩:=val _ v hv
    rw[ao7 ns pos 0] at e
    exact⟨t,e⟩
  .simp only[cg,kE,or_false];exact gj (cL e)
  .rw[vG];exact gj (vQ (cL e))
end
def ar8(K:bw)(tl td:TE):TE:=λσ H Q=>tl σ H λx H1=>td σ H1 λy H2=>∃(a:aH)(ns:List Int)(k:Int),x=.ref a/\y=.int k/\cj K H2 a (ns.map V.int)/\Q (.int (maxD k ns)) H2
section
variable{X:Cx}{l de:Expr}{tl td:TE}{p pos kp:Pos}
theorem ao8(hc:X.calm=aq)(hl:PE X l tl)(hd:PE X de td)(hg:Gl X "max")(hm:X.mg "max"=ao)(he:bM [l] X.env=(aA,eval l X.env)::bM [] X.env:=by rfl):PE X (.Call (.Name "max" p) [l] [⟨aa "default",de,kp⟩] pos) (ar8 X.K tl td):=by
 intro au s σ H Q I h;refine Dy (wI I hg hm (u:=.builtin "max") rfl ?_);have he2:iC pos (bM [l] X.env)=(aA,eval l X.env)::iC pos (bM [] X.env):=by rw[he];rfl
 refine callWith_kw (e:=l) (rest:=[]) ?_ (he:=he2) (hplain:=by rw[he2];rfl);show aQ _ _ (Jb (iC pos (bM [l] X.env))) _ _ s;rw[he];show aQ _ _ (Jb ((aA,eval l X.env)::iC pos (bM [] X.env))) _ _ s;refine Hf (b7 (hl au s σ H _ I h) λv s1 ⟨x,H1,I1,r1,q1⟩=>K5 ?_);refine kws_cons (b7 (hd au s1 σ H1 _ I1 q1) λu s2 ⟨y,H2,I2,r2,a,ns,k,ex,ey,ha,q2⟩=>kws_nil ?_);subst ex ey;cases r1
 obtain⟨t,rfl⟩:=r2
 obtain⟨aK,rv,pl,_⟩:=I2.list ha
 refine amy (I2.ok.hd hc) pl.isList (intsAre_of rv) λv h' tk hv kk=>⟨.int (maxD k ns),H2,I2.kept kk,?_,q2⟩
 by_cases hn:ns=[]
 .rw[bC hn] at hv;rw[hn,hv]
  exact⟨t,rfl⟩
 .rw[bB hn] at hv
  obtain⟨t',e⟩:=hv
  rw[e];cases ns with
  |nil=>exact absurd rfl hn
  |cons n ns=>exact⟨t',rfl⟩
end
end L2
namespace L2
open PySem PySem.Spec PyProof.Rows PySem.W
noncomputable def f9:aB->Option Key
 |.int i=>aa (.inl i)
 |.str x=>aa (.inr x)
 |_=>ao
def keysOf:List aB->Option (List Key)
 |[]=>aa []
 |d::r=>match f9 d,keysOf r with
  |some k,some t=>aa (k::t)
  |_,_=>ao
def lE:aB->Option (List Key)
 |.tuple ds=>keysOf ds
 |_=>ao
def dO{κ:Type}(f:aB->Option κ):List (aB×aB)->Option (List κ)
 |[]=>aa []
 |p::r=>match f p.1,dO f r with
  |some k,some t=>aa (k::t)
  |_,_=>ao
def xG(H:Hp)(a:aH)(aC:List (aB×aB))(vs:List V):Prop:=
 (∃ks,dO f9 aC=aa ks/\∃ep,H a=aa (.dK (ks.zip vs) ep))\/∃ks,(aC≠[]/\dO lE aC=aa ks)/\∃ep,H a=aa (.dT (ks.zip vs) ep)
theorem Zh(h:∃ep,H a=aa (.dK aC ep)):yU H a aC:=let ⟨ep,e⟩:=h;⟨ep,.inl e⟩
theorem rdT(h:∃ep,H a=aa (.dT aC ep)):Dm H a aC:=let ⟨ep,e⟩:=h;⟨ep,.inl e⟩
mutual
def RZ(H:Hp):aB->V->Prop
 |.none,v=>v=.non
 |.bool b,v=>v=.bl b
 |.int i,v=>v=.int i
 |.str x,v=>v=.str x
 |.list ds,v=>∃a vs,v=.ref a/\H a=aa (.lst vs)/\cM H ds vs
 |.tuple ds,v=>∃a vs,v=.ref a/\H a=aa (.tup vs)/\cM H ds vs
 |.dict aC,v=>∃a vs,v=.ref a/\xG H a aC vs/\kh H aC vs
def cM(H:Hp):List aB->List V->Prop
 |[],vs=>vs=[]
 |d::ds,vs=>∃v r,vs=v::r/\RZ H d v/\cM H ds r
def kh(H:Hp):List (aB×aB)->List V->Prop
 |[],vs=>vs=[]
 |p::r,vs=>∃v t,vs=v::t/\RZp H p v/\kh H r t
def RZp(H:Hp):aB×aB->V->Prop
 |(_,d),v=>RZ H d v
end
theorem xG.same(s:cO H H')(h:xG H a aC vs):xG H' a aC vs:=by
 rcases h with⟨ks,e,ep,h⟩|⟨ks,e,ep,h⟩
 .exact .inl ⟨ks,e,ep,s _ _ h⟩
 .exact .inr ⟨ks,e,ep,s _ _ h⟩
mutual
theorem RZ.same(s:cO H H'):∀{d:aB}{v:V},RZ H d v->RZ H' d v
 |.none,_,h=>h
 |.bool _,_,h=>h
 |.int _,_,h=>h
 |.str _,_,h=>h
 |.list ds,_,h=>by
  obtain⟨a,vs,e,q,r⟩:=h
  exact⟨a,vs,e,s _ _ q,cM.same s r⟩
 |.tuple ds,_,h=>by
  obtain⟨a,vs,e,q,r⟩:=h
  exact⟨a,vs,e,s _ _ q,cM.same s r⟩
 |.dict aC,_,h=>by
  obtain⟨a,vs,e,q,r⟩:=h
  exact⟨a,vs,e,q.same s,kh.same s r⟩
theorem cM.same(s:cO H H'):∀{ds:List aB}{vs:List V},cM H ds vs->cM H' ds vs
 |[],_,h=>h
 |d::ds,vs,h=>by
  obtain⟨v,r,e,q,t⟩:=h
  exact⟨v,r,e,RZ.same s q,cM.same s t⟩
theorem kh.same(s:cO H H'):∀{aC:List (aB×aB)}{vs:List V},kh H aC vs->kh H' aC vs
 |[],_,h=>h
 |(k,d)::ds,vs,h=>by
  obtain⟨v,r,e,q,t⟩:=h
  exact⟨v,r,e,RZ.same s q,kh.same s t⟩
end
theorem jU:∀{ds:List aB}{vs:List V},cM H ds vs->vs.length=ds.length
 |[],_,h=>by cases(show _=[] from h);rfl
 |e::ds,vs,h=>by
  obtain⟨u,r,e1,q,s⟩:=h
  subst e1;rw[fY,fY,jU s]
theorem Ft:∀{ds:List (aB×aB)}{vs:List V},kh H ds vs->vs.length=ds.length
 |[],_,h=>by cases(show _=[] from h);rfl
 |e::ds,vs,h=>by
  obtain⟨u,r,e1,q,s⟩:=h
  subst e1;rw[fY,fY,Ft s]
theorem uv:∀{ds:List aB}{vs:List V}{i:Nat}{d:aB},cM H ds vs->ds[i]?=aa d->∃v,vs[i]?=aa v/\RZ H d v
 |[],_,_,_,_,e=>by simp at e
 |x::ds,vs,i,d,h,e=>by
  obtain⟨u,r,e1,q,s⟩:=h
  subst e1;cases i with
  |zero=>cases e;exact⟨u,rfl,q⟩
  |succ i=>
   obtain⟨v,e2,h2⟩:=uv (i:=i) s (by simpa using e)
   exact⟨v,by simpa using e2,h2⟩
theorem BW:∀{ds es:List aB}{vs ws:List V},cM H ds vs->cM H es ws->cM H (ds++es) (vs++ws)
 |[],_,_,_,h,g=>by cases(show _=[] from h);exact g
 |d::ds,_,_,_,h,g=>by
  obtain⟨u,r,e1,q,s⟩:=h
  subst e1
  exact⟨u,_,rfl,q,BW s g⟩
theorem acO:∀{ds es:List aB}{vs:List V},cM H (ds++es) vs->∃us ws,vs=us++ws/\cM H ds us/\cM H es ws
 |[],_,vs,h=>⟨[],vs,rfl,rfl,h⟩
 |d::ds,es,vs,h=>by
  obtain⟨u,r,e1,q,s⟩:=h
  obtain⟨us,ws,e2,h1,h2⟩:=acO s
  exact⟨u::us,ws,by rw[e1,e2];rfl,⟨u,us,rfl,q,h1⟩,h2⟩
theorem adC:∀{ds:List aB}{vs:List V}(n:Nat),cM H ds vs->cM H (ds.take n) (vs.take n)
 |_,_,0,_=>by rw[ajy,ajy];rfl
 |[],_,n+1,h=>by cases(show _=[] from h);rfl
 |d::ds,_,n+1,h=>by
  obtain⟨u,r,e1,q,s⟩:=h
  subst e1
  exact⟨u,_,rfl,q,adC n s⟩
theorem adD:∀{ds:List aB}{vs:List V}(n:Nat),cM H ds vs->cM H (ds.drop n) (vs.drop n)
 |_,_,0,h=>h
 |[],_,n+1,h=>by cases(show _=[] from h);rfl
 |d::ds,_,n+1,h=>by
  obtain⟨u,r,e1,q,s⟩:=h
  subst e1;exact adD n s
theorem aeF(hv:RZ H d v):∀{ds:List aB}{vs:List V}(i:Nat),cM H ds vs->cM H (ds.set i d) (vs.set i v)
 |[],_,_,h=>by cases(show _=[] from h);rfl
 |x::ds,_,i,h=>by
  obtain⟨u,r,e1,q,s⟩:=h
  subst e1;cases i with
  |zero=>exact⟨v,r,rfl,hv,s⟩
  |succ i=>exact⟨u,_,rfl,q,aeF hv i s⟩
noncomputable def pI:aB->Bool
 |.none=>aq
 |.bool _=>aq
 |.int _=>aq
 |.str _=>aq
 |_=>aA
noncomputable def toV:aB->V
 |.none=>.non
 |.bool b=>.bl b
 |.int i=>.int i
 |.str x=>.str x
 |_=>.non
theorem ao9(f:pI d=aq)(h:RZ H d v):v=toV d:=by
 cases d<;>first|exact h|cases f
theorem apa(f:pI d=aq):RZ H d (toV d):=by
 cases d<;>first|rfl|cases f
theorem VJ:∀{ds:List aB}{vs:List V},ds.all pI=aq->cM H ds vs->vs=ds.map toV
 |[],_,_,h=>h
 |d::ds,vs,f,h=>by
  obtain⟨u,r,e1,q,s⟩:=h
  rw[Td,j0] at f;rw[e1,ao9 f.1 q,VJ f.2 s];rfl
theorem adE(ns:List Int):cM H (ns.map pA) (ns.map V.int):=by
 induction ns with
 |nil=>rfl
 |cons n r ih=>exact⟨_,_,rfl,rfl,ih⟩
theorem adF(ns:List Str):cM H (ns.map gh) (ns.map V.str):=by
 induction ns with
 |nil=>rfl
 |cons n r ih=>exact⟨_,_,rfl,rfl,ih⟩
mutual
def lq:aB->Bool
 |.list _=>aA
 |.tuple ds=>ji ds
 |.dict _=>aA
 |_=>aq
def ji:List aB->Bool
 |[]=>aq
 |d::r=>lq d&&ji r
end
mutual
theorem RZ.lq(t:∀a vs,H a=aa (.tup vs)->H' a=aa (.tup vs)):∀{d:aB}{v:V},lq d=aq->RZ H d v->RZ H' d v
 |.none,_,_,h=>h
 |.bool _,_,_,h=>h
 |.int _,_,_,h=>h
 |.str _,_,_,h=>h
 |.list ds,_,n,h=>nomatch n
 |.tuple ds,_,n,h=>by
  obtain⟨a,vs,e,q,r⟩:=h
  exact⟨a,vs,e,t _ _ q,cM.lq t n r⟩
 |.dict _,_,n,_=>nomatch n
theorem cM.lq(t:∀a vs,H a=aa (.tup vs)->H' a=aa (.tup vs)):∀{ds:List aB}{vs:List V},ji ds=aq->cM H ds vs->cM H' ds vs
 |[],_,_,h=>h
 |d::ds,vs,n,h=>by
  obtain⟨v,r,e,q,w⟩:=h
  have n':L2.lq d=aq/\ji ds=aq:=by rw[ji,j0] at n;exact n
  exact⟨v,r,e,RZ.lq t n'.1 q,cM.lq t n'.2 w⟩
end
mutual
def pP:aB->Bool
 |.list ds=>lF ds
 |.tuple ds=>lF ds
 |.dict _=>aA
 |_=>aq
def lF:List aB->Bool
 |[]=>aq
 |d::r=>pP d&&lF r
end
mutual
theorem RZ.rx:∀{d:aB}{v:V},pP d=aq->RZ H d v->RX H d v
 |.none,_,_,h=>h
 |.bool _,_,_,h=>h
 |.int _,_,_,h=>h
 |.str _,_,_,h=>h
 |.list ds,_,n,h=>by
  obtain⟨a,vs,e,q,r⟩:=h
  exact⟨a,vs,e,q,cM.rx n r⟩
 |.tuple ds,_,n,h=>by
  obtain⟨a,vs,e,q,r⟩:=h
  exact⟨a,vs,e,q,cM.rx n r⟩
 |.dict _,_,n,_=>nomatch n
theorem cM.rx:∀{ds:List aB}{vs:List V},lF ds=aq->cM H ds vs->yV H ds vs
 |[],_,_,h=>h
 |d::ds,vs,n,h=>by
  obtain⟨v,r,e,q,t⟩:=h
  have n':pP d=aq/\lF ds=aq:=by rw[lF,j0] at n;exact n
  exact⟨v,r,e,RZ.rx n'.1 q,cM.rx n'.2 t⟩
end
inductive Vl where
 |im (d:aB)
 |ow (d:aB)
 |ce (n:Nat)
 |sc (ns:List Int)
 |tp (p:List aB) (d:aB) (q:List aB)
abbrev En:=List (Option Vl)
abbrev Ce:=List (List Int)
noncomputable def own1:Option Vl->Option V->List aH
 |some (.ow _),some (.ref a)=>[a]
 |_,_=>[]
noncomputable def cF:En->St->List aH
 |x::e,v::s=>own1 x v++cF e s
 |_,_=>[]
theorem pD:∀{aj:En}{σ:St},a∈cF aj σ↔∃(i:Nat)(d:aB),aj[i]?=aa (aa (Vl.ow d))/\σ[i]?=aa (aa (V.ref a))
 |[],σ=>by
  constructor
  .intro h;simp[cF] at h
  .rintro⟨i,d,e,_⟩;simp at e
 |x::e,[]=>by
  constructor
  .intro h;simp[cF] at h
  .rintro⟨i,d,_,e⟩;simp at e
 |x::e,v::s=>by
  rw[cF,eO,pD (aj:=e) (σ:=s)];constructor
  .rintro(h|⟨i,d,h1,h2⟩)
   .unfold own1 at h;split at h
    .rw[gU] at h;subst h
     exact⟨0,_,rfl,rfl⟩
    .simp at h
   .exact⟨i+1,d,by simpa using h1,by simpa using h2⟩
  .rintro⟨i,d,h1,h2⟩
   cases i with
   |zero=>
    simp at h1 h2;subst h1 h2;exact .inl (gU.mpr rfl)
   |succ i=>exact .inr ⟨i,d,by simpa using h1,by simpa using h2⟩
theorem Jf:∀{aj:En}{σ:St}{i j:Nat}{d e:aB},(cF aj σ).Nodup->aj[i]?=aa (aa (Vl.ow d))->σ[i]?=aa (aa (V.ref a))->aj[j]?=aa (aa (Vl.ow e))->σ[j]?=aa (aa (V.ref a))->i=j
 |[],_,i,_,_,_,_,h,_,_,_=>by simp at h
 |_::_,[],i,_,_,_,_,_,h,_,_=>by simp at h
 |x::en,v::s,i,j,d,e,nd,h1,h2,h3,h4=>by
  rw[cF,mZ] at nd;cases i with
  |zero=>
   cases j with
   |zero=>rfl
   |succ j=>
    simp at h1 h2;subst h1 h2;have:a∈cF en s:=pD.mpr ⟨j,e,by simpa using h3,by simpa using h4⟩;exact absurd rfl (nd.2.2 a (gU.mpr rfl) a this)
  |succ i=>
   cases j with
   |zero=>
    simp at h3 h4;subst h3 h4;have:a∈cF en s:=pD.mpr ⟨i,d,by simpa using h1,by simpa using h2⟩;exact absurd rfl (nd.2.2 a (gU.mpr rfl) a this)
   |succ j=>rw[Jf (i:=i) (j:=j) nd.2.1 (by simpa using h1) (by simpa using h2) (by simpa using h3) (by simpa using h4)]
def Zi(x y:Option Vl):Prop:=y=x\/∃d,x=aa (.ow d)/\y=aa (.im d)
def Fz:En->En->Prop
 |[],[]=>True
 |x::r,y::t=>Zi x y/\Fz r t
 |_,_=>False
theorem Fz.refl:∀e:En,Fz e e
 |[]=>trivial
 |x::r=>⟨.inl rfl,Fz.refl r⟩
theorem Fz.trans:∀{a b c:En},Fz a b->Fz b c->Fz a c
 |[],[],[],_,_=>trivial
 |x::r,y::t,z::w,h,g=>by
  refine⟨?_,Fz.trans h.2 g.2⟩
  rcases h.1 with e|⟨d,e1,e2⟩
  .rw[<-e];exact g.1
  .rcases g.1 with e|⟨d',e3,e4⟩
   .exact .inr ⟨d,e1,e.trans e2⟩
   .rw[e2] at e3;cases e3
 |[],[],_::_,_,g=>nomatch g
 |[],_::_,_,h,_=>nomatch h
 |_::_,[],_,h,_=>nomatch h
 |_::_,_::_,[],_,g=>nomatch g
theorem Fz.len:∀{a b:En},Fz a b->b.length=a.length
 |[],[],_=>rfl
 |_::_,_::_,h=>by rw[fY,fY,Fz.len h.2]
 |[],_::_,h=>nomatch h
 |_::_,[],h=>nomatch h
theorem Fz.at:∀{a b:En}{i:Nat}{y:Vl},Fz a b->b[i]?=aa (aa y)->a[i]?=aa (aa y)\/∃d,a[i]?=aa (aa (.ow d))/\y=.im d
 |[],[],i,y,_,e=>by simp at e
 |x::r,z::t,0,y,h,e=>by
  simp at e;rcases h.1 with q|⟨d,q1,q2⟩
  .left;rw[<-q,e];rfl
  .right;rw[e] at q2;cases q2;exact⟨d,by rw[q1];rfl,rfl⟩
 |x::r,z::t,i+1,y,h,e=>by
  simpa using Fz.at (i:=i) h.2 (by simpa using e)
 |[],_::_,_,_,h,_=>nomatch h
 |_::_,[],_,_,h,_=>nomatch h
theorem apb(h:Zi x y)(v:Option V):abB (own1 y v) (own1 x v):=by
 rcases h with e|⟨d,e1,e2⟩
 .rw[e];exact rY _
 .rw[e2];exact aaJ _
theorem Fz.own:∀{a b:En}{σ:St},Fz a b->abB (cF b σ) (cF a σ)
 |[],[],σ,_=>by cases σ<;>exact rY _
 |x::r,y::t,[],h=>rY _
 |x::r,y::t,v::s,h=>by
  rw[cF,cF];exact KY (apb h.1 v) (Fz.own h.2)
 |[],_::_,_,h=>nomatch h
 |_::_,[],_,h=>nomatch h
abbrev bH(Z Θ:List aH)(aj:En)(σ:St):List aH:=Z++(Θ++cF aj σ)
def nW(E H:Hp)(a:aH):aB->Prop
 |.list ds=>∃vs,H a=aa (.lst vs)/\cM E ds vs
 |.dict aC=>∃vs,xG H a aC vs/\kh E aC vs
 |_=>False
theorem nW.same(s:cO E E')(h:∀o,H a=aa o->H' a=aa o)(r:nW E H a d):nW E' H' a d:=by
 cases d<;>first|exact r.elim|skip
 .obtain⟨vs,e,q⟩:=r
  exact⟨vs,h _ e,q.same s⟩
 .obtain⟨vs,e,q⟩:=r
  refine⟨vs,?_,q.same s⟩
  rcases e with⟨ks,k,ep,e⟩|⟨ks,k,ep,e⟩
  .exact .inl ⟨ks,k,ep,h _ e⟩
  .exact .inr ⟨ks,k,ep,h _ e⟩
theorem nW.rz(h:∀o,H a=aa o->E a=aa o)(r:nW E H a d):RZ E d (.ref a):=by
 cases d<;>first|exact r.elim|skip
 .obtain⟨vs,e,q⟩:=r
  exact⟨a,vs,rfl,h _ e,q⟩
 .obtain⟨vs,e,q⟩:=r
  refine⟨a,vs,rfl,?_,q⟩
  rcases e with⟨ks,k,ep,e⟩|⟨ks,k,ep,e⟩
  .exact .inl ⟨ks,k,ep,h _ e⟩
  .exact .inr ⟨ks,k,ep,h _ e⟩
structure bG(Θ:List aH)(H H':Hp):Prop where
 keep:∀a o,H a=aa o->a∉Θ->H' a=aa o
 dom:∀a,H a≠ao->H' a≠ao
theorem bG.refl(Θ:List aH)(H:Hp):bG Θ H H:=⟨λ_ _ e _=>e,λ_ e=>e⟩
theorem bG.trans(a:bG Θ H H1)(b:bG Θ H1 H2):bG Θ H H2:=⟨λc o e n=>b.keep _ _ (a.keep _ _ e n) n,λc e=>b.dom _ (a.dom _ e)⟩
theorem bG.none(k:bG Θ H H')(h:H' a=ao):H a=ao:=by
 cases e:H a with
 |none=>rfl
 |some o=>exact absurd h (k.dom a (by rw[e];exact zu _))
theorem bG.of(s:cO H H'):bG Θ H H':=⟨λa o e _=>s _ _ e,λa h=>by
 cases e:H a with
 |none=>exact absurd e h
 |some o=>rw[s _ _ e];exact zu _⟩
theorem bG.upd(h:H p=sJ):bG Θ H (L2.upd H p o):=bG.of (cO.upd h)
theorem oA(k:bG Θ H H')(ht:∀a∈Θ,a∈Z)(hz:∀a,a∈Z'->a∈Z\/H a=ao):cO (er Z H) (er Z' H'):=λb o h=>by
 unfold er at h⊢;split at h
 .cases h
 .rename_i n;rw[bB,k.keep _ _ h (λm=>n (ht b m))];intro m;rcases hz b m with q|q
  .exact n q
  .rw[q] at h;cases h
def Gy(K:bw)(E H:Hp)(Θ:List aH):Vl->V->Prop
 |.im d,v=>RZ E d v
 |.ow d,v=>∃a,v=.ref a/\nW E H a d
 |.ce n,v=>∃a,v=.ref a/\Θ[n]?=aa a
 |.sc ns,v=>∃a,v=.ref a/\cj K E a (ns.map V.int)
 |.tp _ _ _,_=>False
def NT(o:Option HO):Prop:=∃u,o=aa u/\∀vs,u≠.tup vs
theorem NT.ne(h:NT o):o≠ao:=by
 obtain⟨u,rfl,_⟩:=h
 exact zu _
theorem nW.nt(r:nW E H a d):NT (H a):=by
 cases d<;>first|exact r.elim|skip
 .obtain⟨vs,e,q⟩:=r
  exact⟨_,e,λ_ z=>nomatch z⟩
 .obtain⟨vs,e,q⟩:=r
  rcases e with⟨ks,k,ep,e⟩|⟨ks,k,ep,e⟩
  .exact⟨_,e,λ_ z=>nomatch z⟩
  .exact⟨_,e,λ_ z=>nomatch z⟩
structure sZ(Θ:List aH)(C:Ce)(H:Hp):Prop where
 len:C.length=Θ.length
 at_:∀(n:Nat)(a:aH)(ns:List Int),Θ[n]?=aa a->C[n]?=aa ns->H a=aa (.lst (ns.map V.int))
structure Sm(K:bw)(Z Θ:List aH)(aj:En)(C:Ce)(σ:St)(H:Hp):Prop where
 len:σ.length=aj.length
 nd:(bH Z Θ aj σ).Nodup
 dom:∀a∈Z,NT (H a)
 slot:∀(i:Nat)(x:Vl),aj[i]?=aa (aa x)->∃v,σ[i]?=aa (aa v)/\Gy K (er (bH Z Θ aj σ) H) H Θ x v
 cell:sZ Θ C H
theorem sZ.dom(c:sZ Θ C H):∀a∈Θ,NT (H a):=λa m=>by
 obtain⟨n,hn,e⟩:=tX m
 have e1:Θ[n]?=aa a:=by rw[fU hn,e]
 have h2:n<C.length:=by rw[c.len];exact hn
 exact⟨_,c.at_ n a C[n] e1 (fU h2),λ_ z=>nomatch z⟩
section
variable{K:bw}{C C':Ce}{σ:St}{H H':Hp}
theorem Sm.QX(S:Sm K Z Θ aj C σ H):∀a∈bH Z Θ aj σ,NT (H a):=λa m=>by
 rcases eO.mp m with m|m
 .exact S.dom a m
 .rcases eO.mp m with m|m
  .exact S.cell.dom a m
  .obtain⟨i,d,e1,e2⟩:=pD.mp m
   obtain⟨v,e3,b,e4,r⟩:=S.slot i _ e1
   rw[e2] at e3;cases e3;cases e4;exact r.nt
theorem Sm.CZ(S:Sm K Z Θ aj C σ H):∀a∈bH Z Θ aj σ,H a≠ao:=λa m=>(S.QX a m).ne
theorem Sm.uI(S:Sm K Z Θ aj C σ H):∀a∈Θ,a∈bH Z Θ aj σ:=λa m=>gw _ (jR _ m)
theorem Gy.same(s:cO E E')(h:∀d a,x=.ow d->v=.ref a->∀o,H a=aa o->H' a=aa o)(r:Gy K E H Θ x v):Gy K E' H' Θ x v:=by
 cases x with
 |im d=>exact RZ.same s r
 |ow d=>obtain⟨a,e,q⟩:=r;exact⟨a,e,q.same s (h d a rfl e)⟩
 |ce n=>exact r
 |sc ns=>obtain⟨a,e,q⟩:=r;exact⟨a,e,s.seq q⟩
 |tp=>exact r
theorem Sm.qz(S:Sm K Z Θ aj C σ H)(m:a∈cF aj σ):a∉Z/\a∉Θ:=by
 have h:=S.nd;rw[mZ] at h
 obtain⟨_,h2,h3⟩:=h
 rw[mZ] at h2
 refine⟨λz=>h3 a z a (gw _ m) rfl,λz=>h2.2.2 a z a m rfl⟩
theorem Sm.go(S:Sm K Z Θ aj C σ H)(k:bG Θ H H')(c:sZ Θ C' H'):Sm K Z Θ aj C' σ H' where
 len:=S.len
 nd:=S.nd
 dom:=λa m=>by
  obtain⟨u,e,n⟩:=S.dom a m
  have h:=S.nd;rw[mZ] at h
  exact⟨u,k.keep _ _ e λz=>h.2.2 a m a (jR _ z) rfl,n⟩
 slot:=λi x e=>by
  obtain⟨v,e1,r⟩:=S.slot i x e
  refine⟨v,e1,r.same (oA k S.uI λa m=>.inl m) λd a ex ev o ho=>k.keep _ _ ho ?_⟩
  subst ex ev
  exact(S.qz (pD.mpr ⟨i,d,e,e1⟩)).2
 cell:=c
theorem Sm.fz(S:Sm K Z Θ aj C σ H)(f:Fz aj aW):Sm K Z Θ aW C σ H:=by
 have sub:abB (bH Z Θ aW σ) (bH Z Θ aj σ):=KY (rY _) (KY (rY _) f.own);have sm:cO (er (bH Z Θ aj σ) H) (er (bH Z Θ aW σ) H):=oA (bG.refl [] H) (λ_ m=>nomatch m) λa m=>.inl (sub.subset m)
 refine⟨by rw[f.len];exact S.len,sub.nodup S.nd,S.dom,λi x e0=>?_,S.cell⟩
 rcases f.at e0 with e|⟨d,e,ex⟩
 .obtain⟨v,e1,r⟩:=S.slot i x e
  exact⟨v,e1,r.same sm λ_ _ _ _ _ ho=>ho⟩
 .subst ex
  obtain⟨v,e1,a,ev,r⟩:=S.slot i _ e
  subst ev
  refine⟨_,e1,nW.rz (H:=H) (λo ho=>?_) (r.same sm λ_ ho=>ho)⟩
  unfold er;rw[bB]
  .exact ho
  .intro m;have hm:a∈cF aj σ:=pD.mpr ⟨i,d,e,e1⟩;rcases eO.mp m with m|m
   .exact(S.qz hm).1 m
   .rcases eO.mp m with m|m
    .exact(S.qz hm).2 m
    .obtain⟨j,d',e3,e4⟩:=pD.mp m
     have nd:=S.nd;rw[mZ] at nd;have GR:=nd.2.1;rw[mZ] at GR;rcases f.at e3 with e5|⟨_,_,e5⟩
     .have:=Jf GR.2.1 e e1 e5 e4;subst this;rw[e0] at e3;cases e3
     .cases e5
end
section
variable{K:bw}{Z Θ:List aH}{aj aW:En}{C C':Ce}{σ:St}{H H':Hp}{a p:aH}
theorem Sm.pop(S:Sm K (a::Z) Θ aj C σ H):Sm K Z Θ aj C σ H:=by
 have sm:cO (er (bH (a::Z) Θ aj σ) H) (er (bH Z Θ aj σ) H):=oA (bG.refl [] H) (λ_ m=>nomatch m) λb m=>.inl (fQ _ m)
 exact⟨S.len,(mK.mp S.nd).2,λb m=>S.dom b (fQ _ m),λi x e=>let ⟨v,e1,r⟩:=S.slot i x e;⟨v,e1,r.same sm λ_ _ _ _ _ h=>h⟩,S.cell⟩
theorem Sm.push(S:Sm K Z Θ aj C σ H)(hp:H p=ao)(o:HO)(ho:∀vs,o≠.tup vs):Sm K (p::Z) Θ aj C σ (upd H p o):=by
 have k:bG Θ H (upd H p o):=bG.upd hp;have sm:cO (er (bH Z Θ aj σ) H) (er (bH (p::Z) Θ aj σ) (upd H p o)):=oA k S.uI λb m=>by
  rcases cg.mp m with rfl|m
  .exact .inr hp
  .exact .inl m
 have c:sZ Θ C (upd H p o):=⟨S.cell.len,λn b ns e1 e2=>by
  have:=S.cell.at_ n b ns e1 e2;rw[fD (ue this hp)];exact this⟩
 refine⟨S.len,mK.mpr ⟨λm=>S.CZ p m hp,S.nd⟩,λb m=>?_,λi x e=>?_,c⟩
 .rcases cg.mp m with rfl|m
  .exact⟨o,gV,ho⟩
  .obtain⟨u,e,n⟩:=S.dom b m
   exact⟨u,by rw[fD (ue e hp)];exact e,n⟩
 .obtain⟨v,e1,r⟩:=S.slot i x e
  refine⟨v,e1,r.same sm λd b ex ev o' ho=>?_⟩
  rw[fD (ue ho hp)];exact ho
theorem Sm.CK(S:Sm K Z Θ aj C σ H)(s:cO H H'):Sm K Z Θ aj C σ H':=
 S.go (bG.of s) ⟨S.cell.len,λn b ns e1 e2=>s _ _ (S.cell.at_ n b ns e1 e2)⟩
def Res(K:bw)(Z Θ:List aH)(aj:En)(C:Ce)(σ:St)(H H':Hp):Vl->V->Prop
 |.im d,v=>Sm K Z Θ aj C σ H'/\RZ (er (bH Z Θ aj σ) H') d v
 |.ow d,v=>∃a,v=.ref a/\H a=ao/\Sm K (a::Z) Θ aj C σ H'/\nW (er (bH (a::Z) Θ aj σ) H') H' a d
 |.ce n,v=>Sm K Z Θ aj C σ H'/\∃a,v=.ref a/\Θ[n]?=aa a
 |.sc ns,v=>Sm K Z Θ aj C σ H'/\∃a,v=.ref a/\cj K (er (bH Z Θ aj σ) H') a (ns.map V.int)
 |.tp _ _ _,_=>False
def Dq(E T:Hp):aB->V->Prop
 |.list ds,v=>∃a vs,v=.ref a/\T a=aa (.lst vs)/\cM E ds vs
 |.dict aC,v=>∃a vs,v=.ref a/\xG T a aC vs/\kh E aC vs
 |d,v=>RZ E d v
theorem Dq.same(s:cO E E')(t:cO T T')(h:Dq E T d v):Dq E' T' d v:=by
 cases d<;>first|exact RZ.same s h|skip
 .obtain⟨a,vs,e,q,r⟩:=h
  exact⟨a,vs,e,t _ _ q,r.same s⟩
 .obtain⟨a,vs,e,q,r⟩:=h
  exact⟨a,vs,e,q.same t,r.same s⟩
theorem RZ.bor(t:cO E T)(h:RZ E d v):Dq E T d v:=by
 cases d<;>first|exact h|skip
 .obtain⟨a,vs,e,q,r⟩:=h
  exact⟨a,vs,e,t _ _ q,r⟩
 .obtain⟨a,vs,e,q,r⟩:=h
  exact⟨a,vs,e,q.same t,r⟩
abbrev jd(Z Θ:List aH)(aj:En)(σ:St)(H:Hp)(d:aB)(v:V):Prop:=Dq (er (bH Z Θ aj σ) H) (er Θ H) d v
theorem wK(h:∀a,a∈Z'->a∈Z):cO (er Z H) (er Z' H):=oA (bG.refl [] H) (λ_ m=>nomatch m) λb m=>.inl (h b m)
theorem agc:cO (er (bH Z Θ aj σ) H) (er Θ H):=wK λa m=>gw _ (jR _ m)
theorem Fz.sub(f:Fz aj aW):∀a,a∈bH Z Θ aW σ->a∈bH Z Θ aj σ:=λa m=>
 (KY (rY _) (KY (rY _) f.own)).subset m
theorem Yc(S:Sm K Z Θ aj C σ H)(k:bG Θ H H')(f:Fz aj aW):cO (er (bH Z Θ aj σ) H) (er (bH Z Θ aW σ) H'):=oA k S.uI λa m=>.inl (f.sub a m)
theorem afA(k:bG Θ H H'):cO (er Θ H) (er Θ H'):=oA k (λ_ m=>m) λa m=>.inl m
theorem jd.go(h:jd Z Θ aj σ H d v)(S:Sm K Z Θ aj C σ H)(k:bG Θ H H')(f:Fz aj aW):jd Z Θ aW σ H' d v:=Dq.same (Yc S k f) (afA k) h
noncomputable def dat:Vl->Option aB
 |.im d=>aa d
 |.ow d=>aa d
 |.ce _=>ao
 |.sc _=>ao
 |.tp _ _ _=>ao
theorem Res.sm(h:Res K Z Θ aj C σ H H' r v):Sm K Z Θ aj C σ H':=by
 cases r with
 |im d=>exact h.1
 |ow d=>obtain⟨a,_,_,S,_⟩:=h;exact S.pop
 |ce n=>exact h.1
 |sc ns=>exact h.1
 |tp=>exact h.elim
theorem Res.bor(h:Res K Z Θ aj C σ H H' r v)(e:dat r=aa d):jd Z Θ aj σ H' d v:=by
 cases r with
 |im d'=>cases e;exact RZ.bor agc h.2
 |ow d'=>
  cases e
  obtain⟨a,rfl,_,S,r⟩:=h
  have na:a∉Θ:=λm=>(mK.mp S.nd).1 (gw _ (jR _ m))
  have sm:cO (er (bH (a::Z) Θ aj σ) H') (er (bH Z Θ aj σ) H'):=wK λb m=>fQ _ m
  have ha:∀o,H' a=aa o->er Θ H' a=aa o:=λo ho=>by unfold er;rw[bB na];exact ho
  cases d<;>first|exact r.elim|skip
  .obtain⟨vs,e,q⟩:=r
   exact⟨a,vs,rfl,ha _ e,q.same sm⟩
  .obtain⟨vs,e,q⟩:=r
   refine⟨a,vs,rfl,?_,q.same sm⟩
   rcases e with⟨ks,k,ep,e⟩|⟨ks,k,ep,e⟩
   .exact .inl ⟨ks,k,ep,ha _ e⟩
   .exact .inr ⟨ks,k,ep,ha _ e⟩
 |ce n=>cases e
 |sc ns=>cases e
 |tp=>cases e
noncomputable def still:Vl->Vl
 |.ow d=>.im d
 |r=>r
theorem Res.still(h:Res K Z Θ aj C σ H H' r v):Res K Z Θ aj C σ H H' (still r) v:=by
 cases r with
 |ow d=>
  obtain⟨a,rfl,hn,S,r⟩:=h
  refine⟨S.pop,nW.rz (H:=H') (λo ho=>?_) (r.same (wK λb m=>fQ _ m) λ_ h=>h)⟩
  unfold er;rw[bB (show ¬a∈bH Z Θ aj σ from(mK.mp S.nd).1)];exact ho
 |im d=>exact h
 |ce n=>exact h
 |sc ns=>exact h
 |tp=>exact h
theorem Res.from(h:Res K Z Θ aj C σ H H' r v)(k:bG Θ H0 H):Res K Z Θ aj C σ H0 H' r v:=by
 cases r with
 |ow d=>
  obtain⟨a,e,hn,S,r⟩:=h
  exact⟨a,e,k.none hn,S,r⟩
 |im d=>exact h
 |ce n=>exact h
 |sc ns=>exact h
 |tp=>exact h
theorem Jq(S:Sm K Z Θ aj C σ H)(h:H a=aa (.tup vs)):er (bH Z Θ aj σ) H a=aa (.tup vs):=by
 unfold er;rw[bB]
 .exact h
 .intro m
  obtain⟨u,e,n⟩:=S.QX a m
  rw[h] at e;exact n vs (jj e).symm
noncomputable def rst(r:Vl)(aj aW:En):En:=match r with
 |.im d=>if lq d then aj else aW
 |_=>aW
theorem Res.rst(S:Sm K Z Θ aj C σ H)(k:bG Θ H H')(h:Res K Z Θ aW C' σ H H' r v):Res K Z Θ (rst r aj aW) C' σ H H' r v:=by
 cases r with
 |im d=>
  by_cases f:L2.lq d=aq
  .have:L2.rst (.im d) aj aW=aj:=bC f;rw[this];have S':=S.go k h.1.cell
   exact⟨S',h.2.lq (λa vs e=>Jq S' (jt e)) f⟩
  .have:L2.rst (.im d) aj aW=aW:=bB f;rw[this];exact h
 |ow d=>exact h
 |ce n=>exact h
 |sc ns=>exact h
 |tp=>exact h
theorem Fz.rst(r:Vl)(f:Fz aj aW):Fz aj (rst r aj aW):=by
 cases r with
 |im d=>
  show Fz aj (if L2.lq d then aj else aW);split
  .exact Fz.refl _
  .exact f
 |ow d=>exact f
 |ce n=>exact f
 |sc ns=>exact f
 |tp=>exact f
theorem jT(S:Sm K Z Θ aj C σ H)(f:pI d=aq)(hv:v=toV d):Res K Z Θ aj C σ H H (.im d) v:=⟨S,by rw[hv];exact apa f⟩
theorem qy(S:Sm K Z Θ aj C σ H)(r:cM (er (bH Z Θ aj σ) H) ds vs)(hp:H p=ao):Res K Z Θ aj C σ H (upd H p (.lst vs)) (.ow (.list ds)) (.ref p):=by
 refine⟨p,rfl,hp,S.push hp _ (λ_ z=>nomatch z),vs,gV,r.same (oA (bG.upd (Θ:=Θ) hp) S.uI λb m=>?_)⟩
 rcases cg.mp m with rfl|m
 .exact .inr hp
 .exact .inl m
theorem apc(S:Sm K Z Θ aj C σ H)(ho:∀vs,o≠.tup vs)(d:xG (upd H p o) p aC vs)(r:kh (er (bH Z Θ aj σ) H) aC vs)(hp:H p=ao):Res K Z Θ aj C σ H (upd H p o) (.ow (.dict aC)) (.ref p):=by
 refine⟨p,rfl,hp,S.push hp _ ho,vs,d,r.same (oA (bG.upd (Θ:=Θ) hp) S.uI λb m=>?_)⟩
 rcases cg.mp m with rfl|m
 .exact .inr hp
 .exact .inl m
theorem Fv(S:Sm K Z Θ aj C σ H)(r:cM (er (bH Z Θ aj σ) H) ds vs)(hp:H p=ao):Res K Z Θ aj C σ H (upd H p (.tup vs)) (.im (.tuple ds)) (.ref p):=by
 have S':=S.CK (cO.upd (o:=.tup vs) hp)
 refine⟨S',p,vs,rfl,?_,r.same (oA (bG.upd (Θ:=Θ) hp) S.uI λb m=>.inl m)⟩
 unfold er;rw[bB (λm=>S.CZ p m hp),gV]
end
theorem hide{P:Prop}(h:∀G:Prop,(P->G)->G):P:=h P id
inductive agL{α β:Type}(o:Option α)(g:α->Option β)(y:β):Prop
 |mk (x:α) (h1:o=aa x) (h2:g x=aa y):agL o g y
theorem lD(h:o.bind g=aa y):agL o g y:=by
 cases o with
 |none=>cases h
 |some x=>exact⟨x,rfl,h⟩
noncomputable def vI:Vl->Option aB
 |.im y=>aa y
 |_=>ao
theorem Jr(h:vI x=aa y):x=.im y:=by
 cases x<;>cases h;rfl
noncomputable def Qx:aB->Option Str
 |.str z=>aa z
 |_=>ao
theorem apd(h:Qx d=aa z):d=.str z:=by
 cases d<;>cases h;rfl
noncomputable def intD:aB->Option Int
 |.int k=>aa k
 |_=>ao
theorem Oo(h:intD d=aa k):d=.int k:=by
 cases d<;>cases h;rfl
abbrev FE:=En->Ce->Option (Vl×En×Ce)
abbrev FB:=En->Ce->Option (aB×En×Ce)
abbrev FT:=En->Ce->Option (Bool×Ce)
abbrev Am:=En->Ce->Option (List aB×En×Ce)
abbrev FA:=En->Ce->Option (List Vl×En×Ce)
inductive tE(K:bw)(f:FE)(σ:St)(H:Hp)(Q:VK):Prop
 |mk (Z Θ:List aH) (aj:En) (C:Ce) (r:Vl) (aW:En) (C':Ce) (S:Sm K Z Θ aj C σ H) (hf:f aj C=aa (r,aW,C')) (q:∀v H',bG Θ H H'->Fz aj aW->Res K Z Θ aW C' σ H H' r v->Q v H'):tE K f σ H Q
inductive fK(K:bw)(f:FB)(σ:St)(H:Hp)(Q:VK):Prop
 |mk (Z Θ:List aH) (aj:En) (C:Ce) (d:aB) (aW:En) (C':Ce) (S:Sm K Z Θ aj C σ H) (hf:f aj C=aa (d,aW,C')) (q:∀v H',bG Θ H H'->Fz aj aW->Sm K Z Θ aW C' σ H'->jd Z Θ aW σ H' d v->Q v H'):fK K f σ H Q
inductive iJ(K:bw)(f:FT)(σ:St)(H:Hp)(Q:Bool->Hp->Prop):Prop
 |mk (Z Θ:List aH) (aj:En) (C:Ce) (b:Bool) (C':Ce) (S:Sm K Z Θ aj C σ H) (hf:f aj C=aa (b,C')) (q:∀H',bG Θ H H'->Sm K Z Θ aj C' σ H'->Q b H'):iJ K f σ H Q
inductive Qy(E T:Hp):List aB->List V->Prop
 |nil:Qy E T [] []
 |cons {d:aB} {v:V} {ds:List aB} {vs:List V}:Dq E T d v->Qy E T ds vs->Qy E T (d::ds) (v::vs)
abbrev Qf(Z Θ:List aH)(aj:En)(σ:St)(H:Hp)(ds:List aB)(vs:List V):Prop:=Qy (er (bH Z Θ aj σ) H) (er Θ H) ds vs
inductive yW(K:bw)(f:Am)(σ:St)(H:Hp)(Q:List V->Hp->Prop):Prop
 |mk (Z Θ:List aH) (aj:En) (C:Ce) (ds:List aB) (aW:En) (C':Ce) (S:Sm K Z Θ aj C σ H) (hf:f aj C=aa (ds,aW,C')) (q:∀vs H',bG Θ H H'->Fz aj aW->Sm K Z Θ aW C' σ H'->Qf Z Θ aW σ H' ds vs->Q vs H'):yW K f σ H Q
theorem PE.weak(h:PE X e t)(w:∀σ H Q,t' σ H Q->t σ H Q):PE X e t':=λau s σ H Q I q=>h au s σ H Q I (w σ H Q q)
theorem PT.weak(h:PT X e t)(w:∀σ H Q,t' σ H Q->t σ H Q):PT X e t':=λau s σ H Q I q=>h au s σ H Q I (w σ H Q q)
theorem PA.weak(h:PA X e t)(w:∀σ H Q,t' σ H Q->t σ H Q):PA X e t':=λp au s σ H Q I q=>h p au s σ H Q I (w σ H Q q)
theorem PS.weak(h:PS X e t)(w:∀D σ H,t' D σ H->t D σ H):PS X e t':=λau s σ H D I q=>h au s σ H D I (w D σ H q)
theorem lg.weak(h:lg X e t)(w:∀D σ H,t' D σ H->t D σ H):lg X e t':=λau s σ H D I q=>h au s σ H D I (w D σ H q)
theorem PW.weak(h:PW X e t)(w:∀σ H Q,t' σ H Q->t σ H Q):PW X e t':=λwh au s σ H Q I q=>h wh au s σ H Q I (w σ H Q q)
noncomputable def aX(i:Nat):FE:=λaj C=>match aj[i]? with
 |some (some (.im d))=>aa (.im d,aj,C)
 |some (some (.ow d))=>aa (.im d,aj.set i (aa (.im d)),C)
 |some (some (.ce n))=>aa (.ce n,aj,C)
 |some (some (.sc ns))=>aa (.sc ns,aj,C)
 |_=>ao
noncomputable def aN(i:Nat):FB:=λaj C=>match aj[i]? with
 |some (some x)=>(dat x).map λd=>(d,aj,C)
 |_=>ao
noncomputable def aP(d:aB):FE:=λaj C=>aa (.im d,aj,C)
def aG(f:FE):FB:=λaj C=>match f aj C with
 |some (r,e',C')=>(dat r).map λd=>(d,e',C')
 |none=>ao
theorem afB:∀{aj:En}{i:Nat}{d:aB},aj[i]?=aa (aa (.ow d))->Fz aj (aj.set i (aa (.im d)))
 |[],i,d,e=>by simp at e
 |x::r,0,d,e=>by simp at e;subst e;exact⟨.inr ⟨d,rfl,rfl⟩,Fz.refl r⟩
 |x::r,i+1,d,e=>⟨.inl rfl,afB (by simpa using e)⟩
theorem aqS(h:PE X e (uD i)):PE X e (tE X.K (aX i)):=h.weak λσ H Q aY=>by
 obtain⟨Z,Θ,aj,C,r,aW,C',S,hf,q⟩:=aY
 unfold aX at hf;split at hf;all_goals first|(rename_i d hd;cases hf)|cases hf
 .obtain⟨v,e1,r⟩:=S.slot i _ hd
  exact⟨v,e1,q v H (bG.refl _ _) (Fz.refl _) ⟨S,r⟩⟩
 .have f:=afB hd
  obtain⟨v,e1,r⟩:=S.slot i _ hd
  have S':=S.fz f
  refine⟨v,e1,q v H (bG.refl _ _) f ⟨S',?_⟩⟩
  have hi:i<aj.length:=by
   have:=jZ.mp hd;exact this.1
  obtain⟨v',e2,r'⟩:=S'.slot i (.im d) (by rw[Rw,bC rfl,bC hi])
  rw[e1] at e2;cases e2;exact r'
 .obtain⟨v,e1,r⟩:=S.slot i _ hd
  exact⟨v,e1,q v H (bG.refl _ _) (Fz.refl _) ⟨S,r⟩⟩
 .obtain⟨v,e1,r⟩:=S.slot i _ hd
  exact⟨v,e1,q v H (bG.refl _ _) (Fz.refl _) ⟨S,r⟩⟩
theorem aqT(h:PE X e (uD i)):PE X e (fK X.K (aN i)):=h.weak λσ H Q aY=>by
 obtain⟨Z,Θ,aj,C,d,aW,C',S,hf,q⟩:=aY
 unfold aN at hf;split at hf
 .rename_i x hx
  obtain⟨v,e1,r⟩:=S.slot i _ hx
  have ex:dat x=aa d/\aj=aW/\C=C':=by
   cases hd:dat x with
   |none=>rw[hd] at hf;cases hf
   |some d'=>rw[hd] at hf;cases hf;exact⟨rfl,rfl,rfl⟩
  obtain⟨ex,rfl,rfl⟩:=ex
  refine⟨v,e1,q v H (bG.refl _ _) (Fz.refl _) S ?_⟩
  cases x with
  |im d'=>cases ex;exact RZ.bor agc r
  |ow d'=>
   cases ex
   obtain⟨a,rfl,r⟩:=r
   have na:=(S.qz (pD.mpr ⟨i,_,hx,e1⟩)).2;have ha:∀o,H a=aa o->er Θ H a=aa o:=λo ho=>by unfold er;rw[bB na];exact ho
   cases d<;>first|exact r.elim|skip
   .obtain⟨vs,e,q⟩:=r
    exact⟨a,vs,rfl,ha _ e,q⟩
   .obtain⟨vs,e,q⟩:=r
    refine⟨a,vs,rfl,?_,q⟩
    rcases e with⟨ks,k,ep,e⟩|⟨ks,k,ep,e⟩
    .exact .inl ⟨ks,k,ep,ha _ e⟩
    .exact .inr ⟨ks,k,ep,ha _ e⟩
  |ce n=>cases ex
  |sc ns=>cases ex
  |tp=>cases ex
 .cases hf
theorem dB(h:PE X e (tC v))(f:pI d=aq:=by rfl)(hv:v=toV d:=by rfl):PE X e (tE X.K (aP d)):=h.weak λσ H Q aY=>by
 obtain⟨Z,Θ,aj,C,r,aW,C',S,hf,q⟩:=aY
 cases hf;exact q v H (bG.refl _ _) (Fz.refl _) (jT S f hv)
theorem aR(h:PE X e (tE X.K f)):PE X e (fK X.K (aG f)):=h.weak λσ H Q aY=>by
 obtain⟨Z,Θ,aj,C,d,aW,C',S,hf,q⟩:=aY
 unfold aG at hf;split at hf
 .rename_i r e' C1 hr;cases hd:dat r with
  |none=>rw[hd] at hf;cases hf
  |some d'=>
   rw[hd] at hf;cases hf
   exact⟨Z,Θ,aj,C,r,aW,C',S,hr,λv H' k f R=>q v H' k f R.sm (R.bor hd)⟩
 .cases hf
noncomputable def gG:Nat:=1000000
theorem rB(h:n<=gG):n<=cH:=by rw[lN];unfold gG at h;lia
def ie(K:bw)(r:R2)(op:aB->aB->Option Vl):Prop:=
 ∀(Z Θ:List aH)(aj:En)(C:Ce)(σ:St)(H:Hp)(x y:V)(dx dy:aB)(res:Vl),Sm K Z Θ aj C σ H->jd Z Θ aj σ H dx x->jd Z Θ aj σ H dy y->op dx dy=aa res->
  ∀Q:VK,(∀v H',bG Θ H H'->Res K Z Θ aj C σ H H' res v->Q v H')->r x y H Q
def aV(op:aB->aB->Option Vl)(fa fb:FB):FE:=λaj C=>match fa aj C with
 |some (x,e1,C1)=>match fb e1 C1 with
  |some (y,e2,C2)=>match op x y with
   |some r=>aa (r,rst r aj e2,C2)
   |none=>ao
  |none=>ao
 |none=>ao
theorem NK{K:bw}{r:R2}(L:ie K r op):∀σ H Q,tE K (aV op fa fb) σ H Q->J3 r (fK K fa) (fK K fb) σ H Q:=by
 rintro σ H Q ⟨Z,Θ,aj,C,res,aW,C',S,hf,q⟩;unfold aV at hf;split at hf
 .rename_i x e1 C1 h1;split at hf
  .rename_i y e2 C2 h2;split at hf
   .rename_i r0 h3;cases hf
    refine⟨Z,Θ,aj,C,x,e1,C1,S,h1,λv H1 k1 f1 S1 b1=>⟨Z,Θ,e1,C1,y,e2,C',S1,h2,λu H2 k2 f2 S2 b2=>?_⟩⟩
    refine L Z Θ e2 C' σ H2 v u x y res S2 (b1.go S1 k2 f2) b2 h3 Q λz H3 k3 R=>?_
    have k:=(k1.trans k2).trans k3;exact q z H3 k ((f1.trans f2).rst res) ((R.from (k1.trans k2)).rst S k)
   .cases hf
  .cases hf
 .cases hf
theorem jw(ho:dR X (pC o) r)(L:ie X.K r op)(ha:PE X a (fK X.K fa))(hb:PE X b (fK X.K fb)):PE X (.BinOp a o b pos) (tE X.K (aV op fa fb)):=(arP ho ha hb).weak (NK L)
theorem oR(ho:dR X (gM o) r)(L:ie X.K r op)(ha:PE X a (fK X.K fa))(hb:PE X b (fK X.K fb))(hm:Hv o b=aA):PE X (.Compare a [o] [b] pos) (tE X.K (aV op fa fb)):=(aoJ ho ha hb hm).weak (NK L)
theorem ar9(ho:uG X r)(L:ie X.K r op)(ha:PE X a (fK X.K fa))(hb:PE X b (fK X.K fb))(hs:Jc b):PE X (.Subscript a b pos) (tE X.K (aV op fa fb)):=(X7 ho ha hb hs).weak (NK L)
theorem ie.or{K:bw}(h:ie K r op)(h':ie K r' op'):ie K (λx y H Q=>r x y H Q\/r' x y H Q) (λx y=>match op x y with|some z=>aa z|none=>op' x y):=by
 intro Z Θ aj C σ H x y dx dy res S bx fG e Q q;cases h1:op dx dy with
 |some z=>
  simp only[h1] at e;cases e;exact .inl (h Z Θ aj C σ H x y dx dy _ S bx fG h1 Q q)
 |none=>
  simp only[h1] at e;exact .inr (h' Z Θ aj C σ H x y dx dy res S bx fG e Q q)
theorem jd.int(h:jd Z Θ aj σ H (.int i) x):x=.int i:=h
theorem jd.str(h:jd Z Θ aj σ H (.str i) x):x=.str i:=h
theorem jd.tup(h:jd Z Θ aj σ H (.tuple ds) x):∃a vs,x=.ref a/\H a=aa (.tup vs)/\cM (er (bH Z Θ aj σ) H) ds vs:=by
 obtain⟨a,vs,e,q,r⟩:=h
 exact⟨a,vs,e,jt q,r⟩
theorem jd.lst(h:jd Z Θ aj σ H (.list ds) x):∃a vs,x=.ref a/\H a=aa (.lst vs)/\cM (er (bH Z Θ aj σ) H) ds vs:=by
 obtain⟨a,vs,e,q,r⟩:=h
 exact⟨a,vs,e,jt q,r⟩
theorem jd.dct(h:jd Z Θ aj σ H (.dict aC) x):∃a vs,x=.ref a/\xG H a aC vs/\kh (er (bH Z Θ aj σ) H) aC vs:=by
 obtain⟨a,vs,e,q,r⟩:=h
 exact⟨a,vs,e,q.same (Gk _ _),r⟩
theorem jd.flat(f:pI d=aq)(h:jd Z Θ aj σ H d x):x=toV d:=by
 cases d<;>first|exact h|cases f
theorem jd.rx(n:pP d=aq)(h:jd Z Θ aj σ H d x):RX H d x:=by
 cases d<;>first|exact h|skip
 .obtain⟨a,vs,e,q,r⟩:=h
  exact⟨a,vs,e,jt q,(r.same (Gk _ _)).rx n⟩
 .obtain⟨a,vs,e,q,r⟩:=h
  exact⟨a,vs,e,jt q,(r.same (Gk _ _)).rx n⟩
 .cases n
section
variable{X:Cx}
def cD:aB->aB->Option Vl
 |.int i,.int j=>aa (.im (.int (i+j)))
 |.str x,.str y=>if x.length+y.length<=gG then aa (.im (.str (x++y))) else ao
 |.list xs,.list ys=>if xs.length+ys.length<=gG then aa (.ow (.list (xs++ys))) else ao
 |.tuple xs,.tuple ys=>if xs.isEmpty then aa (.im (.tuple ys)) else if xs.length+ys.length<=gG then aa (.im (.tuple (xs++ys))) else ao
 |_,_=>ao
def agd(K:bw):R2:=λx y H Q=>∃a b ys,x=.ref a/\y=.ref b/\dg K H a []/\dg K H b ys/\Q (.ref b) H
theorem ape:dR X (pC .Add) (agd X.K):=by
 intro au s σ H x y v u Q I rx ry h
 obtain⟨a,b,ys,rfl,rfl,ha,hb,q⟩:=h
 cases rx;cases ry
 obtain⟨aK,r1,p1,_⟩:=I.tuple ha
 obtain⟨its2,r2,p2,_⟩:=I.tuple hb
 obtain⟨⟨cls,dd,data,sl⟩,ho,hc,n,hd⟩:=id p1
 obtain⟨⟨cls2,dd2,data2,sl2⟩,ho2,hc2,n2,hd2⟩:=id p2
 simp only at hc hd hc2 hd2;subst hc hd hc2 hd2;exact abu ⟨_,ho,rfl⟩ ⟨_,ho2,rfl⟩ aaD abl Z0 ZV (ZQ _ _)
  (tuple_addW0 a b aK.toArray its2.toArray n n2 dd dd2 sl sl2 (by cases r1;rfl)) ⟨ho,ho2,⟨.ref b,H,I,rfl,q⟩⟩
def age(K:bw):R2:=λx y H Q=>(((tR λi j=>.int (i+j)) x y H Q\/∃i j,x=.str i/\y=.str j/\i.length+j.length<=cH/\Q (.str (i++j)) H)\/agG x y H Q)\/agd K x y H Q\/af7 K x y H Q
theorem apf:dR X (pC .Add) (age X.K):=((aqu.or alb).or aqI).or (ape.or aoQ)
theorem aqU{K:bw}:ie K (age K) cD:=by
 intro Z Θ aj C σ H x y dx dy res S bx fG e Q q;unfold cD at e;split at e
 .cases e;cases bx.int;cases fG.int;exact .inl (.inl (.inl ⟨_,_,rfl,rfl,q _ _ (bG.refl _ _) (jT S rfl rfl)⟩))
 .split at e
  .rename_i hl;cases e;cases bx.str;cases fG.str;exact .inl (.inl (.inr ⟨_,_,rfl,rfl,rB hl,q _ _ (bG.refl _ _) (jT S rfl rfl)⟩))
  .cases e
 .split at e
  .rename_i hl;cases e
   obtain⟨a,vs,rfl,ha,r1⟩:=bx.lst
   obtain⟨b,ws,rfl,hb,r2⟩:=fG.lst
   exact .inl (.inr ⟨a,b,vs,ws,rfl,rfl,ha,hb,by rw[jU r1,jU r2];exact rB hl,λp hp=>q _ _ (bG.upd hp) (qy S (BW r1 r2) hp)⟩)
  .cases e
 .split at e
  .rename_i xs ys he;cases e;have:xs=[]:=List.isEmpty_iff.mp he;subst this;have by2:=fG
   obtain⟨a,vs,rfl,ha,r1⟩:=bx.tup
   obtain⟨b,ws,rfl,hb,r2⟩:=fG.tup
   cases(show vs=[] from r1)
   exact .inr (.inl ⟨a,b,ws,rfl,rfl,dg.of ha,dg.of hb,q _ _ (bG.refl _ _) ⟨S,by2⟩⟩)
  split at e
  .rename_i xs ys he hl;cases e
   obtain⟨a,vs,rfl,ha,r1⟩:=bx.tup
   obtain⟨b,ws,rfl,hb,r2⟩:=fG.tup
   have l1:=jU r1;have l2:=jU r2;have hv:vs≠[]:=λz=>by
    subst z;cases xs with
    |nil=>exact he rfl
    |cons _ _=>cases l1
   refine .inr (.inr ⟨a,b,vs,ws,rfl,rfl,dg.of ha,dg.of hb,hv,by rw[l1,l2];exact rB hl,λz=>?_,λ_ p hp=>q _ _ (bG.upd hp) (Fv S (BW r1 r2) hp)⟩);subst z;have:ys=[]:=List.eq_nil_of_length_eq_zero l2.symm;subst this;rw[mj] at q;refine q _ _ (bG.refl _ _) ⟨S,?_⟩;exact bx
  .cases e
 .cases e
def yw:aB->aB->Option Vl
 |.int i,.int j=>aa (.im (.int (i-j)))
 |_,_=>ao
theorem WR{K:bw}(h:∀dx dy res,op dx dy=aa res->∃i j d,dx=.int i/\dy=.int j/\res=.im d/\pI d=aq/\g i j=toV d):ie K (tR g) op:=by
 intro Z Θ aj C σ H x y dx dy res S bx fG e Q q
 obtain⟨i,j,d,rfl,rfl,rfl,f,hv⟩:=h _ _ _ e
 cases bx.int;cases fG.int
 exact⟨_,_,rfl,rfl,q _ _ (bG.refl _ _) (jT S f hv)⟩
theorem Ph{K:bw}(h:∀dx dy res,op dx dy=aa res->∃i j d,dx=.int i/\dy=.int j/\res=.im d/\pI d=aq/\g i j=toV d/\Cn i j):ie K (rI Cn g) op:=by
 intro Z Θ aj C σ H x y dx dy res S bx fG e Q q
 obtain⟨i,j,d,rfl,rfl,rfl,f,hv,c⟩:=h _ _ _ e
 cases bx.int;cases fG.int
 exact⟨_,_,rfl,rfl,c,q _ _ (bG.refl _ _) (jT S f hv)⟩
theorem FW{K:bw}:ie K (tR λi j=>.int (i-j)) yw:=WR λdx dy res e=>by
 unfold yw at e;split at e<;>cases e
 exact⟨_,_,_,rfl,rfl,rfl,rfl,rfl⟩
def uy:aB->aB->Option Vl
 |.int i,.int j=>if 0<j then aa (.im (.int (i%j))) else ao
 |_,_=>ao
theorem Cj{K:bw}:ie K (rI (λ_ j=>0<j) λi j=>.int (i%j)) uy:=Ph λdx dy res e=>by
 unfold uy at e;split at e
 .split at e
  .rename_i h;cases e;exact⟨_,_,_,rfl,rfl,rfl,rfl,rfl,h⟩
  .cases e
 .cases e
def FZ:aB->aB->Option Vl
 |.int i,.int j=>if 0<j/\j<1073741824 then aa (.im (.int (i / j))) else ao
 |_,_=>ao
theorem aeG{K:bw}:ie K (rI agA λi j=>.int (i / j)) FZ:=Ph λdx dy res e=>by
 unfold FZ at e;split at e
 .split at e
  .rename_i h;cases e;exact⟨_,_,_,rfl,rfl,rfl,rfl,rfl,h⟩
  .cases e
 .cases e
def tG:aB->aB->Option Vl
 |.int i,.int j=>if 0<=j/\j<=1000000/\i.natAbs<2^64 then aa (.im (.int (i^j.toNat))) else ao
 |_,_=>ao
theorem Js{K:bw}:ie K (rI agB λi j=>.int (i^j.toNat)) tG:=Ph λdx dy res e=>by
 unfold tG at e;split at e
 .split at e
  .rename_i h;cases e;exact⟨_,_,_,rfl,rfl,rfl,rfl,rfl,h⟩
  .cases e
 .cases e
def pX:aB->aB->Option Vl
 |.int i,.int j=>if(-(2^64)<i/\i<2^64)\/(-(2^64)<j/\j<2^64) then aa (.im (.int (i*j))) else ao
 |_,_=>ao
theorem yp{K:bw}:ie K (rI Qu λi j=>.int (i*j)) pX:=Ph λdx dy res e=>by
 unfold pX at e;split at e
 .split at e
  .rename_i h;cases e;exact⟨_,_,_,rfl,rfl,rfl,rfl,rfl,h⟩
  .cases e
 .cases e
end
section
variable{X:Cx}
noncomputable def yX:aB->aB->Option Bool
 |.int i,.int j=>aa (i==j)
 |.str x,.str y=>aa (x==y)
 |.bool a,.bool b=>aa (a==b)
 |d,e=>if pP d&&pP e&&(nD d&&nD e) then aa (Ik d e) else ao
def lW(d e:aB):Option Vl:=(yX d e).map λb=>.im (.bool b)
def qJ(d e:aB):Option Vl:=(yX d e).map λb=>.im (.bool (!b))
theorem alv(hu:X.A.units+64<iG):dR X (gM .Eq) (λx y H Q=>∃d e,RX H d x/\RX H e y/\nD d=aq/\nD e=aq/\Q (.bl (Ik d e)) H):=by
 intro au s σ H x y v u Q I rx ry h
 obtain⟨d,e,hd,he,h1,h2,q⟩:=h
 obtain⟨as,ra⟩:=RD.reads I (hd.rd (K:=X.K)) rx
 obtain⟨bs,rb⟩:=RD.reads I (he.rd (K:=X.K)) ry
 exact PySem.SeqAt.compareEq_shaped ra rb h1 h2 hu ⟨.bl _,H,I,rfl,q⟩
def agM:R2:=λx y H Q=>rEq x y H Q\/∃d e,RX H d x/\RX H e y/\nD d=aq/\nD e=aq/\Q (.bl (Ik d e)) H
def agN:R2:=λx y H Q=>rNe x y H Q\/∃d e,RX H d x/\RX H e y/\nD d=aq/\nD e=aq/\Q (.bl (!PyData.eqv d e)) H
theorem pW(hu:X.A.units+64<iG):dR X (gM .Eq) agM:=arR.or (alv hu)
theorem Jt(hu:X.A.units+64<iG):dR X (gM .NotEq) agN:=arT.or (alo hu)
theorem acP(h:yX d e=aa b):(pI d=aq/\pI e=aq/\Ys (toV d) (toV e)=aq/\b=decide (toV d=toV e))\/(pP d=aq/\pP e=aq/\nD d=aq/\nD e=aq/\b=Ik d e):=by
 unfold yX at h;split at h
 .cases h;exact .inl ⟨rfl,rfl,rfl,Wv.symm⟩
 .cases h;exact .inl ⟨rfl,rfl,rfl,Ww.symm⟩
 .cases h;exact .inl ⟨rfl,rfl,rfl,Xk.symm⟩
 .split at h
  .rename_i q;cases h;rw[j0,j0,j0] at q;exact .inr ⟨q.1.1,q.1.2,q.2.1,q.2.2,rfl⟩
  .cases h
theorem pY{K:bw}:ie K agM lW:=by
 intro Z Θ aj C σ H x y dx dy res S bx fG e Q q;unfold lW at e;cases h:yX dx dy with
 |none=>rw[h] at e;cases e
 |some b=>
  rw[h] at e;cases e;have fin:=q (.bl b) H (bG.refl _ _) (jT S rfl rfl);rcases acP h with⟨f1,f2,sc,eb⟩|⟨n1,n2,s1,s2,eb⟩
  .rw[bx.flat f1,fG.flat f2];rw[eb] at fin;exact .inl ⟨sc,fin⟩
  .rw[eb] at fin;exact .inr ⟨dx,dy,bx.rx n1,fG.rx n2,s1,s2,fin⟩
theorem Jv{K:bw}:ie K agN qJ:=by
 intro Z Θ aj C σ H x y dx dy res S bx fG e Q q;unfold qJ at e;cases h:yX dx dy with
 |none=>rw[h] at e;cases e
 |some b=>
  rw[h] at e;cases e;have fin:=q (.bl (!b)) H (bG.refl _ _) (jT S rfl rfl);rcases acP h with⟨f1,f2,sc,eb⟩|⟨n1,n2,s1,s2,eb⟩
  .rw[bx.flat f1,fG.flat f2];rw[eb] at fin;exact .inl ⟨sc,fin⟩
  .rw[eb] at fin;exact .inr ⟨dx,dy,bx.rx n1,fG.rx n2,s1,s2,fin⟩
def strLt(x y:Str):Bool:=decide (x.cps.toList<y.cps.toList)
def agf(xs ys:List aB):Option Bool:=match keysOf xs,keysOf ys with
 |some ks,some js=>if ks.map cA=js.map cA then aa (eF ks js) else ao
 |_,_=>ao
def wZ:aB->aB->Option Vl
 |.int i,.int j=>aa (.im (.bool (decide (i<j))))
 |.str x,.str y=>aa (.im (.bool (strLt x y)))
 |.tuple xs,.tuple ys=>(agf xs ys).map λb=>.im (.bool b)
 |_,_=>ao
theorem Bw:∀{ds:List aB}{ks:List Key}{vs:List V},keysOf ds=aa ks->cM E ds vs->vs=ks.map kV
 |[],ks,vs,h,r=>by cases h;exact r
 |d::ds,ks,vs,h,r=>by
  unfold keysOf at h;split at h
  .rename_i k t h1 h2;cases h
   obtain⟨u,w,e1,q,s⟩:=r
   rw[e1,Bw h2 s];have:u=kV k:=by
    cases d<;>first|(cases h1;exact q)|cases h1
   rw[this];rfl
  .cases h
def atm:R2:=λx y H Q=>(∃a b,x=kV a/\y=kV b/\cA a=cA b/\Q (.bl (kLt a b)) H)\/∃a b ks js,x=.ref a/\y=.ref b/\H a=aa (.tup (ks.map kV))/\H b=aa (.tup (js.map kV))/\ks.map cA=js.map cA/\Q (.bl (eF ks js)) H
theorem Yd{K:bw}:ie K atm wZ:=by
 intro Z Θ aj C σ H x y dx dy res S bx fG e Q q;unfold wZ at e;split at e
 .cases e;cases bx.int;cases fG.int;exact .inl ⟨.inl _,.inl _,rfl,rfl,rfl,q _ _ (bG.refl _ _) (jT S rfl rfl)⟩
 .cases e;cases bx.str;cases fG.str;exact .inl ⟨.inr _,.inr _,rfl,rfl,rfl,q _ _ (bG.refl _ _) (jT S rfl rfl)⟩
 .rename_i xs ys;unfold agf at e;split at e
  .rename_i ks js h1 h2;split at e
   .rename_i ht;cases e
    obtain⟨a,vs,rfl,ha,r1⟩:=bx.tup
    obtain⟨b,ws,rfl,hb,r2⟩:=fG.tup
    rw[Bw h1 r1] at ha;rw[Bw h2 r2] at hb;exact .inr ⟨a,b,ks,js,rfl,rfl,ha,hb,ht,q _ _ (bG.refl _ _) (jT S rfl rfl)⟩
   .cases e
  .cases e
 .cases e
def lG:aB->aB->Option Vl
 |.int i,.int j=>aa (.im (.bool (decide (i<=j))))
 |.str x,.str y=>aa (.im (.bool (!strLt y x)))
 |_,_=>ao
def agO:R2:=λx y H Q=>(tR λi j=>.bl (decide (i<=j))) x y H Q\/∃i j,x=.str i/\y=.str j/\Q (.bl (!(decide (j.cps.toList<i.cps.toList)))) H
theorem uw:dR X (gM .LtE) agO:=arU.or aml
theorem uz{K:bw}:ie K agO lG:=by
 intro Z Θ aj C σ H x y dx dy res S bx fG e Q q;unfold lG at e;split at e
 .cases e;cases bx.int;cases fG.int;exact .inl ⟨_,_,rfl,rfl,q _ _ (bG.refl _ _) (jT S rfl rfl)⟩
 .cases e;cases bx.str;cases fG.str;exact .inr ⟨_,_,rfl,rfl,q _ _ (bG.refl _ _) (jT S rfl rfl)⟩
 .cases e
def JL:aB->aB->Option Vl
 |.int i,.int j=>aa (.im (.bool (decide (j<i))))
 |_,_=>ao
def Dc:aB->aB->Option Vl
 |.int i,.int j=>aa (.im (.bool (decide (j<=i))))
 |_,_=>ao
theorem agg{K:bw}:ie K (tR λi j=>.bl (decide (j<i))) JL:=WR λdx dy res e=>by
 unfold JL at e;split at e<;>cases e
 exact⟨_,_,_,rfl,rfl,rfl,rfl,rfl⟩
theorem Qg{K:bw}:ie K (tR λi j=>.bl (decide (j<=i))) Dc:=WR λdx dy res e=>by
 unfold Dc at e;split at e<;>cases e
 exact⟨_,_,_,rfl,rfl,rfl,rfl,rfl⟩
noncomputable def isNone:aB->Bool
 |.none=>aq
 |_=>aA
def Ab(d e:aB):Option Vl:=if isNone e then aa (.im (.bool (isNone d))) else ao
theorem adG(h:jd Z Θ aj σ H d x):decide (x=V.non)=isNone d:=by
 cases d<;>first
  |(cases(show x=_ from h);rfl)
  |(obtain⟨a,vs,e,_⟩:=h;subst e;rfl)
theorem afC{K:bw}:ie K (λx y H Q=>y=.non/\Q (.bl (decide (x=.non))) H) Ab:=by
 intro Z Θ aj C σ H x y dx dy res S bx fG e Q q;unfold Ab at e;split at e
 .rename_i hn;cases e;have hy:y=.non:=of_decide_eq_true ((adG fG).trans hn)
  exact⟨hy,by rw[adG bx];exact q _ _ (bG.refl _ _) (jT S rfl rfl)⟩
 .cases e
end
section
variable{X:Cx}{σ:St}{H:Hp}
theorem Inv.Ka(I:Inv X au σ H s)(h:H a=aa (.dK [] yZ)):Inv X au σ (upd H a (.dT [] yZ)) s:=by
 obtain⟨z,hm,vs,r,o,es,h1,h2,h3,h4,h5,h6⟩:=I.hok a _ h
 cases r;have e0:es.toList=[]:=by
  cases hh:es.toList with
  |nil=>rfl
  |cons x xs=>rw[hh] at h5;cases h5
 have:=Fj (t':=s.toks) (ob:=.dT [] yZ) I (by rw[h];trivial) (aau a s.heap) ⟨_,h1⟩ ⟨j5 _,hm,[],.nil,o,es,h1,h2,h3,e0,lJ⟩;exact this
theorem Inv.QZ(I:Inv X au σ (upd H a (.dT [] yZ)) s)(h:H a=aa (.dK [] yZ)):Inv X au σ H s:=by
 obtain⟨z,hm,xs,r,o,es,h1,h2,h3,h4,h5⟩:=I.hok a _ gV
 cases r;have e0:es=#[]:=by
  cases es;simp at h4;rw[h4]
 subst e0;have:=Fj (t':=s.toks) (ob:=.dK [] yZ) I (by rw[gV];trivial) (aau a s.heap) ⟨_,h1⟩ (Xo (j5 _) hm .nil ⟨o,#[],h1,h2,h3,λi hi=>absurd hi bF,.nil,lJ⟩);rw[aeh] at this;have e:upd H a (.dK [] yZ)=H:=by
  funext b;by_cases hb:b=a
  .subst hb;rw[gV,h]
  .exact fD hb
 rw[e] at this;exact this
end
def rP(H:Hp)(a:aH)(y:V)(r:Option V):Prop:=pL H a y r\/((∃ep,H a=aa (.dK [] ep))/\(∃(b:aH)(ks:List Key),y=.ref b/\H b=aa (.tup (ks.map kV)))/\r=ao)
section
variable{X:Cx}{σ:St}{H:Hp}{s:aZ}{a:aH}{y v:V}{u r:aL}{A:iz}
theorem rP.re(ha:H a=aa (.dK [] yZ)){ks:List Key}(hb:H b=aa (.tup (ks.map kV))):pL (upd H a (.dT [] yZ)) a (.ref b) ao:=by
 have:(upd H a (.dT [] yZ)) b=aa (.tup (ks.map kV)):=by rw[fD (X3 hb ha (λz=>nomatch z))];exact hb
 exact pL.t (aC:=[]) (k:=ks) gV this
theorem asa(hu:A.units+1<iG)(I:Inv X au σ H s)(g:rP H a y o)(ry:RelV y u)(h:∀s',Inv X au σ H s'->Q (.bool o.isSome) s'):aQ (model X.prog X.w) A (gM .In u (.ref a)) Q E s:=by
 rcases g with g|⟨⟨ep,ha⟩,⟨b,ks,rfl,hb⟩,rfl⟩
 .exact agH hu I g ry h
 .exact agH hu (I.Ka ha) (rP.re ha hb) ry λs' I'=>h s' (I'.QZ ha)
theorem anO(hu:A.units+1<iG)(I:Inv X au σ H s)(g:rP H a y o)(ry:RelV y u)(h:∀s',Inv X au σ H s'->Q (.bool (!o.isSome)) s'):aQ (model X.prog X.w) A (gM .NotIn u (.ref a)) Q E s:=by
 rcases g with g|⟨⟨ep,ha⟩,⟨b,ks,rfl,hb⟩,rfl⟩
 .exact aer hu I g ry h
 .exact aer hu (I.Ka ha) (rP.re ha hb) ry λs' I'=>h s' (I'.QZ ha)
theorem aqV(hu:X.A.units+1<iG):dR X (gM .In) (λy x H Q=>∃a o,x=.ref a/\rP H a y o/\Q (.bl o.isSome) H):=by
 intro au s σ H x y v u Q I rx ry h
 obtain⟨a,o,rfl,g,q⟩:=h
 cases ry;exact asa hu I g rx λs' I'=>⟨.bl _,H,I',rfl,q⟩
theorem amz(hu:X.A.units+1<iG):dR X (gM .NotIn) (λy x H Q=>∃a o,x=.ref a/\rP H a y o/\Q (.bl (!o.isSome)) H):=by
 intro au s σ H x y v u Q I rx ry h
 obtain⟨a,o,rfl,g,q⟩:=h
 cases ry;exact anO hu I g rx λs' I'=>⟨.bl _,H,I',rfl,q⟩
theorem apg(hu:X.A.units+1<iG):uG X (λx y H Q=>∃a v,x=.ref a/\pL H a y (aa v)/\Q v H):=by
 intro value slice au s σ H x y v u Q I rx ry h hs
 obtain⟨a,z,rfl,g,q⟩:=h
 cases rx;have hT:=akN I g;have h2:aQ (model X.prog X.w) X.A (zQ (.ref a) u) (EP X au σ Q) X.xe s:=ame hu I g ry λw' s' I' r'=>⟨z,H,I',r',q⟩
 unfold subscriptTail;refine aJ ?_;rw[getitemInPython_of_ne hT.not_modules];refine aJ (wpAny_specialOf hT PySem.F.slot_dict_getitem.lookup ?_);have fin:aQ (model X.prog X.w) X.A (abM slice aA (.ref a) u) (λr s₃=>aQ (model X.prog X.w) X.A (letTemporaryGo value (.ref a) r >>= λ_=>pure r) (EP X au σ Q) X.xe s₃) X.xe s:=by
  rw[hs];exact wpAny_operating (uf h2 (λr s₃ h₃=>aJ (wpAny_letTemporaryGo (bz h₃))) λ_ _ x=>x)
 first
  |exact bz (aJ fin)
  |exact aJ (bz (aJ fin))
  |exact aJ fin
end
def qH{κ:Type}[DecidableEq κ](f:aB->Option κ)(k:κ):List (aB×aB)->Option aB
 |[]=>ao
 |p::r=>if f p.1=aa k then aa p.2 else qH f k r
def qI(aC:List (aB×aB))(d:aB):Option (Option aB):=match f9 d with
 |some k=>if(dO f9 aC).isSome then aa (qH f9 k aC) else ao
 |none=>match lE d with
  |some ks=>if(dO lE aC).isSome then aa (qH lE ks aC) else ao
  |none=>ao
theorem VL[DecidableEq κ]:∀{aC:List (aB×aB)}{ks:List κ}{vs:List V},dO f aC=aa ks->kh E aC vs->
  (∃d v,qH f k aC=aa d/\p6 (ks.zip vs) k=aa v/\RZ E d v)\/(qH f k aC=ao/\p6 (ks.zip vs) k=ao)
 |[],ks,vs,h,r=>by
  cases h
  cases(show vs=[] from r)
  exact .inr ⟨rfl,rfl⟩
 |(p,d)::aC,ks,vs,h,r=>by
  unfold dO at h;split at h
  .rename_i k' t h1 h2;cases h
   obtain⟨v,w,rfl,q,s⟩:=r
   by_cases e:k'=k
   .subst e;refine .inl ⟨d,v,?_,?_,q⟩
    .unfold qH;rw[bC h1]
    .exact Ny (p:=(k',v)) rfl
   .have e1:qH f k ((p,d)::aC)=qH f k aC:=by
     show(if f p=aa k then aa d else qH f k aC)=_
     rw[bB];intro z;rw[h1] at z;exact e (jj z)
    have e2:p6 ((k'::t).zip (v::w)) k=p6 (t.zip w) k:=Nz (p:=(k',v)) e;rw[e1,e2];exact VL h2 s
  .cases h
theorem xY:∀{aC:List (aB×aB)}{ks:List κ},dO f aC=aa ks->ks.length=aC.length
 |[],ks,h=>by cases h;rfl
 |p::aC,ks,h=>by
  unfold dO at h;split at h
  .rename_i k' t h1 h2;cases h;rw[fY,fY,xY h2]
  .cases h
theorem aqW(h:f9 d=aa k)(r:RZ E d v):v=kV k:=by
 cases d<;>first|(cases h;exact r)|cases h
theorem aqX(h:f9 d=aa k)(g:lE d=aa ks):False:=by
 cases d<;>first|(cases h;done)|(cases g;done)
theorem zK(h:dO f9 aC=aa ks)(g:dO lE aC=aa js):aC=[]:=by
 cases aC with
 |nil=>rfl
 |cons p r=>
  unfold dO at h g;split at h
  .rename_i h1 h2;split at g
   .rename_i h3 h4
    exact(aqX h1 h3).elim
   .cases g
  .cases h
theorem jd.get(h:jd Z Θ aj σ H (.dict aC) x)(hy:jd Z Θ aj σ H d y)(e:qI aC d=aa o):
  ∃a r,x=.ref a/\rP H a y r/\((∃v,r=aa v/\∃d',o=aa d'/\RZ (er (bH Z Θ aj σ) H) d' v/\pL H a y (aa v))\/(r=ao/\o=ao)):=by
 obtain⟨a,vs,rfl,dt,rd⟩:=h.dct
 unfold qI at e;split at e
 .rename_i k hk;split at e
  .rename_i hs;cases e;have yk:y=kV k:=by
    cases d<;>first|(cases hk;exact hy)|cases hk
   have dk:∃ks,dO f9 aC=aa ks/\∃ep,H a=aa (.dK (ks.zip vs) ep):=by
    rcases dt with h|⟨ks,⟨ne,h2⟩,_⟩
    .exact h
    .obtain⟨ks',h1⟩:=zm.mp hs
     exact absurd (zK h1 h2) ne
   obtain⟨ks,h1,ep,ha⟩:=dk
   have g:=pL.k (k:=k) ha;rw[<-yk] at g;rcases VL (k:=k) h1 rd with⟨d',v,e1,e2,r⟩|⟨e1,e2⟩
   .rw[e2] at g
    exact⟨a,aa v,rfl,.inl g,.inl ⟨v,rfl,d',e1,r,g⟩⟩
   .rw[e2] at g
    exact⟨a,ao,rfl,.inl g,.inr ⟨rfl,e1⟩⟩
  .cases e
 .split at e
  .rename_i ks hks;split at e
   .rename_i hs;cases e
    obtain⟨b,hb,rfl⟩:∃b,H b=aa (.tup (ks.map kV))/\y=.ref b:=by
     cases d<;>first|cases hks|skip
     obtain⟨b,ws,rfl,hb,r⟩:=hy.tup
     rw[Bw hks r] at hb
     exact⟨b,hb,rfl⟩
    rcases dt with⟨js,h1,ha⟩|⟨js,⟨ne,h1⟩,ep,ha⟩
    .obtain⟨js',h2⟩:=zm.mp hs
     have:=zK h1 h2;subst this;cases h1
     exact⟨a,ao,rfl,.inr ⟨ha,⟨b,ks,rfl,hb⟩,rfl⟩,.inr ⟨rfl,rfl⟩⟩
    .have g:=pL.t (k:=ks) ha hb;rcases VL (k:=ks) h1 rd with⟨d',v,e1,e2,r⟩|⟨e1,e2⟩
     .rw[e2] at g
      exact⟨a,aa v,rfl,.inl g,.inl ⟨v,rfl,d',e1,r,g⟩⟩
     .rw[e2] at g
      exact⟨a,ao,rfl,.inl g,.inr ⟨rfl,e1⟩⟩
   .cases e
  .cases e
noncomputable def inD(d:aB)(ds:List aB):Bool:=ds.any λe=>vD (toV e) (toV d)
def inB(d:aB):aB->Option Bool
 |.list ds=>if pI d&&ds.all pI then aa (inD d ds) else ao
 |.tuple ds=>if pI d&&ds.all pI then aa (inD d ds) else ao
 |.dict aC=>(qI aC d).map (·.isSome)
 |_=>ao
def qK(d e:aB):Option Vl:=(inB d e).map λb=>.im (.bool b)
def u5(d e:aB):Option Vl:=(inB d e).map λb=>.im (.bool (!b))
def agP(K:bw):R2:=λx y H Q=>QT K aA x y H Q\/∃a o,y=.ref a/\rP H a x o/\Q (.bl o.isSome) H
def aeH(K:bw):R2:=λx y H Q=>QT K aq x y H Q\/∃a o,y=.ref a/\rP H a x o/\Q (.bl (!o.isSome)) H
theorem Ck(hu:X.A.units+1<iG):dR X (gM .In) (agP X.K):=amd.or (aqV hu)
theorem Vh(hu:X.A.units+1<iG):dR X (gM .NotIn) (aeH X.K):=akc.or (amz hu)
theorem Vi(f:pI d=aq):tD (toV d)=aq:=by
 cases d<;>first|rfl|cases f
theorem agh:inV (toV d) (ds.map toV)=inD d ds:=by
 unfold inV inD;rw[abC];rfl
theorem aeI{ds:List aB}(f:ds.all pI=aq):(ds.map toV).all tD=aq:=by
 rw[List.all_map,lB];intro d hd;exact Vi (lB.mp f d hd)
theorem adH{K:bw}{aj:En}{σ:St}{H:Hp}{x y:V}{b:Bool}(bx:jd Z Θ aj σ H dx x)(fG:jd Z Θ aj σ H dy y)(e:inB dx dy=aa b):
  (∃p xs,y=.ref p/\(cj K H p xs\/dg K H p xs)/\tD x=aq/\xs.all tD=aq/\inV x xs=b)\/∃a o,y=.ref a/\rP H a x o/\o.isSome=b:=by
 unfold inB at e;split at e
 .split at e
  .rename_i ds hf;rw[j0] at hf;cases e
   obtain⟨a,vs,rfl,ha,r⟩:=fG.lst
   rw[VJ hf.2 r] at ha;rw[bx.flat hf.1];exact .inl ⟨a,_,rfl,.inl (cj.of ha),Vi hf.1,aeI hf.2,agh⟩
  .cases e
 .split at e
  .rename_i ds hf;rw[j0] at hf;cases e
   obtain⟨a,vs,rfl,ha,r⟩:=fG.tup
   rw[VJ hf.2 r] at ha;rw[bx.flat hf.1];exact .inl ⟨a,_,rfl,.inr (dg.of ha),Vi hf.1,aeI hf.2,agh⟩
  .cases e
 .rename_i aC;cases hl:qI aC dx with
  |none=>rw[hl] at e;cases e
  |some o=>
   rw[hl] at e;cases e
   obtain⟨a,r,rfl,g,q⟩:=fG.get bx hl
   refine .inr ⟨a,r,rfl,g,?_⟩;rcases q with⟨v,rfl,d',rfl,_⟩|⟨rfl,rfl⟩<;>rfl
 .cases e
theorem CN{K:bw}:ie K (agP K) qK:=by
 intro Z Θ aj C σ H x y dx dy res S bx fG e Q q;unfold qK at e;cases h:inB dx dy with
 |none=>rw[h] at e;cases e
 |some b=>
  rw[h] at e;cases e;have fin:=q (.bl b) H (bG.refl _ _) (jT S rfl rfl);rcases adH (K:=K) bx fG h with⟨p,xs,e1,e2,e3,e4,e5⟩|⟨a,o,e1,e2,e3⟩
  .rw[<-e5] at fin;exact .inl ⟨p,xs,e1,e2,e3,e4,fin⟩
  .rw[<-e3] at fin;exact .inr ⟨a,o,e1,e2,fin⟩
theorem VM{K:bw}:ie K (aeH K) u5:=by
 intro Z Θ aj C σ H x y dx dy res S bx fG e Q q;unfold u5 at e;cases h:inB dx dy with
 |none=>rw[h] at e;cases e
 |some b=>
  rw[h] at e;cases e;have fin:=q (.bl (!b)) H (bG.refl _ _) (jT S rfl rfl);rcases adH (K:=K) bx fG h with⟨p,xs,e1,e2,e3,e4,e5⟩|⟨a,o,e1,e2,e3⟩
  .rw[<-e5] at fin;exact .inl ⟨p,xs,e1,e2,e3,e4,fin⟩
  .rw[<-e3] at fin;exact .inr ⟨a,o,e1,e2,fin⟩
noncomputable def rQ:aB->aB->Option aB
 |.list ds,.int i=>gF ds i
 |.tuple ds,.int i=>gF ds i
 |.str z,.int i=>if z.length<=gG then(gF z.cps.toList i).map λc=>.str ⟨#[c]⟩ else ao
 |.dict aC,d=>match qI aC d with
  |some (some e)=>aa e
  |_=>ao
 |_,_=>ao
def bQ(d e:aB):Option Vl:=(rQ d e).map .im
def agQ(K:bw):R2:=λx y H Q=>rIx K x y H Q\/∃a v,x=.ref a/\pL H a y (aa v)/\Q v H
theorem aqY(hu:X.A.units+1<iG):uG X (agQ X.K):=aqE.or (apg hu)
theorem aeJ(r:cM E ds vs)(e:gF ds i=aa d):∃v,gF vs i=aa v/\RZ E d v:=by
 unfold gF at e⊢;rw[jU r];cases h:qP ds.length i with
 |none=>rw[h] at e;cases e
 |some j=>
  rw[h] at e;exact uv r e
theorem asb{K:bw}:ie K (agQ K) bQ:=by
 intro Z Θ aj C σ H x y dx dy res S bx fG e Q q;unfold bQ at e;cases h:rQ dx dy with
 |none=>rw[h] at e;cases e
 |some d=>
  rw[h] at e;cases e;unfold rQ at h;split at h
  .obtain⟨a,vs,rfl,ha,r⟩:=bx.lst
   cases fG.int
   obtain⟨v,e1,r1⟩:=aeJ r h
   exact .inl (.inl ⟨a,vs,_,v,rfl,rfl,cj.of ha,e1,q _ _ (bG.refl _ _) ⟨S,r1⟩⟩)
  .obtain⟨a,vs,rfl,ha,r⟩:=bx.tup
   cases fG.int
   obtain⟨v,e1,r1⟩:=aeJ r h
   exact .inl (.inr (.inl ⟨a,vs,_,v,rfl,rfl,dg.of ha,e1,q _ _ (bG.refl _ _) ⟨S,r1⟩⟩))
  .split at h
   .rename_i z i hz;cases bx.str;cases fG.int;cases hc:gF z.cps.toList i with
    |none=>rw[hc] at h;cases h
    |some c=>
     rw[hc] at h;cases h;exact .inl (.inr (.inr ⟨z,i,c,rfl,rfl,rB hz,hc,q _ _ (bG.refl _ _) (jT S rfl rfl)⟩))
   .cases h
  .split at h
   .rename_i aC e' hl;cases h
    obtain⟨a,r,rfl,g,hq⟩:=bx.get fG hl
    rcases hq with⟨v,rfl,d',e1,r1,g1⟩|⟨_,e1⟩
    .cases e1;exact .inr ⟨a,v,rfl,g1,q _ _ (bG.refl _ _) ⟨S,r1⟩⟩
    .cases e1
   .cases h
  .cases h
noncomputable def JM:aB->Option Bool
 |.none=>aa aA
 |.bool b=>aa b
 |.int i=>aa (i != 0)
 |.str x=>if x.length<=gG then aa ((x.length:Int) != 0) else ao
 |.list ds=>aa (!ds.isEmpty)
 |.tuple ds=>aa (!ds.isEmpty)
 |.dict aC=>if(dO f9 aC).isSome then aa (!aC.isEmpty) else ao
def je(f:FB):FT:=λaj C=>match f aj C with
 |some (d,_,C')=>match JM d with
  |some b=>aa (b,C')
  |none=>ao
 |none=>ao
def gP(f:FE):FT:=λaj C=>match f aj C with
 |some (.im (.bool b),_,C')=>aa (b,C')
 |_=>ao
def jn(f:FT):FT:=λaj C=>match f aj C with
 |some (b,C')=>aa (!b,C')
 |none=>ao
def tH(f g:FT):FT:=λaj C=>match f aj C with
 |some (true,C')=>g aj C'
 |some (false,C')=>aa (aA,C')
 |none=>ao
def pO(f g:FT):FT:=λaj C=>match f aj C with
 |some (true,C')=>aa (aq,C')
 |some (false,C')=>g aj C'
 |none=>ao
theorem aqZ{K:bw}{aj:En}{σ:St}{H:Hp}{x:V}{b:Bool}(h:jd Z Θ aj σ H d x)(e:JM d=aa b):Yt K x H b:=by
 cases d with
 |none=>cases e;cases(show x=_ from h);rfl
 |bool c=>cases e;cases(show x=_ from h);rfl
 |int i=>cases e;cases(show x=_ from h);rfl
 |str z=>
  simp only[JM] at e;split at e
  .rename_i hz;cases e;cases(show x=_ from h);exact⟨rB hz,rfl⟩
  .cases e
 |list ds=>
  cases e
  obtain⟨a,vs,rfl,ha,r⟩:=h.lst
  refine .inl ⟨vs,cj.of ha,?_⟩;have:=jU r;cases ds<;>cases vs<;>first|rfl|cases this
 |tuple ds=>
  cases e
  obtain⟨a,vs,rfl,ha,r⟩:=h.tup
  refine .inr (.inl ⟨vs,dg.of ha,?_⟩);have:=jU r;cases ds<;>cases vs<;>first|rfl|cases this
 |dict aC=>
  simp only[JM] at e;split at e
  .rename_i hs;cases e
   obtain⟨a,vs,rfl,da,r⟩:=h.dct
   rcases da with⟨ks,h1,ep,ha⟩|⟨ks,⟨ne,h2⟩,ha⟩
   .refine .inr (.inr ⟨_,ep,ha,?_⟩);have l1:=xY h1;have l2:=Ft r;cases aC<;>cases ks<;>cases vs<;>first|rfl|cases l1|cases l2
   .obtain⟨ks',h1⟩:=zm.mp hs
    exact absurd (zK h1 h2) ne
  .cases e
section
variable{a b:Expr}
theorem jx(h:PE X a (fK X.K f))(he:∀whole,isTrue a X.env whole=(do let v <-whole;wF a.pos;rD [v] (truthy v)):=by intro _;rfl):PT X a (iJ X.K (je f)):=
 (anl h he).weak λσ H Q aY=>by
  obtain⟨Z,Θ,aj,C,b,C',S,hf,q⟩:=aY
  unfold je at hf;split at hf
  .rename_i d e1 C1 h1;split at hf
   .rename_i b' hb;cases hf
    exact⟨Z,Θ,aj,C,d,e1,C',S,h1,λv H' k f S' bo=>⟨b,aqZ bo hb,q H' k (S.go k S'.cell)⟩⟩
   .cases hf
  .cases hf
theorem adI{K:bw}(w:∀σ H Q,tE K f σ H Q->t σ H Q):∀σ H Q,iJ K (gP f) σ H Q->X5 t σ H Q:=by
 rintro σ H Q ⟨Z,Θ,aj,C,b,C',S,hf,q⟩;unfold gP at hf;split at hf
 .rename_i b' e1 C1 h1;cases hf;refine w _ _ _ ⟨Z,Θ,aj,C,.im (.bool b),e1,C',S,h1,λv H' k f R=>?_⟩
  obtain⟨S',r⟩:=R
  exact⟨b,r,q H' k (S.go k S'.cell)⟩
 .cases hf
theorem jH(ho:dR X (gM o) r)(L:ie X.K r op)(ha:PE X a (fK X.K fa))(hb:PE X b (fK X.K fb))(hm:Hv o b=aA):
  PT X (.Compare a [o] [b] pos) (iJ X.K (gP (aV op fa fb))):=(aoK ho ha hb hm).weak (adI (NK L))
theorem jJ(h:PT X a (iJ X.K f)):PT X (.UnaryOp .Not a pos) (iJ X.K (jn f)):=(aqn h).weak λσ H Q aY=>by
 obtain⟨Z,Θ,aj,C,b,C',S,hf,q⟩:=aY
 unfold jn at hf;split at hf
 .rename_i b' C1 h1;cases hf
  exact⟨Z,Θ,aj,C,b',C',S,h1,q⟩
 .cases hf
theorem anP{K:bw}:∀σ H Q,iJ K (tH f g) σ H Q->agv (iJ K f) (iJ K g) σ H Q:=by
 rintro σ H Q ⟨Z,Θ,aj,C,b,C',S,hf,q⟩;unfold tH at hf;split at hf
 .rename_i C1 h1
  exact⟨Z,Θ,aj,C,aq,C1,S,h1,λH1 k1 S1=>yL ⟨Z,Θ,aj,C1,b,C',S1,hf,λH2 k2 S2=>q H2 (k1.trans k2) S2⟩⟩
 .rename_i C1 h1;cases hf
  exact⟨Z,Θ,aj,C,aA,C',S,h1,λH1 k1 S1=>yK (q H1 k1 S1)⟩
 .cases hf
theorem aph{K:bw}:∀σ H Q,iJ K (pO f g) σ H Q->tOr (iJ K f) (iJ K g) σ H Q:=by
 rintro σ H Q ⟨Z,Θ,aj,C,b,C',S,hf,q⟩;unfold pO at hf;split at hf
 .rename_i C1 h1;cases hf
  exact⟨Z,Θ,aj,C,aq,C',S,h1,λH1 k1 S1=>yL (q H1 k1 S1)⟩
 .rename_i C1 h1
  exact⟨Z,Θ,aj,C,aA,C1,S,h1,λH1 k1 S1=>yK ⟨Z,Θ,aj,C1,b,C',S1,hf,λH2 k2 S2=>q H2 (k1.trans k2) S2⟩⟩
 .cases hf
variable{rest:List Expr}
theorem Jg(h:PT X a (iJ X.K f)):PW X (.BoolOp .And [a] pos) (iJ X.K f):=pw_and1 h
theorem wL(h:PT X a (iJ X.K f)):PW X (.BoolOp .Or [a] pos) (iJ X.K f):=pw_or1 h
theorem Cm(h:PT X a (iJ X.K f))(hb:PW X (.BoolOp .And (b::rest) pos) (iJ X.K g)):PW X (.BoolOp .And (a::b::rest) pos) (iJ X.K (tH f g)):=(pw_and h hb).weak anP
theorem uA(h:PT X a (iJ X.K f))(hb:PW X (.BoolOp .Or (b::rest) pos) (iJ X.K g)):PW X (.BoolOp .Or (a::b::rest) pos) (iJ X.K (pO f g)):=(pw_or h hb).weak aph
end
def xg(op op':aB->aB->Option Vl)(fa fb fc:FB):FE:=λaj C=>match fa aj C with
 |some (x,e1,C1)=>match fb e1 C1 with
  |some (y,e2,C2)=>match op x y with
   |some (.im (.bool true))=>match fc e2 C2 with
    |some (z,e3,C3)=>match op' y z with
     |some (.im (.bool b))=>aa (.im (.bool b),aj,C3)
     |_=>ao
    |none=>ao
   |some (.im (.bool false))=>aa (.im (.bool aA),aj,C2)
   |_=>ao
  |none=>ao
 |none=>ao
theorem adJ{K:bw}{r r':R2}(L:ie K r op)(L':ie K r' op'):∀σ H Q,tE K (xg op op' fa fb fc) σ H Q->Xl r r' (fK K fa) (fK K fb) (fK K fc) σ H Q:=by
 rintro σ H Q ⟨Z,Θ,aj,C,res,aW,C',S,hf,q⟩;unfold xg at hf;split at hf
 .rename_i x e1 C1 h1;split at hf
  .rename_i y e2 C2 h2
   refine⟨Z,Θ,aj,C,x,e1,C1,S,h1,λv H1 k1 f1 S1 b1=>⟨Z,Θ,e1,C1,y,e2,C2,S1,h2,λu H2 k2 f2 S2 b2=>?_⟩⟩
   split at hf
   .rename_i h3;split at hf
    .rename_i z e3 C3 h4;split at hf
     .rename_i b h5;cases hf;refine L Z Θ e2 C2 σ H2 v u x y _ S2 (b1.go S1 k2 f2) b2 h3 _ λw H3 k3 R=>⟨aq,R.2,yL ⟨Z,Θ,e2,C2,z,e3,C',R.1,h4,λw2 H4 k4 f4 S4 b4=>?_⟩⟩
      refine L' Z Θ e3 C' σ H4 u w2 y z _ S4 ((b2.go S2 k3 (Fz.refl _)).go R.1 k4 f4) b4 h5 Q λw3 H5 k5 R5=>?_
      have k:=(((k1.trans k2).trans k3).trans k4).trans k5;exact q w3 H5 k (Fz.refl _) ⟨S.go k R5.1.cell,R5.2⟩
     .cases hf
    .cases hf
   .rename_i h3;cases hf;refine L Z Θ e2 C' σ H2 v u x y _ S2 (b1.go S1 k2 f2) b2 h3 _ λw H3 k3 R=>⟨aA,R.2,yK ?_⟩
    have k:=(k1.trans k2).trans k3;exact q _ H3 k (Fz.refl _) ⟨S.go k R.1.cell,rfl⟩
   .cases hf
  .cases hf
 .cases hf
theorem afD(ho:dR X (gM o) r)(L:ie X.K r op)(ho':dR X (gM o') r')(L':ie X.K r' op')(ha:PE X a (fK X.K fa))(hb:PE X b (fK X.K fb))(hc:PE X c (fK X.K fc))
  (hm:U8 [o,o'] [b,c]=aA:=by with_unfolding_all rfl):PE X (.Compare a [o,o'] [b,c] pos) (tE X.K (xg op op' fa fb fc)):=(anj ho ho' ha hb hc hm).weak (adJ L L')
theorem afE(ho:dR X (gM o) r)(L:ie X.K r op)(ho':dR X (gM o') r')(L':ie X.K r' op')(ha:PE X a (fK X.K fa))(hb:PE X b (fK X.K fb))(hc:PE X c (fK X.K fc))
  (hm:U8 [o,o'] [b,c]=aA:=by with_unfolding_all rfl):PT X (.Compare a [o,o'] [b,c] pos) (iJ X.K (gP (xg op op' fa fb fc))):=(ank ho ho' ha hb hc hm).weak (adI (adJ L L'))
def gO(f g:FE):FE:=λaj C=>match f aj C with
 |some (.im (.bool true),_,C')=>g aj C'
 |some (.im (.bool false),_,C')=>aa (.im (.bool aA),aj,C')
 |_=>ao
def Ah(f g:FE):FE:=λaj C=>match f aj C with
 |some (.im (.bool true),_,C')=>aa (.im (.bool aq),aj,C')
 |some (.im (.bool false),_,C')=>g aj C'
 |_=>ao
def CP(f:FE):FE:=λaj C=>match f aj C with
 |some (.im (.bool b),_,C')=>aa (.im (.bool (!b)),aj,C')
 |_=>ao
def Dd(c:FT)(f g:FE):FE:=λaj C=>match c aj C with
 |some (true,C')=>f aj C'
 |some (false,C')=>g aj C'
 |none=>ao
def Qz(f:FB):FE:=λaj C=>match f aj C with
 |some (.int i,_,C')=>aa (.im (.int (-i)),aj,C')
 |_=>ao
section
variable{X:Cx}{rest:List Expr}
theorem pH{o}(h:PE X a (tE X.K f)):PE X (.BoolOp o [a] pos) (tE X.K f):=aqo h
theorem oU(ha:PE X a (tE X.K f))(hb:PE X (.BoolOp .And (b::rest) pos) (tE X.K g)):PE X (.BoolOp .And (a::b::rest) pos) (tE X.K (gO f g)):=(aqp ha hb).weak λσ H Q aY=>by
 obtain⟨Z,Θ,aj,C,r,aW,C',S,hf,q⟩:=aY
 unfold gO at hf;split at hf
 .rename_i e1 C1 h1
  refine⟨Z,Θ,aj,C,_,e1,C1,S,h1,λv H1 k1 f1 R1=>⟨aq,R1.2,yL ⟨Z,Θ,aj,C1,r,aW,C',S.go k1 R1.1.cell,hf,λw H2 k2 f2 R2=>q w H2 (k1.trans k2) f2 (R2.from k1)⟩⟩⟩
 .rename_i e1 C1 h1;cases hf
  exact⟨Z,Θ,aj,C,_,e1,C',S,h1,λv H1 k1 f1 R1=>⟨aA,R1.2,yK (q _ H1 k1 (Fz.refl _) ⟨S.go k1 R1.1.cell,rfl⟩)⟩⟩
 .cases hf
theorem agi(ha:PE X a (tE X.K f))(hb:PE X (.BoolOp .Or (b::rest) pos) (tE X.K g)):PE X (.BoolOp .Or (a::b::rest) pos) (tE X.K (Ah f g)):=(arJ ha hb).weak λσ H Q aY=>by
 obtain⟨Z,Θ,aj,C,r,aW,C',S,hf,q⟩:=aY
 unfold Ah at hf;split at hf
 .rename_i e1 C1 h1;cases hf
  exact⟨Z,Θ,aj,C,_,e1,C',S,h1,λv H1 k1 f1 R1=>⟨aq,R1.2,yL (q _ H1 k1 (Fz.refl _) ⟨S.go k1 R1.1.cell,rfl⟩)⟩⟩
 .rename_i e1 C1 h1
  refine⟨Z,Θ,aj,C,_,e1,C1,S,h1,λv H1 k1 f1 R1=>⟨aA,R1.2,yK ⟨Z,Θ,aj,C1,r,aW,C',S.go k1 R1.1.cell,hf,λw H2 k2 f2 R2=>q w H2 (k1.trans k2) f2 (R2.from k1)⟩⟩⟩
 .cases hf
theorem afF(ha:PE X a (tE X.K f)):PE X (.UnaryOp .Not a pos) (tE X.K (CP f)):=(aqq ha).weak λσ H Q aY=>by
 obtain⟨Z,Θ,aj,C,r,aW,C',S,hf,q⟩:=aY
 unfold CP at hf;split at hf
 .rename_i b e1 C1 h1;cases hf
  exact⟨Z,Θ,aj,C,_,e1,C',S,h1,λv H1 k1 f1 R1=>⟨b,R1.2,q _ H1 k1 (Fz.refl _) ⟨S.go k1 R1.1.cell,rfl⟩⟩⟩
 .cases hf
theorem Ye(hc:PT X c (iJ X.K t))(ha:PE X a (tE X.K f))(hb:PE X b (tE X.K g)):PE X (.IfExp c a b pos) (tE X.K (Dd t f g)):=(anf hc ha hb).weak λσ H Q aY=>by
 obtain⟨Z,Θ,aj,C,r,aW,C',S,hf,q⟩:=aY
 unfold Dd at hf;split at hf
 .rename_i C1 h1
  exact⟨Z,Θ,aj,C,aq,C1,S,h1,λH1 k1 S1=>yL ⟨Z,Θ,aj,C1,r,aW,C',S1,hf,λw H2 k2 f2 R2=>q w H2 (k1.trans k2) f2 (R2.from k1)⟩⟩
 .rename_i C1 h1
  exact⟨Z,Θ,aj,C,aA,C1,S,h1,λH1 k1 S1=>yK ⟨Z,Θ,aj,C1,r,aW,C',S1,hf,λw H2 k2 f2 R2=>q w H2 (k1.trans k2) f2 (R2.from k1)⟩⟩
 .cases hf
theorem aq0(ha:PE X a (fK X.K f)):PE X (.UnaryOp .USub a pos) (tE X.K (Qz f)):=(arQ aqv ha).weak λσ H Q aY=>by
 obtain⟨Z,Θ,aj,C,r,aW,C',S,hf,q⟩:=aY
 unfold Qz at hf;split at hf
 .rename_i i e1 C1 h1;cases hf
  exact⟨Z,Θ,aj,C,_,e1,C',S,h1,λv H1 k1 f1 S1 b1=>⟨i,b1,q _ H1 k1 (Fz.refl _) ⟨S.go k1 S1.cell,rfl⟩⟩⟩
 .cases hf
end
def yx(K:bw)(E:Hp)(Θ:List aH):Vl->V->Prop
 |.im d,v=>RZ E d v
 |.ow _,_=>False
 |.ce n,v=>∃a,v=.ref a/\Θ[n]?=aa a
 |.sc ns,v=>∃a,v=.ref a/\cj K E a (ns.map V.int)
 |.tp _ _ _,_=>False
inductive yq(K:bw)(E:Hp)(Θ:List aH):List Vl->List V->Prop
 |nil:yq K E Θ [] []
 |cons {x:Vl} {v:V} {xs:List Vl} {vs:List V}:yx K E Θ x v->yq K E Θ xs vs->yq K E Θ (x::xs) (v::vs)
theorem yx.same{K:bw}(s:cO E E'){x:Vl}{v:V}(h:yx K E Θ x v):yx K E' Θ x v:=by
 cases x with
 |im d=>exact RZ.same s h
 |ow d=>exact h
 |ce n=>exact h
 |sc ns=>obtain⟨a,e,q⟩:=h;exact⟨a,e,s.seq q⟩
 |tp=>exact h
inductive za(K:bw)(f:FA)(σ:St)(H:Hp)(Q:List V->Hp->Prop):Prop
 |mk (Z Θ:List aH) (aj:En) (C:Ce) (xs:List Vl) (aW:En) (C':Ce) (S:Sm K Z Θ aj C σ H) (hf:f aj C=aa (xs,aW,C')) (q:∀vs H',bG Θ H H'->Fz aj aW->Sm K Z Θ aW C' σ H'->yq K (er (bH Z Θ aW σ) H') Θ xs vs->Q vs H'):za K f σ H Q
noncomputable def aU:FA:=λaj C=>aa ([],aj,C)
def aD(f:FE)(g:FA):FA:=λaj C=>match f aj C with
 |some (r,e1,C1)=>match g e1 C1 with
  |some (xs,e2,C2)=>aa (still r::xs,e2,C2)
  |none=>ao
 |none=>ao
noncomputable def eG:Am:=λaj C=>aa ([],aj,C)
def dF(f:FB)(g:Am):Am:=λaj C=>match f aj C with
 |some (d,e1,C1)=>match g e1 C1 with
  |some (ds,e2,C2)=>aa (d::ds,e2,C2)
  |none=>ao
 |none=>ao
theorem Res.arg{K:bw}{aj:En}{C:Ce}{σ:St}{r:Vl}{v:V}(h:Res K Z Θ aj C σ H H' r v):Sm K Z Θ aj C σ H'/\yx K (er (bH Z Θ aj σ) H') Θ (L2.still r) v:=by
 have g:=h.still;cases r with
 |im d=>exact g
 |ow d=>exact g
 |ce n=>exact g
 |sc ns=>exact g
 |tp=>exact h.elim
theorem bh:PA X [] (za X.K aU):=ur.weak λσ H Q aY=>by
 obtain⟨Z,Θ,aj,C,xs,aW,C',S,hf,q⟩:=aY
 cases hf;exact q [] H (bG.refl _ _) (Fz.refl _) S .nil
theorem aF(h:PE X e (tE X.K f))(hr:PA X es (za X.K g))(hs:bM (e::es) X.env=(aA,eval e X.env)::bM es X.env:=by rfl):PA X (e::es) (za X.K (aD f g)):=(qx h hr hs).weak λσ H Q aY=>by
 obtain⟨Z,Θ,aj,C,xs,aW,C',S,hf,q⟩:=aY
 unfold aD at hf;split at hf
 .rename_i r e1 C1 h1;split at hf
  .rename_i ys e2 C2 h2;cases hf
   refine⟨Z,Θ,aj,C,r,e1,C1,S,h1,λv H1 k1 f1 R1=>?_⟩
   obtain⟨S1,a1⟩:=R1.arg
   exact⟨Z,Θ,e1,C1,ys,aW,C',S1,h2,λvs H2 k2 f2 S2 a2=>q _ H2 (k1.trans k2) (f1.trans f2) S2 (.cons (a1.same (Yc S1 k2 f2)) a2)⟩
  .cases hf
 .cases hf
theorem fB:PA X [] (yW X.K eG):=ur.weak λσ H Q aY=>by
 obtain⟨Z,Θ,aj,C,xs,aW,C',S,hf,q⟩:=aY
 cases hf;exact q [] H (bG.refl _ _) (Fz.refl _) S .nil
theorem dZ(h:PE X e (fK X.K f))(hr:PA X es (yW X.K g))(hs:bM (e::es) X.env=(aA,eval e X.env)::bM es X.env:=by rfl):PA X (e::es) (yW X.K (dF f g)):=(qx h hr hs).weak λσ H Q aY=>by
 obtain⟨Z,Θ,aj,C,xs,aW,C',S,hf,q⟩:=aY
 unfold dF at hf;split at hf
 .rename_i d e1 C1 h1;split at hf
  .rename_i ys e2 C2 h2;cases hf
   exact⟨Z,Θ,aj,C,d,e1,C1,S,h1,λv H1 k1 f1 S1 b1=>⟨Z,Θ,e1,C1,ys,aW,C',S1,h2,λvs H2 k2 f2 S2 b2=>q _ H2 (k1.trans k2) (f1.trans f2) S2 (.cons (b1.go S1 k2 f2) b2)⟩⟩
  .cases hf
 .cases hf
noncomputable def Gm:List Vl->Option (List aB)
 |[]=>aa []
 |.im d::r=>match Gm r with
  |some ds=>aa (d::ds)
  |none=>ao
 |_=>ao
theorem VN{K:bw}:∀{xs:List Vl}{ds:List aB}{vs:List V},Gm xs=aa ds->yq K E Θ xs vs->cM E ds vs
 |[],ds,vs,h,a=>by cases h;cases a;rfl
 |.im d::r,ds,vs,h,a=>by
  unfold Gm at h;split at h
  .rename_i t ht;cases h;cases a with
   |cons a1 a2=>exact⟨_,_,rfl,a1,VN ht a2⟩
  .cases h
 |.ow _::r,ds,vs,h,a=>by cases h
 |.ce _::r,ds,vs,h,a=>by cases h
 |.sc _::r,ds,vs,h,a=>by cases h
 |.tp _ _ _::r,ds,vs,h,a=>by cases h
def dj(g:FA):FE:=λaj C=>match g aj C with
 |some (xs,e',C')=>match Gm xs with
  |some ds=>if ds.length<=gG then aa (.ow (.list ds),e',C') else ao
  |none=>ao
 |none=>ao
def eZ(g:FA):FE:=λaj C=>match g aj C with
 |some (xs,e',C')=>match Gm xs with
  |some ds=>if ds.length<=gG then aa (.im (.tuple ds),e',C') else ao
  |none=>ao
 |none=>ao
theorem dN(h:PA X es (za X.K g)):PE X (.List es pos) (tE X.K (dj g)):=(aqx h).weak λσ H Q aY=>by
 obtain⟨Z,Θ,aj,C,r,aW,C',S,hf,q⟩:=aY
 unfold dj at hf;split at hf
 .rename_i xs e1 C1 h1;split at hf
  .rename_i ds hd;split at hf
   .rename_i hl;cases hf
    refine⟨Z,Θ,aj,C,xs,aW,C',S,h1,λvs H1 k1 f1 S1 a1=>?_⟩
    have r:=VN hd a1
    exact⟨by rw[jU r];exact rB hl,λp hp=>q _ _ (k1.trans (bG.upd hp)) f1 ((qy S1 r hp).from k1)⟩
   .cases hf
  .cases hf
 .cases hf
theorem fL{x1}(h:PA X es (za X.K g)):PE X (.Tuple es x1 pos) (tE X.K (eZ g)):=(Xn h).weak λσ H Q aY=>by
 obtain⟨Z,Θ,aj,C,r,aW,C',S,hf,q⟩:=aY
 unfold eZ at hf;split at hf
 .rename_i xs e1 C1 h1;split at hf
  .rename_i ds hd;split at hf
   .rename_i hl;cases hf
    refine⟨Z,Θ,aj,C,xs,aW,C',S,h1,λvs H1 k1 f1 S1 a1=>?_⟩
    have r:=VN hd a1
    exact⟨by rw[jU r];exact rB hl,λp hp=>q _ _ (k1.trans (bG.upd hp)) f1 ((Fv S1 r hp).from k1)⟩
   .cases hf
  .cases hf
 .cases hf
def Cp:FE:=λaj C=>aa (.ow (.dict []),aj,C)
theorem VP:PE X (.Dict [] [] pos) (tE X.K Cp):=anr.weak λσ H Q aY=>by
 obtain⟨Z,Θ,aj,C,r,aW,C',S,hf,q⟩:=aY
 cases hf;exact λp hp=>q _ _ (bG.upd hp) (Fz.refl _) (apc (vs:=[]) S (λ_ z=>nomatch z) (.inl ⟨[],rfl,0,gV⟩) rfl hp)
def mH(K:bw)(r:List V->Hp->VK->Prop)(op:List aB->Option Vl):Prop:=
 ∀(Z Θ:List aH)(aj:En)(C:Ce)(σ:St)(H:Hp)(xs:List V)(ds:List aB)(res:Vl),Sm K Z Θ aj C σ H->Qf Z Θ aj σ H ds xs->op ds=aa res->
  ∀Q:VK,(∀v H',bG Θ H H'->Res K Z Θ aj C σ H H' res v->Q v H')->r xs H Q
def dY(op:List aB->Option Vl)(g:Am):FE:=λaj C=>match g aj C with
 |some (ds,e',C')=>match op ds with
  |some r=>aa (r,rst r aj e',C')
  |none=>ao
 |none=>ao
theorem adK{K:bw}(L:mH K r op){g:Am}:∀σ H Q,tE K (dY op g) σ H Q->Y6 r (yW K g) σ H Q:=by
 rintro σ H Q ⟨Z,Θ,aj,C,res,aW,C',S,hf,q⟩;unfold dY at hf;split at hf
 .rename_i ds e1 C1 h1;split at hf
  .rename_i r0 h2;cases hf
   refine⟨Z,Θ,aj,C,ds,e1,C',S,h1,λvs H1 k1 f1 S1 b1=>L Z Θ e1 C' σ H1 vs ds res S1 b1 h2 Q λz H2 k2 R=>?_⟩
   exact q z H2 (k1.trans k2) (f1.rst res) ((R.from k1).rst S (k1.trans k2))
  .cases hf
 .cases hf
section
variable{X:Cx}{x:Str}{p pos:Pos}{e:Expr}{g:Am}{id T:String}
theorem anQ(hc:jm X (.builtin id) r)(L:mH X.K r op)(hg:Gl X x)(hm:X.mg x=ao)(hv:uQ x=aa (.builtin id))(ha:PA X (e::es) (yW X.K g))(hn:x≠"__name__":=by decide)(hdb:(x==("__debug__":Str))=aA:=by decide)
  (he:bM (e::es) X.env=(aA,eval e X.env)::bM es X.env:=by rfl)(hpl:(iC pos (bM es X.env)).any (·.1)=aA:=by rfl):PE X (.Call (.Name x p) (e::es) [] pos) (tE X.K (dY op g)):=(Nx hc hg hm hv ha hn hdb he hpl).weak (adK L)
theorem xZ(hc:jm X (.type T) r)(L:mH X.K r op)(hg:Gl X x)(hm:X.mg x=ao)(hv:uQ x=aa (.type T))(ha:PA X (e::es) (yW X.K g))(hn:x≠"__name__":=by decide)(hdb:(x==("__debug__":Str))=aA:=by decide)
  (he:bM (e::es) X.env=(aA,eval e X.env)::bM es X.env:=by rfl)(hpl:(iC pos (bM es X.env)).any (·.1)=aA:=by rfl):PE X (.Call (.Name x p) (e::es) [] pos) (tE X.K (dY op g)):=(amc hc hg hm hv ha hn hdb he hpl).weak (adK L)
end
abbrev FN:=List Vl->Ce->Option (Vl×Ce)
noncomputable def JN:Vl->Bool
 |.tp _ _ _=>aq
 |_=>aA
def QB(K:bw)(Z Θ:List aH)(C:Ce)(H H':Hp):Vl->V->Prop
 |.tp p d q,v=>∃t a vs us,v=.ref t/\H' t=aa (.tup (vs++.ref a::us))/\H a=ao/\Sm K (a::Z) Θ [] C [] H'/\nW (er (bH (a::Z) Θ [] []) H') H' a d/\cM (er (bH (a::Z) Θ [] []) H') p vs/\cM (er (bH (a::Z) Θ [] []) H') q us
 |r,v=>Res K Z Θ [] C [] H H' r v
theorem QB.res{K:bw}{C:Ce}{r:Vl}{v:V}(n:JN r=aA)(h:QB K Z Θ C H H' r v):Res K Z Θ [] C [] H H' r v:=by
 cases r<;>first|exact h|cases n
def spT(K:bw)(f:FN):Sp:=λvs H Q _=>∃Z Θ C xs r C',Sm K Z Θ [] C [] H/\yq K (er (bH Z Θ [] []) H) Θ xs vs/\f xs C=aa (r,C')/\
 ∀v H',bG Θ H H'->QB K Z Θ C' H H' r v->Q v H'
def bW(f:FN)(g:FA):FE:=λaj C=>match g aj C with
 |some (xs,e',C1)=>match f xs C1 with
  |some (r,C2)=>if JN r then ao else aa (r,rst r aj e',C2)
  |none=>ao
 |none=>ao
theorem vf(h:∀a,a∈P↔a∈P'):er P H=er P' H:=by
 funext b;unfold er;by_cases hb:b∈P
 .rw[bC hb,bC ((h b).mp hb)]
 .rw[bB hb,bB (λz=>hb ((h b).mpr z))]
theorem WT(a:aH):a∈bH (Z++cF aj σ) Θ [] []↔a∈bH Z Θ aj σ:=by
 simp only[bH,cF,eO,mj];constructor
 .rintro((h|h)|h)
  .exact .inl h
  .exact .inr (.inr h)
  .exact .inr (.inl h)
 .rintro(h|h|h)
  .exact .inl (.inl h)
  .exact .inr h
  .exact .inl (.inr h)
section
variable{K:bw}{aj:En}{σ:St}{H H':Hp}{a:aH}
theorem Sm.Jw(S:Sm K Z Θ aj C σ H)(ha:H a=ao)(k:bG Θ H H')(h':NT (H' a))(c:sZ Θ C' H'):Sm K (a::Z) Θ aj C' σ H':=by
 have sm:cO (er (bH Z Θ aj σ) H) (er (bH (a::Z) Θ aj σ) H'):=oA k S.uI λb m=>by
  rcases cg.mp m with rfl|m
  .exact .inr ha
  .exact .inl m
 refine⟨S.len,mK.mpr ⟨λm=>S.CZ a m ha,S.nd⟩,λb m=>?_,λi x e=>?_,c⟩
 .rcases cg.mp m with rfl|m
  .exact h'
  .obtain⟨u,e,n⟩:=S.dom b m
   exact⟨u,k.keep _ _ e λz=>by
    have h:=S.nd;rw[mZ] at h;exact h.2.2 b m b (jR _ z) rfl,n⟩
 .obtain⟨v,e1,r⟩:=S.slot i x e
  refine⟨v,e1,r.same sm λd b ex ev o' ho=>k.keep _ _ ho ?_⟩
  subst ex ev
  exact(S.qz (pD.mpr ⟨i,d,e,e1⟩)).2
theorem Sm.bare(S:Sm K Z Θ aj C σ H):Sm K (Z++cF aj σ) Θ [] C [] H:=by
 refine⟨rfl,?_,λb m=>?_,λi x e=>by simp at e,S.cell⟩
 .have h:=S.nd
  show((Z++cF aj σ)++(Θ++[])).Nodup
  rw[mj,qX];have p:(Z++(Θ++cF aj σ)).Perm (Z++(cF aj σ++Θ)):=aib Z List.perm_append_comm;exact p.nodup h
 .rcases eO.mp m with m|m
  .exact S.dom b m
  .exact S.QX b (gw _ (gw _ m))
theorem Res.back(S:Sm K Z Θ aj C σ H)(k:bG Θ H H')(h:Res K (Z++cF aj σ) Θ [] C' [] H H' r v):Res K Z Θ aj C' σ H H' r v:=by
 have e1:er (bH (Z++cF aj σ) Θ [] []) H'=er (bH Z Θ aj σ) H':=vf WT;cases r with
 |im d=>
  obtain⟨S',r⟩:=h
  rw[e1] at r
  exact⟨S.go k S'.cell,r⟩
 |ow d=>
  obtain⟨a,rfl,hn,S',r⟩:=h
  have e2:er (bH (a::(Z++cF aj σ)) Θ [] []) H'=er (bH (a::Z) Θ aj σ) H':=vf λb=>by
   show b∈a::bH (Z++cF aj σ) Θ [] []↔b∈a::bH Z Θ aj σ;rw[cg,cg,WT]
  rw[e2] at r
  exact⟨a,rfl,hn,S.Jw hn k (S'.dom a eV) S'.cell,r⟩
 |ce n=>exact⟨S.go k h.1.cell,h.2⟩
 |sc ns=>
  obtain⟨S',a,rfl,q⟩:=h
  rw[e1] at q
  exact⟨S.go k S'.cell,a,rfl,q⟩
 |tp=>exact h
end
section
variable{X:Cx}{x:Str}{k:Nat}{p pos:Pos}{e:Expr}{f:FN}{g:FA}
theorem anR{K:bw}:∀σ H Q,tE K (bW f g) σ H Q->X6 (spT K f) [] E0 (za K g) σ H Q:=by
 rintro σ H Q ⟨Z,Θ,aj,C,res,aW,C',S,hf,q⟩;unfold bW at hf;split at hf
 .rename_i xs e1 C1 h1;split at hf
  .rename_i r C2 h2;split at hf
   .cases hf
   rename_i nt;cases hf
   refine⟨Z,Θ,aj,C,xs,e1,C1,S,h1,λvs H1 k1 f1 S1 a1=>?_⟩
   show spT K f (vs++[]) H1 Q E0;rw[mj];have e2:er (bH (Z++cF e1 σ) Θ [] []) H1=er (bH Z Θ e1 σ) H1:=vf WT;rw[<-e2] at a1
   exact⟨Z++cF e1 σ,Θ,C1,xs,res,C',S1.bare,a1,h2,λv H2 k2 R=>q v H2 (k1.trans k2) (f1.rst res) (((Res.back S1 k2 (R.res (aiQ.mpr nt))).from k1).rst S (k1.trans k2))⟩
  .cases hf
 .cases hf
theorem agj(F:dz X.prog X.w X.K X.mg X.base x k ps (spT X.K f))(hr:kY k X.A)(hg:Gl X x)(ha:PA X (e::es) (za X.K g))(hdb:(x==("__debug__":Str))=aA:=by decide)
  (he:bM (e::es) X.env=(aA,eval e X.env)::bM es X.env:=by rfl)(hpl:(iC pos (bM es X.env)).any (·.1)=aA:=by rfl):PE X (.Call (.Name x p) (e::es) [] pos) (tE X.K (bW f g)):=(ar5 F hr hg ha hdb he hpl).weak anR
end
theorem Vj:∀{aj:En}{σ:St},(∀(i j:Nat)(d e:aB)(a:aH),aj[i]?=aa (aa (Vl.ow d))->σ[i]?=aa (aa (V.ref a))->aj[j]?=aa (aa (Vl.ow e))->σ[j]?=aa (aa (V.ref a))->i=j)->(cF aj σ).Nodup
 |[],σ,_=>by cases σ<;>exact lJ
 |_::_,[],_=>lJ
 |x::en,v::s,h=>by
  rw[cF,mZ]
  refine⟨?_,Vj λi j d e a h1 h2 h3 h4=>?_,λa ha b hb e=>?_⟩
  .unfold own1;split
   .exact mK.mpr ⟨bF,lJ⟩
   .exact lJ
  .have:=h (i+1) (j+1) d e a (by simpa using h1) (by simpa using h2) (by simpa using h3) (by simpa using h4);lia
  .subst e;unfold own1 at ha;split at ha
   .rw[gU] at ha;subst ha
    obtain⟨j,d,h1,h2⟩:=pD.mp hb
    have:=h 0 (j+1) _ d a rfl rfl (by simpa using h1) (by simpa using h2);lia
   .simp at ha
theorem get_set{α:Type}{l:List α}{x y:α}(h:(l.set i x)[j]?=aa y):(j=i/\y=x/\i<l.length)\/(j≠i/\l[j]?=aa y):=by
 by_cases e:i=j
 .subst e;rw[Rw,bC rfl] at h;split at h
  .rename_i hl;cases h;exact .inl ⟨rfl,rfl,hl⟩
  .cases h
 .rw[Dv e] at h;exact .inr ⟨λz=>e z.symm,h⟩
theorem aeK{α:Type}{l:List α}{x:α}(h:i<l.length):(l.set i x)[i]?=aa x:=by
 rw[Rw,bC rfl,bC h]
theorem BX(h:a∈cF (aj.set i (aa x)) (σ.set i (aa v))):a∈cF aj σ\/(∃d,x=.ow d)/\v=.ref a:=by
 obtain⟨j,d,h1,h2⟩:=pD.mp h
 rcases get_set h1 with⟨rfl,e,_⟩|⟨n,h1⟩
 .rcases get_set h2 with⟨_,e2,_⟩|⟨n,_⟩
  .cases e;cases e2;exact .inr ⟨⟨d,rfl⟩,rfl⟩
  .exact absurd rfl n
 .rcases get_set h2 with⟨e,_,_⟩|⟨_,h2⟩
  .exact absurd e n
  .exact .inl (pD.mpr ⟨j,d,h1,h2⟩)
section
variable{K:bw}{Z Θ:List aH}{C:Ce}{σ:St}{H:Hp}{a:aH}{i:Nat}{v:V}
theorem Sm.gf(S:Sm K Z Θ aj C σ H):Z.Nodup/\Θ.Nodup/\(cF aj σ).Nodup/\(∀b∈Z,b∉Θ):=by
 have h:=S.nd;rw[mZ,mZ] at h
 obtain⟨h1,⟨h2,h3,_⟩,h4⟩:=h
 exact⟨h1,h2,h3,λb m m'=>h4 b m b (jR _ m') rfl⟩
theorem Dr(h1:Z.Nodup)(h2:Θ.Nodup)(h3:O.Nodup)(h4:∀b∈Z,b∉Θ)(h5:∀b∈O,b∉Z/\b∉Θ):(Z++(Θ++O)).Nodup:=by
 rw[mZ,mZ]
 refine⟨h1,⟨h2,h3,λb m c m' e=>?_⟩,λb m c m' e=>?_⟩
 .subst e;exact(h5 b m').2 m
 .subst e;rcases eO.mp m' with m'|m'
  .exact h4 b m m'
  .exact(h5 b m').1 m
theorem Sm.Gz(S:Sm K Z Θ aj C σ H){x:Vl}(hx:∀d,x≠.ow d)(r:Gy K (er (bH Z Θ aj σ) H) H Θ x v):Sm K Z Θ (aj.set i (aa x)) C (σ.set i (aa v)) H:=by
 have sub:∀b,b∈cF (aj.set i (aa x)) (σ.set i (aa v))->b∈cF aj σ:=λb m=>by
  rcases BX m with m|⟨⟨d,e⟩,_⟩
  .exact m
  .exact absurd e (hx d)
 have gf:=S.gf;have sm:cO (er (bH Z Θ aj σ) H) (er (bH Z Θ (aj.set i (aa x)) (σ.set i (aa v))) H):=wK λb m=>by
  rcases eO.mp m with m|m
  .exact jR _ m
  .rcases eO.mp m with m|m
   .exact gw _ (jR _ m)
   .exact gw _ (gw _ (sub b m))
 refine⟨by rw[DP,DP];exact S.len,?_,S.dom,λj y e=>?_,S.cell⟩
 .refine Dr gf.1 gf.2.1 (Vj λp q d e b h1 h2 h3 h4=>?_) gf.2.2.2 λb m=>S.qz (sub b m)
  rcases get_set h1 with⟨rfl,e1,_⟩|⟨n1,h1⟩
  .cases e1;exact absurd rfl (hx d)
  .rcases get_set h3 with⟨rfl,e1,_⟩|⟨n2,h3⟩
   .cases e1;exact absurd rfl (hx e)
   .rcases get_set h2 with⟨e2,_,_⟩|⟨_,h2⟩
    .exact absurd e2 n1
    .rcases get_set h4 with⟨e4,_,_⟩|⟨_,h4⟩
     .exact absurd e4 n2
     .exact Jf gf.2.2.1 h1 h2 h3 h4
 .rcases get_set e with⟨rfl,e1,hl⟩|⟨n,e⟩
  .cases e1
   exact⟨v,aeK (by rw[S.len];exact hl),r.same sm λd b ex _=>absurd ex (hx d)⟩
  .obtain⟨u,e1,r1⟩:=S.slot j y e
   exact⟨u,by rw[Dv (kJ n)];exact e1,r1.same sm λ_ _ _ _ _ h=>h⟩
theorem Sm.agR(S:Sm K (a::Z) Θ aj C σ H){d:aB}(r:nW (er (bH (a::Z) Θ aj σ) H) H a d):Sm K Z Θ (aj.set i (aa (.ow d))) C (σ.set i (aa (.ref a))) H:=by
 have sub:∀b,b∈cF (aj.set i (aa (.ow d))) (σ.set i (aa (.ref a)))->b∈cF aj σ\/b=a:=λb m=>by
  rcases BX m with m|⟨_,e⟩
  .exact .inl m
  .cases e;exact .inr rfl
 have gf:=S.gf;have Kc:=mK.mp gf.1;have sm:cO (er (bH (a::Z) Θ aj σ) H) (er (bH Z Θ (aj.set i (aa (.ow d))) (σ.set i (aa (.ref a)))) H):=wK λb m=>by
  rcases eO.mp m with m|m
  .exact jR _ (fQ _ m)
  .rcases eO.mp m with m|m
   .exact gw _ (jR _ m)
   .rcases sub b m with m|rfl
    .exact gw _ (gw _ m)
    .exact jR _ eV
 have agS:a∉cF aj σ:=λm=>(S.qz m).1 eV
 refine⟨by rw[DP,DP];exact S.len,?_,λb m=>S.dom b (fQ _ m),λj y e=>?_,S.cell⟩
 .refine Dr Kc.2 gf.2.1 (Vj λp q d1 e b h1 h2 h3 h4=>?_) (λb m=>gf.2.2.2 b (fQ _ m)) λb m=>?_
  .rcases get_set h1 with⟨rfl,e1,_⟩|⟨n1,h1⟩
   .rcases get_set h3 with⟨e3,_,_⟩|⟨n2,h3⟩
    .exact e3.symm
    .rcases get_set h2 with⟨_,e2,_⟩|⟨n,_⟩
     .cases e2;rcases get_set h4 with⟨e4,_,_⟩|⟨_,h4⟩
      .exact e4.symm
      .exact absurd (pD.mpr ⟨q,e,h3,h4⟩) agS
     .exact absurd rfl n
   .rcases get_set h2 with⟨e2,_,_⟩|⟨_,h2'⟩
    .exact absurd e2 n1
    .have mp:=pD.mpr ⟨p,d1,h1,h2'⟩;rcases get_set h3 with⟨rfl,e3,_⟩|⟨n2,h3⟩
     .rcases get_set h4 with⟨_,e4,_⟩|⟨n,_⟩
      .cases e4;exact absurd mp agS
      .exact absurd rfl n
     .rcases get_set h4 with⟨e4,_,_⟩|⟨_,h4⟩
      .exact absurd e4 n2
      .exact Jf gf.2.2.1 h1 h2' h3 h4
  .rcases sub b m with m|rfl
   .obtain⟨p,q⟩:=S.qz m
    exact⟨λz=>p (fQ _ z),q⟩
   .exact⟨Kc.1,gf.2.2.2 b eV⟩
 .rcases get_set e with⟨rfl,e1,hl⟩|⟨n,e⟩
  .cases e1
   exact⟨_,aeK (by rw[S.len];exact hl),a,rfl,r.same sm λ_ h=>h⟩
  .obtain⟨u,e1,r1⟩:=S.slot j y e
   exact⟨u,by rw[Dv (kJ n)];exact e1,r1.same sm λ_ _ _ _ _ h=>h⟩
theorem Res.set(h:Res K Z Θ aj C σ H0 H r v):Sm K Z Θ (aj.set i (aa r)) C (σ.set i (aa v)) H:=by
 cases r with
 |im d=>exact h.1.Gz (λ_ e=>nomatch e) h.2
 |ow d=>obtain⟨a,rfl,_,S,r⟩:=h;exact S.agR r
 |ce n=>exact h.1.Gz (λ_ e=>nomatch e) h.2
 |sc ns=>exact h.1.Gz (λ_ e=>nomatch e) h.2
 |tp=>exact h.elim
end
inductive Fl where
 |nx|rt (r:Vl)|bk|ct
abbrev FS:=En->Ce->Option (Fl×En×Ce)
structure n6(Θ Θ':List aH)(H:Hp):Prop where
 ex:∃Δ,Θ'=Θ++Δ/\∀a∈Δ,H a=ao
theorem n6.refl(Θ:List aH)(H:Hp):n6 Θ Θ H:=⟨[],by rw[mj],λ_ m=>nomatch m⟩
structure gH(K:bw)(Z Θ:List aH)(aj:En)(σ:St)(H:Hp)(Θ':List aH)(aW:En)(C':Ce)(σ':St)(H':Hp):Prop where
 th:n6 Θ Θ' H
 kp:bG (Θ++cF aj σ) H H'
 own:∀a∈cF aW σ',a∈cF aj σ\/H a=ao
 sm:Sm K Z Θ' aW C' σ' H'
def Qh(K:bw)(Z Θ:List aH)(C:Ce)(own:List aH)(H H':Hp):Vl->V->Prop
 |.im d,v=>Sm K Z Θ [] C [] H'/\RZ (er (bH Z Θ [] []) H') d v
 |.ow d,v=>∃a,v=.ref a/\(a∈own\/H a=ao)/\Sm K (a::Z) Θ [] C [] H'/\nW (er (bH (a::Z) Θ [] []) H') H' a d
 |.ce n,v=>Sm K Z Θ [] C [] H'/\∃a,v=.ref a/\Θ[n]?=aa a
 |.sc ns,v=>Sm K Z Θ [] C [] H'/\∃a,v=.ref a/\cj K (er (bH Z Θ [] []) H') a (ns.map V.int)
 |.tp p d q,v=>∃t a vs us,v=.ref t/\H' t=aa (.tup (vs++.ref a::us))/\(a∈own\/H a=ao)/\Sm K (a::Z) Θ [] C [] H'/\nW (er (bH (a::Z) Θ [] []) H') H' a d/\cM (er (bH (a::Z) Θ [] []) H') p vs/\cM (er (bH (a::Z) Θ [] []) H') q us
structure Zj(K:bw)(Z Θ:List aH)(aj:En)(σ:St)(H:Hp)(Θ':List aH)(C':Ce)(r:Vl)(v:V)(H':Hp):Prop where
 th:n6 Θ Θ' H
 kp:bG (Θ++cF aj σ) H H'
 ok:Qh K Z Θ' C' (cF aj σ) H H' r v
def QC(K:bw)(Z Θ:List aH)(aj:En)(σ:St)(H:Hp)(aW:En)(C':Ce)(D:Ends):Fl->Prop
 |.nx=>∀Θ' σ' H',gH K Z Θ aj σ H Θ' aW C' σ' H'->D.nx σ' H'
 |.bk=>∀Θ' σ' H',gH K Z Θ aj σ H Θ' aW C' σ' H'->D.bk σ' H'
 |.ct=>∀Θ' σ' H',gH K Z Θ aj σ H Θ' aW C' σ' H'->D.ct σ' H'
 |.rt r=>∀Θ' v H',Zj K Z Θ aj σ H Θ' C' r v H'->D.rt v H'
inductive tS(K:bw)(f:FS)(D:Ends)(σ:St)(H:Hp):Prop
 |mk (Z Θ:List aH) (aj:En) (C:Ce) (fl:Fl) (aW:En) (C':Ce) (S:Sm K Z Θ aj C σ H) (hf:f aj C=aa (fl,aW,C')) (q:QC K Z Θ aj σ H aW C' D fl):tS K f D σ H
section
variable{K:bw}{C C1 C2:Ce}{σ σ1 σ2:St}{H H1 H2:Hp}
theorem n6.trans(h:n6 Θ Θ1 H)(k:∀a,H a≠ao->H1 a≠ao)(g:n6 Θ1 Θ2 H1):n6 Θ Θ2 H:=by
 obtain⟨Δ,e,n⟩:=h.ex
 obtain⟨Δ',e',n'⟩:=g.ex
 refine⟨Δ++Δ',by rw[e',e,qX],λa m=>?_⟩
 rcases eO.mp m with m|m
 .exact n a m
 .cases h:H a with
  |none=>rfl
  |some o=>exact absurd (n' a m) (k a (by rw[h];exact zu _))
theorem adL(th:n6 Θ Θ1 H)(k1:bG (Θ++cF aj σ) H H1)(ow:∀a∈cF e1 σ1,a∈cF aj σ\/H a=ao)(k2:bG (Θ1++cF e1 σ1) H1 H2):bG (Θ++cF aj σ) H H2:=by
 refine⟨λa o e n=>k2.keep a o (k1.keep a o e n) λm=>n ?_,λa e=>k2.dom a (k1.dom a e)⟩
 have hn:H a≠ao:=by rw[e];exact zu _
 rcases eO.mp m with m|m
 .obtain⟨Δ,e',n'⟩:=th.ex
  rw[e'] at m;rcases eO.mp m with m|m
  .exact jR _ m
  .exact absurd (n' a m) hn
 .rcases ow a m with m|m
  .exact gw _ m
  .exact absurd m hn
theorem gH.trans(p:gH K Z Θ aj σ H Θ1 e1 C1 σ1 H1)(q:gH K Z Θ1 e1 σ1 H1 Θ2 e2 C2 σ2 H2):gH K Z Θ aj σ H Θ2 e2 C2 σ2 H2 where
 th:=p.th.trans p.kp.dom q.th
 kp:=adL p.th p.kp p.own q.kp
 own:=λa m=>by
  rcases q.own a m with m|m
  .exact p.own a m
  .exact .inr (p.kp.none m)
 sm:=q.sm
theorem gH.ret(p:gH K Z Θ aj σ H Θ1 e1 C1 σ1 H1)(q:Zj K Z Θ1 e1 σ1 H1 Θ2 C2 r v H2):Zj K Z Θ aj σ H Θ2 C2 r v H2 where
 th:=p.th.trans p.kp.dom q.th
 kp:=adL p.th p.kp p.own q.kp
 ok:=by
  have h:=q.ok;cases r with
  |im d=>exact h
  |ow d=>
   obtain⟨a,e,m,S,r⟩:=h
   refine⟨a,e,?_,S,r⟩
   rcases m with m|m
   .exact p.own a m
   .exact .inr (p.kp.none m)
  |ce n=>exact h
  |sc ns=>exact h
  |tp=>
   obtain⟨t,a,vs,us,e,e',m,R⟩:=h
   exact⟨t,a,vs,us,e,e',m.elim (p.own a) λm=>.inr (p.kp.none m),R⟩
theorem QC.trans(p:gH K Z Θ aj σ H Θ1 e1 C1 σ1 H1)(h:QC K Z Θ aj σ H e2 C2 D fl):QC K Z Θ1 e1 σ1 H1 e2 C2 D fl:=by
 cases fl with
 |nx=>exact λΘ' σ' H' q=>h Θ' σ' H' (p.trans q)
 |bk=>exact λΘ' σ' H' q=>h Θ' σ' H' (p.trans q)
 |ct=>exact λΘ' σ' H' q=>h Θ' σ' H' (p.trans q)
 |rt r=>exact λΘ' v H' q=>h Θ' v H' (p.ret q)
theorem zT(k:bG Θ H H1):bG (Θ++O) H H1:=⟨λa o e n=>k.keep a o e λm=>n (jR _ m),k.dom⟩
theorem gH.vJ(k:bG Θ H H1)(f:Fz aj e1)(S:Sm K Z Θ e1 C1 σ H1):gH K Z Θ aj σ H Θ e1 C1 σ H1:=
 ⟨n6.refl _ _,zT k,λa m=>.inl (f.own.subset m),S⟩
end
noncomputable def gY:FS:=λaj C=>aa (.nx,aj,C)
noncomputable def bO(f g:FS):FS:=λaj C=>match f aj C with
 |some (.nx,e1,C1)=>g e1 C1
 |r=>r
def gC(c:FT)(f g:FS):FS:=λaj C=>match c aj C with
 |some (true,C1)=>f aj C1
 |some (false,C1)=>g aj C1
 |none=>ao
noncomputable def di(f:FE):FS:=λaj C=>match f aj C with
 |some (r,e1,C1)=>aa (.rt r,e1,C1)
 |none=>ao
def CQ(i:Nat):FS:=λaj C=>match aj[i]? with
 |some (some x)=>aa (.rt x,aj,C)
 |_=>ao
noncomputable def eN(i:Nat)(f:FE):FS:=λaj C=>match f aj C with
 |some (r,e1,C1)=>aa (.nx,e1.set i (aa r),C1)
 |none=>ao
section
variable{X:Cx}{st:eX}{rest:List eX}{pos:Pos}
theorem gH.same{K:bw}{C:Ce}{σ:St}{H:Hp}(S:Sm K Z Θ aj C σ H):gH K Z Θ aj σ H Θ aj C σ H:=gH.vJ (bG.refl _ _) (Fz.refl _) S
theorem jg:lg X [] (tS X.K gY):=aoG.weak λD σ H aY=>by
 obtain⟨Z,Θ,aj,C,fl,aW,C',S,hf,q⟩:=aY
 cases hf;exact q Θ σ H (gH.same S)
theorem lR(h:PS X st (tS X.K f)):lg X [st] (tS X.K f):=aoH h
theorem anS{K:bw}:∀D σ H,tS K (bO f g) D σ H->agw (tS K f) (tS K g) D σ H:=by
 rintro D σ H ⟨Z,Θ,aj,C,fl,aW,C',S,hf,q⟩;unfold bO at hf;split at hf
 .rename_i e1 C1 h1
  exact⟨Z,Θ,aj,C,.nx,e1,C1,S,h1,λΘ1 σ1 H1 p=>⟨Z,Θ1,e1,C1,fl,aW,C',p.sm,hf,q.trans p⟩⟩
 .rename_i hne
  refine⟨Z,Θ,aj,C,fl,aW,C',S,hf,?_⟩
  cases fl with
  |nx=>exact absurd hf (hne _ _)
  |bk=>exact q
  |ct=>exact q
  |rt r=>exact q
theorem bT(h:PS X st (tS X.K f))(hr:lg X rest (tS X.K g)):lg X (st::rest) (tS X.K (bO f g)):=(ang h hr).weak anS
theorem jh(hc:PT X c (iJ X.K t))(ha:lg X a (tS X.K f))(hb:lg X b (tS X.K g)):PS X (.If c a b pos) (tS X.K (gC t f g)):=(arM hc ha hb).weak λD σ H aY=>by
 obtain⟨Z,Θ,aj,C,fl,aW,C',S,hf,q⟩:=aY
 unfold gC at hf;split at hf
 .rename_i C1 h1
  exact⟨Z,Θ,aj,C,aq,C1,S,h1,λH1 k1 S1=>yL ⟨Z,Θ,aj,C1,fl,aW,C',S1,hf,q.trans (gH.vJ k1 (Fz.refl _) S1)⟩⟩
 .rename_i C1 h1
  exact⟨Z,Θ,aj,C,aA,C1,S,h1,λH1 k1 S1=>yK ⟨Z,Θ,aj,C1,fl,aW,C',S1,hf,q.trans (gH.vJ k1 (Fz.refl _) S1)⟩⟩
 .cases hf
theorem Sm.none{K:bw}{C:Ce}{σ:St}{H:Hp}(S:Sm K Z Θ aj C σ H):Sm K Z Θ [] C [] H:=by
 have gf:=S.gf
 exact⟨rfl,Dr gf.1 gf.2.1 lJ gf.2.2.2 (λ_ m=>nomatch m),S.dom,λi x e=>by simp at e,S.cell⟩
theorem IW:cO (er (bH Z Θ aj σ) H) (er (bH Z Θ [] []) H):=wK λb m=>by
 rcases eO.mp m with m|m
 .exact jR _ m
 .rcases eO.mp m with m|m
  .exact gw _ (jR _ m)
  .nomatch m
theorem Res.ret{K:bw}{aj:En}{C:Ce}{σ:St}{H H':Hp}{r:Vl}{v:V}(h:Res K Z Θ aj C σ H H' r v):Qh K Z Θ C O H H' r v:=by
 cases r with
 |im d=>exact⟨h.1.none,h.2.same IW⟩
 |ow d=>obtain⟨a,e,n,S,r⟩:=h;exact⟨a,e,.inr n,S.none,r.same IW λ_ h=>h⟩
 |ce n=>exact⟨h.1.none,h.2⟩
 |sc ns=>obtain⟨S,a,e,q⟩:=h;exact⟨S.none,a,e,IW.seq q⟩
 |tp=>exact h.elim
theorem aq1(h:PE X e (tE X.K f)):PS X (.Return (aa e) pos) (tS X.K (di f)):=(afg h).weak λD σ H aY=>by
 obtain⟨Z,Θ,aj,C,fl,aW,C',S,hf,q⟩:=aY
 unfold di at hf;split at hf
 .rename_i r e1 C1 h1;cases hf
  exact⟨Z,Θ,aj,C,r,aW,C',S,h1,λv H1 k f R=>q Θ v H1 ⟨n6.refl _ _,zT k,R.ret⟩⟩
 .cases hf
theorem Oq(h:PE X e (uD i)):PS X (.Return (aa e) pos) (tS X.K (CQ i)):=(afg h).weak λD σ H aY=>by
 obtain⟨Z,Θ,aj,C,fl,aW,C',S,hf,q⟩:=aY
 unfold CQ at hf;split at hf
 .rename_i x hx;cases hf
  obtain⟨v,e1,r⟩:=S.slot i x hx
  refine⟨v,e1,q Θ v H ⟨n6.refl _ _,bG.refl _ _,?_⟩⟩
  cases x with
  |im d=>exact⟨S.none,RZ.same IW r⟩
  |ow d=>
   obtain⟨a,rfl,r⟩:=r
   have m:a∈cF aj σ:=pD.mpr ⟨i,d,hx,e1⟩;have sm:cO (er (bH Z Θ aj σ) H) (er (bH (a::Z) Θ [] []) H):=wK λb mb=>by
    rcases eO.mp mb with mb|mb
    .rcases cg.mp mb with rfl|mb
     .exact gw _ (gw _ m)
     .exact jR _ mb
    .rcases eO.mp mb with mb|mb
     .exact gw _ (jR _ mb)
     .nomatch mb
   have gf:=S.gf
   refine⟨a,rfl,.inl m,⟨rfl,Dr (mK.mpr ⟨(S.qz m).1,gf.1⟩) gf.2.1 lJ (λb mb=>?_) (λ_ m=>nomatch m),λb mb=>?_,λi x e=>by simp at e,S.cell⟩,r.same sm λ_ h=>h⟩
   .rcases cg.mp mb with rfl|mb
    .exact(S.qz m).2
    .exact gf.2.2.2 b mb
   .rcases cg.mp mb with rfl|mb
    .exact r.nt
    .exact S.dom b mb
  |ce n=>exact⟨S.none,r⟩
  |sc ns=>obtain⟨a,e,q⟩:=r;exact⟨S.none,a,e,IW.seq q⟩
  |tp=>exact r.elim
 .cases hf
theorem VR{K:bw}{f:FE}(w:∀σ H Q,tE K f σ H Q->t σ H Q):∀D σ H,tS K (eN i f) D σ H->Gw t (yr i) D σ H:=by
 rintro D σ H ⟨Z,Θ,aj,C,fl,aW,C',S,hf,q⟩;unfold eN at hf;split at hf
 .rename_i r e1 C1 h1;cases hf;refine w _ _ _ ⟨Z,Θ,aj,C,r,e1,C',S,h1,λv H1 k f R=>q Θ _ H1 ⟨n6.refl _ _,zT k,λa m=>?_,R.set⟩⟩;rcases BX m with m|⟨⟨d,e⟩,e2⟩
  .exact .inl (f.own.subset m)
  .subst e
   obtain⟨b,e3,n,_⟩:=R
   rw[e2] at e3;cases e3;exact .inr n
 .cases hf
theorem aq2(hN:X.N.Nodup)(hi:X.N[i]?=aa x)(hx:Loc X.env.scope x)(he:PE X e (tE X.K f))(hs:wu e (aa (.Name x pos')) pos.line X.env=pure aA:=by rfl)(hf:X.fn x=aq\/X.env.scope.names.lookup x=aa .local:=by first|exact .inl rfl|exact .inr rfl|assumption):
  PS X (.Assign [.Name x pos'] e pos) (tS X.K (eN i f)):=(afh hN hi hx he hs hf).weak (VR λ_ _ _ h=>h)
end
abbrev FG:=aB->En->Option En
abbrev Kd:=List aB->En->Option En
def GX(K:bw)(g:TG)(fg:FG):Prop:=∀(Z Θ:List aH)(aj:En)(C:Ce)(σ:St)(H:Hp)(v:V)(d:aB)(aW:En),Sm K Z Θ aj C σ H->RZ (er (bH Z Θ aj σ) H) d v->fg d aj=aa aW->
 ∀Q:St->Hp->Prop,(∀σ',Sm K Z Θ aW C σ' H->(∀a∈cF aW σ',a∈cF aj σ)->Q σ' H)->g v σ H Q
def QD(K:bw)(g:Dk)(fg:Kd):Prop:=∀(Z Θ:List aH)(aj:En)(C:Ce)(σ:St)(H:Hp)(vs:List V)(ds:List aB)(aW:En),Sm K Z Θ aj C σ H->cM (er (bH Z Θ aj σ) H) ds vs->fg ds aj=aa aW->
 ∀Q:St->Hp->Prop,(∀σ',Sm K Z Θ aW C σ' H->(∀a∈cF aW σ',a∈cF aj σ)->Q σ' H)->g vs σ H Q
noncomputable def bY(i:Nat):FG:=λd aj=>aa (aj.set i (aa (.im d)))
noncomputable def oE:Kd:=λds aj=>match ds with
 |[]=>aa aj
 |_=>ao
def cZ(g:FG)(u:Kd):Kd:=λds aj=>match ds with
 |d::r=>match g d aj with
  |some e1=>u r e1
  |none=>ao
 |[]=>ao
def oG(n:Nat)(u:Kd):FG:=λd aj=>match d with
 |.tuple ds=>if ds.length=n then u ds aj else ao
 |_=>ao
theorem afG(h:∀a∈cF e1 σ1,a∈cF aj σ):cO (er (bH Z Θ aj σ) H) (er (bH Z Θ e1 σ1) H):=wK λb m=>by
 rcases eO.mp m with m|m
 .exact jR _ m
 .rcases eO.mp m with m|m
  .exact gw _ (jR _ m)
  .exact gw _ (gw _ (h b m))
section
variable{K:bw}
theorem eY:GX K (yr i) (bY i):=by
 intro Z Θ aj C σ H v d aW S r e Q q;cases e;refine q _ (S.Gz (λ_ z=>nomatch z) r) λa m=>?_
 rcases BX m with m|⟨⟨_,z⟩,_⟩
 .exact m
 .cases z
theorem wG:QD K Yo oE:=by
 intro Z Θ aj C σ H vs ds aW S r e Q q;unfold oE at e;split at e
 .cases e
  exact⟨r,q _ S λ_ m=>m⟩
 .cases e
theorem gW(h:GX K g fg)(hu:QD K u fu):QD K (X4 g u) (cZ fg fu):=by
 intro Z Θ aj C σ H vs ds aW S r e Q q;unfold cZ at e;split at e
 .rename_i d r'
  obtain⟨v,ws,rfl,r1,r2⟩:=r
  split at e
  .rename_i e1 h1
   refine⟨v,ws,rfl,h Z Θ aj C σ H v d e1 S r1 h1 _ λσ1 S1 o1=>?_⟩
   exact hu Z Θ e1 C σ1 H ws r' aW S1 (r2.same (afG o1)) e Q λσ2 S2 o2=>q σ2 S2 λa m=>o1 a (o2 a m)
  .cases e
 .cases e
theorem wM(hu:QD K u fu):GX K (Yp K n u) (oG n fu):=by
 intro Z Θ aj C σ H v d aW S r e Q q;unfold oG at e;split at e
 .rename_i ds;split at e
  .rename_i hl
   obtain⟨a,vs,rfl,ha,r⟩:=r
   exact⟨a,vs,rfl,dg.of (jt ha),(jU r).trans hl,hu Z Θ aj C σ H vs ds aW S r e Q q⟩
  .cases e
 .cases e
end
def xj(f:FE)(g:FG):FS:=λaj C=>match f aj C with
 |some (r,e1,C1)=>match still r with
  |.im d=>match g d e1 with
   |some e2=>aa (.nx,e2,C1)
   |none=>ao
  |_=>ao
 |none=>ao
theorem Res.vm{K:bw}{aj:En}{C:Ce}{σ:St}{H H':Hp}{r:Vl}{v:V}(h:Res K Z Θ aj C σ H H' r v)(e:L2.still r=.im d):Sm K Z Θ aj C σ H'/\RZ (er (bH Z Θ aj σ) H') d v:=by
 have g:=h.still;rw[e] at g;exact g
section
variable{pos:Pos}
theorem Cq{tg e:Expr}{g:TG}(he:PE X e (tE X.K f))(hg:PG X tg g)(L:GX X.K g fg)(hs:Bj [tg] e pos.line X.env=pure aA:=by rfl)(hw:Bl [tg] e X.env=pure ao:=by rfl)(h1:(wj [tg] X.env).map (·.2)=[assign tg X.env]:=by rfl):
  PS X (.Assign [tg] e pos) (tS X.K (xj f fg)):=(Xj he hg hs hw h1).weak λD σ H aY=>by
 obtain⟨Z,Θ,aj,C,fl,aW,C',S,hf,q⟩:=aY
 unfold xj at hf;split at hf
 .rename_i r e1 C1 h1;split at hf
  .rename_i d hd;split at hf
   .rename_i e2 h2;cases hf
    refine⟨Z,Θ,aj,C,r,e1,C',S,h1,λv H1 k f R=>?_⟩
    obtain⟨S1,r1⟩:=R.vm hd
    exact L Z Θ e1 C' σ H1 v d aW S1 r1 h2 D.nx λσ' S' o=>q Θ σ' H1 ⟨n6.refl _ _,zT k,λa m=>.inl (f.own.subset (o a m)),S'⟩
   .cases hf
  .cases hf
 .cases hf
end
inductive uB(K:bw)(E H:Hp)(Θ:List aH):List aH->List Vl->List V->Prop
 |nil:uB K E H Θ [] [] []
 |cons {as:List aH} {x:Vl} {v:V} {xs:List Vl} {vs:List V}:yx K E Θ x v->uB K E H Θ as xs vs->uB K E H Θ as (x::xs) (v::vs)
 |own {as:List aH} {a:aH} {d:aB} {xs:List Vl} {vs:List V}:nW E H a d->uB K E H Θ as xs vs->uB K E H Θ (as++[a]) (.ow d::xs) (.ref a::vs)
theorem uB.heap{K:bw}{E H H':Hp}{vs:List V}(s:cO H H')(h:uB K E H Θ as xs vs):uB K E H' Θ as xs vs:=by
 induction h with
 |nil=>exact .nil
 |cons a _ ih=>exact .cons a ih
 |own r _ ih=>exact .own (r.same (cO.refl _) λo ho=>s _ _ ho) ih
inductive An(K:bw)(f:FA)(σ:St)(H:Hp)(Q:List V->Hp->Prop):Prop
 |mk (Z Θ:List aH) (aj:En) (C:Ce) (xs:List Vl) (aW:En) (C':Ce) (S:Sm K Z Θ aj C σ H) (hf:f aj C=aa (xs,aW,C')) (q:∀vs as H',bG Θ H H'->Fz aj aW->(∀a∈as,H a=ao)->Sm K (as++Z) Θ aW C' σ H'->uB K (er (bH (as++Z) Θ aW σ) H') H' Θ as xs vs->Q vs H'):An K f σ H Q
def nM(f:FE)(g:FA):FA:=λaj C=>match f aj C with
 |some (r,e1,C1)=>match g e1 C1 with
  |some (xs,e2,C2)=>aa (r::xs,e2,C2)
  |none=>ao
 |none=>ao
section
variable{K:bw}{C:Ce}{σ:St}{H:Hp}
theorem lO:a∈bH Z Θ aj σ↔a∈Z\/a∈Θ\/a∈cF aj σ:=by rw[eO,eO]
theorem Sm.perm(S:Sm K Z Θ aj C σ H)(p:Z.Perm Z'):Sm K Z' Θ aj C σ H:=by
 have e:er (bH Z Θ aj σ) H=er (bH Z' Θ aj σ) H:=vf λa=>by rw[lO,lO,p.mem_iff]
 refine⟨S.len,(List.Perm.append_right _ p).nodup S.nd,λa m=>S.dom a (p.mem_iff.mpr m),λi x h=>?_,S.cell⟩
 rw[<-e];exact S.slot i x h
end
theorem Cr:PA X [] (An X.K aU):=ur.weak λσ H Q aY=>by
 obtain⟨Z,Θ,aj,C,xs,aW,C',S,hf,q⟩:=aY
 cases hf;exact q [] [] H (bG.refl _ _) (Fz.refl _) (λ_ m=>nomatch m) S .nil
theorem pG(h:PE X e (tE X.K f))(hr:PA X es (An X.K g))(hs:bM (e::es) X.env=(aA,eval e X.env)::bM es X.env:=by rfl):PA X (e::es) (An X.K (nM f g)):=(qx h hr hs).weak λσ H Q aY=>by
 obtain⟨Z,Θ,aj,C,xs,aW,C',S,hf,q⟩:=aY
 unfold nM at hf;split at hf
 .rename_i r e1 C1 h1;split at hf
  .rename_i ys e2 C2 h2;cases hf
   refine⟨Z,Θ,aj,C,r,e1,C1,S,h1,λv H1 k1 f1 R1=>?_⟩
   have plain:∀{x:Vl},Sm X.K Z Θ e1 C1 σ H1->yx X.K (er (bH Z Θ e1 σ) H1) Θ x v->r=x->An X.K g σ H1 λxs H2=>Q (v::xs) H2:=λ{x} S1 a1 ex=>by
    subst ex
    refine⟨Z,Θ,e1,C1,ys,aW,C',S1,h2,λvs as H2 k2 f2 n2 S2 a2=>q _ as H2 (k1.trans k2) (f1.trans f2) (λa m=>k1.none (n2 a m)) S2 (.cons (a1.same (oA k2 S1.uI λa m=>?_)) a2)⟩
    rcases eO.mp m with m|m
    .rcases eO.mp m with m|m
     .exact .inr (n2 a m)
     .exact .inl (jR _ m)
    .exact .inl (f2.sub (Z:=Z) a (gw _ m))
   cases r with
   |im d=>exact plain (x:=.im d) R1.1 R1.2 rfl
   |ce n=>exact plain (x:=.ce n) R1.1 R1.2 rfl
   |sc ns=>exact plain (x:=.sc ns) R1.1 R1.2 rfl
   |tp=>exact R1.elim
   |ow d=>
    obtain⟨a,rfl,hn,S1,r1⟩:=R1
    refine⟨a::Z,Θ,e1,C1,ys,aW,C',S1,h2,λvs as H2 k2 f2 n2 S2 a2=>?_⟩
    have ez:as++a::Z=(as++[a])++Z:=by rw[qX];rfl
    rw[ez] at S2 a2;have na:a∉Θ:=λm=>(S1.gf.2.2.2 a eV) m
    refine q _ (as++[a]) H2 (k1.trans k2) (f1.trans f2) (λb m=>?_) S2 (.own (r1.same (oA k2 S1.uI λb m=>?_) λo ho=>k2.keep _ _ ho na) a2)
    .rcases eO.mp m with m|m
     .exact k1.none (n2 b m)
     .rw[gU.mp m];exact hn
    .rcases eO.mp m with m|m
     .rcases eO.mp m with m|m
      .rcases eO.mp m with m|m
       .exact .inr (n2 b m)
       .rw[gU.mp m];exact .inl eV
      .exact .inl (jR _ (fQ _ m))
     .exact .inl (f2.sub (Z:=a::Z) b (gw _ m))
  .cases hf
 .cases hf
noncomputable def setM{α:Type}:List Nat->List α->List (Option α)->List (Option α)
 |i::is,x::xs,e=>setM is xs (e.set i (aa x))
 |_,_,e=>e
theorem WW{K:bw}{H:Hp}{E:Hp}:∀{as:List aH}{xs:List Vl}{vs:List V},uB K E H Θ as xs vs->∀{is:List Nat}{aj:En}{σ:St},is.length=xs.length->cO E (er (bH (as++Z) Θ aj σ) H)->Sm K (as++Z) Θ aj C σ H->
  Sm K Z Θ (setM is xs aj) C (setM is vs σ) H/\∀a∈cF (setM is xs aj) (setM is vs σ),a∈cF aj σ\/a∈as:=by
 intro as xs vs h;induction h with
 |nil=>
  intro is aj σ hl _ S;cases is with
  |nil=>exact⟨S,λa m=>.inl m⟩
  |cons _ _=>cases hl
 |@cons as x v xs vs a1 _ ih=>
  intro is aj σ hl sm S;cases is with
  |nil=>cases hl
  |cons i is=>
   have hx:∀d,x≠.ow d:=λd z=>by subst z;exact a1
   have sl:Gy K (er (bH (as++Z) Θ aj σ) H) H Θ x v:=by
    have a2:=a1.same sm;cases x with
    |im d=>exact a2
    |ow d=>exact absurd rfl (hx d)
    |ce n=>exact a2
    |sc ns=>exact a2
    |tp=>exact a2
   have S1:Sm K (as++Z) Θ (aj.set i (aa x)) C (σ.set i (aa v)) H:=S.Gz hx sl;have o1:∀b∈cF (aj.set i (aa x)) (σ.set i (aa v)),b∈cF aj σ:=λb m=>by
    rcases BX m with m|⟨⟨d,z⟩,_⟩
    .exact m
    .exact absurd z (hx d)
   obtain⟨S2,o2⟩:=ih (is:=is) (by simpa using hl) (sm.trans (afG o1)) S1
   refine⟨S2,λb m=>?_⟩
   rcases o2 b m with m|m
   .exact .inl (o1 b m)
   .exact .inr m
 |@own as a d xs vs r _ ih=>
  intro is aj σ hl sm S;cases is with
  |nil=>cases hl
  |cons i is=>
   have pm:((as++[a])++Z).Perm (a::(as++Z)):=by
    rw[qX];exact List.perm_middle
   have S0:=S.perm pm;have ee:er (bH ((as++[a])++Z) Θ aj σ) H=er (bH (a::(as++Z)) Θ aj σ) H:=vf λb=>by rw[lO,lO,pm.mem_iff]
   rw[ee] at sm;have S1:Sm K (as++Z) Θ (aj.set i (aa (.ow d))) C (σ.set i (aa (.ref a))) H:=S0.agR (r.same sm λ_ h=>h);have o1:∀b∈cF (aj.set i (aa (.ow d))) (σ.set i (aa (.ref a))),b∈cF aj σ\/b=a:=λb m=>by
    rcases BX m with m|⟨_,z⟩
    .exact .inl m
    .cases z;exact .inr rfl
   obtain⟨S2,o2⟩:=ih (is:=is) (by simpa using hl) (sm.trans (wK λb m=>by
    rcases eO.mp m with m|m
    .exact jR _ (fQ _ m)
    .rcases eO.mp m with m|m
     .exact gw _ (jR _ m)
     .rcases o1 b m with m|rfl
      .exact gw _ (gw _ m)
      .exact jR _ eV)) S1
   refine⟨S2,λb m=>?_⟩
   rcases o2 b m with m|m
   .rcases o1 b m with m|rfl
    .exact .inl m
    .exact .inr (gw _ (gU.mpr rfl))
   .exact .inr (jR _ m)
theorem Ot{K:bw}{E H:Hp}{vs:List V}(h:uB K E H Θ as xs vs):vs.length=xs.length:=by
 induction h with
 |nil=>rfl
 |cons _ _ ih=>rw[fY,fY,ih]
 |own _ _ ih=>rw[fY,fY,ih]
def rM(is:List Nat)(g:FA):FS:=λaj C=>match g aj C with
 |some (xs,e1,C1)=>if is.length=xs.length/\xs.length<=gG then aa (.nx,setM is xs e1,C1) else ao
 |none=>ao
def Zk(is:List Nat):Dk:=match is with
 |[]=>Yo
 |i::r=>X4 (yr i) (Zk r)
theorem aeL:∀{is:List Nat}{vs:List V}{σ:St}{H:Hp}{Q:St->Hp->Prop},is.length=vs.length->Q (setM is vs σ) H->Zk is vs σ H Q
 |[],[],σ,H,Q,_,q=>⟨rfl,q⟩
 |i::is,v::vs,σ,H,Q,h,q=>⟨v,vs,rfl,aeL (by simpa using h) q⟩
 |[],_::_,_,_,_,h,_=>by cases h
 |_::_,[],_,_,_,h,_=>by cases h
section
variable{pos:Pos}
theorem afH{kt k2 qO}(hc:X.calm=aq)(hN:X.N.Nodup)(hi:X.N[i]?=aa x)(hj:X.N[j]?=aa y)(hij:i≠j)
  (hx:X.env.scope.names.lookup x=aa .local)(hy:X.env.scope.names.lookup y=aa .local)(ha:PA X [a,b] (An X.K g))
  (hw:Bl [.Tuple [.Name x px,.Name y py] kt pt] (.Tuple [a,b] k2 qO) X.env=pure (aa [x,y]))
  (hs:Bj [.Tuple [.Name x px,.Name y py] kt pt] (.Tuple [a,b] k2 qO) pos.line X.env=pure aA:=by rfl):
  PS X (.Assign [.Tuple [.Name x px,.Name y py] kt pt] (.Tuple [a,b] k2 qO) pos) (tS X.K (rM [i,j] g)):=(aqs hc hN hi hj hij hx hy ha hw hs).weak λD σ H aY=>by
 obtain⟨Z,Θ,aj,C,fl,aW,C',S,hf,q⟩:=aY
 unfold rM at hf;split at hf
 .rename_i xs e1 C1 h1;split at hf
  .rename_i hl;cases hf
   refine⟨Z,Θ,aj,C,xs,e1,C',S,h1,λvs as H1 k1 f1 n1 S1 a1=>?_⟩
   have l2:=Ot a1
   obtain⟨S2,o2⟩:=WW a1 hl.1 (cO.refl _) S1
   have e2:∃v w,vs=[v,w]:=by
    have:vs.length=2:=by rw[l2,<-hl.1];rfl
    match vs,this with
    |[v,w],_=>exact⟨v,w,rfl⟩
   obtain⟨v,w,rfl⟩:=e2
   refine⟨v,w,rfl,q Θ _ H1 ⟨n6.refl _ _,zT k1,λb m=>?_,S2⟩⟩
   rcases o2 b m with m|m
   .exact .inl (f1.own.subset m)
   .exact .inr (n1 b m)
  .cases hf
 .cases hf
theorem Ou{es:List Expr}{g:FA}{n:Nat}{x1 pt}(ha:PA X es (An X.K g))(hg:PG X tg (Yp X.K n (Zk is)))(hn:n=is.length:=by rfl)
  (hs:Bj [tg] (.Tuple es x1 pt) pos.line X.env=pure aA:=by rfl)(hw:Bl [tg] (.Tuple es x1 pt) X.env=pure ao:=by rfl)(h1:(wj [tg] X.env).map (·.2)=[assign tg X.env]:=by rfl):
  PS X (.Assign [tg] (.Tuple es x1 pt) pos) (tS X.K (rM is g)):=(Xj (Xn ha) hg hs hw h1).weak λD σ H aY=>by
 obtain⟨Z,Θ,aj,C,fl,aW,C',S,hf,q⟩:=aY
 unfold rM at hf;split at hf
 .rename_i xs e1 C1 h1;split at hf
  .rename_i hl;cases hf
   refine⟨Z,Θ,aj,C,xs,e1,C',S,h1,λvs as H1 k1 f1 n1 S1 a1=>⟨by rw[Ot a1];exact rB hl.2,λp hp=>?_⟩⟩
   have l2:=Ot a1
   refine⟨p,vs,rfl,dg.of gV,by rw[l2,hn,hl.1],aeL (by rw[hl.1,l2]) ?_⟩
   have kp:bG Θ H1 (upd H1 p (.tup vs)):=bG.upd hp;have S1':=S1.CK (cO.upd (o:=.tup vs) hp);have a1':uB X.K (er (bH (as++Z) Θ e1 σ) H1) (upd H1 p (.tup vs)) Θ as xs vs:=a1.heap λb o ho=>by rw[fD (ue ho hp)];exact ho
   obtain⟨S2,o2⟩:=WW a1' hl.1 (oA kp S1.uI λb m=>.inl m) S1'
   refine q Θ _ _ ⟨n6.refl _ _,zT (k1.trans kp),λb m=>?_,S2⟩;rcases o2 b m with m|m
   .exact .inl (f1.own.subset m)
   .exact .inr (n1 b m)
  .cases hf
 .cases hf
end
theorem VV:∀{aj:En}{σ:St}{i:Nat}{d d':aB},aj[i]?=aa (aa (.ow d))->cF (aj.set i (aa (.ow d'))) σ=cF aj σ
 |[],σ,i,d,d',h=>by simp at h
 |x::e,[],i,d,d',h=>by cases i<;>rfl
 |x::e,v::s,0,d,d',h=>by
  simp at h;subst h;show own1 (aa (.ow d')) v++cF e s=own1 (aa (.ow d)) v++cF e s;rcases v with _|v
  .rfl
  .cases v<;>rfl
 |x::e,v::s,i+1,d,d',h=>by
  show own1 x v++cF (e.set i (aa (.ow d'))) s=own1 x v++cF e s;rw[VV (by simpa using h)]
section
variable{K:bw}{aj:En}{C:Ce}{σ:St}{H:Hp}{a:aH}{i:Nat}{o:HO}
theorem Pj(h:a∈P):er P (upd H a o)=er P H:=by
 funext b;unfold er;by_cases hb:b=a
 .subst hb;rw[bC h,bC h]
 .rw[fD hb]
theorem Sm.write(S:Sm K Z Θ aj C σ H)(e1:aj[i]?=aa (aa (.ow d)))(e2:σ[i]?=aa (aa (.ref a)))(r:nW (er (bH Z Θ aj σ) H) (upd H a o) a d'):gH K Z Θ aj σ H Θ (aj.set i (aa (.ow d'))) C σ (upd H a o):=by
 have m:a∈cF aj σ:=pD.mpr ⟨i,d,e1,e2⟩;have no:=S.qz m;have eo:cF (aj.set i (aa (.ow d'))) σ=cF aj σ:=VV e1;have mp:a∈bH Z Θ aj σ:=gw _ (gw _ m);have ep:bH Z Θ (aj.set i (aa (.ow d'))) σ=bH Z Θ aj σ:=by show _++(_++_)=_;rw[eo]
 refine⟨n6.refl _ _,⟨λb u hb n=>?_,λb hb=>?_⟩,λb mb=>.inl (by rw[eo] at mb;exact mb),⟨by rw[DP];exact S.len,by rw[ep];exact S.nd,λb mb=>?_,λj y ej=>?_,⟨S.cell.len,λn b ns h1 h2=>?_⟩⟩⟩
 .rw[fD (λz=>n (gw _ (by rw[z];exact m)))];exact hb
 .by_cases z:b=a
  .subst z;rw[gV];exact zu _
  .rw[fD z];exact hb
 .rw[fD (λz=>no.1 (by rw[<-z];exact mb))];exact S.dom b mb
 .rw[ep,Pj mp];rcases get_set ej with⟨rfl,ex,hl⟩|⟨n,ej⟩
  .cases ex
   exact⟨_,e2,a,rfl,r⟩
  .obtain⟨v,e3,r3⟩:=S.slot j y ej
   refine⟨v,e3,r3.same (cO.refl _) λd2 b ex ev u hu=>?_⟩
   subst ex ev;rw[fD]
   .exact hu
   .intro z;subst z;exact n (Jf S.gf.2.2.1 ej e3 e1 e2)
 .rw[fD (λz=>no.2 (by rw[<-z];exact lX h1))];exact S.cell.at_ n b ns h1 h2
end
noncomputable def CT:Option (Option Vl)->Bool
 |some (some (.ow (.list _)))=>aq
 |_=>aA
def xm(i:Nat)(f:FE):FS:=λaj C=>if CT aj[i]? then match f aj C with
  |some (r,e1,C1)=>match still r,e1[i]? with
   |.im d,some (some (.ow (.list ds)))=>if ds.length<gG then aa (.nx,e1.set i (aa (.ow (.list (ds++[d])))),C1) else ao
   |_,_=>ao
  |none=>ao
 else ao
theorem anT(h:CT x=aq):∃ds,x=aa (aa (.ow (.list ds))):=by
 unfold CT at h;split at h
 .exact⟨_,rfl⟩
 .cases h
section
variable{X:Cx}{pos:Pos}
theorem Pk(ho:PE X o (uD i))(he:PE X e (tE X.K f))
  (hs0:wu (.Call (.Attribute o "append" apos) [e] [] cpos) ao pos.line X.env=pure aA:=by rfl)
  (hbase:Hw o "append" X.env (eval o X.env)=eval o X.env:=by rfl)
  (hfew:((iC cpos (bM [e] X.env)).all (λx=>!x.1)&&(Iz cpos (HR [] X.env)).all (λx=>x.1.isSome)
   &&decide (([e]:List Expr).length+([]:List uZ).length+(if([]:List uZ).isEmpty then 0 else 1)<30))=aq:=by rfl)
  (hline:(apos.endLine==cpos.line)=aq:=by rfl)(hs:bM [e] X.env=(aA,eval e X.env)::bM [] X.env:=by rfl)(hplain:(iC cpos (bM [] X.env)).any (·.1)=aA:=by rfl):
  PS X (.Expr (.Call (.Attribute o "append" apos) [e] [] cpos) pos) (tS X.K (xm i f)):=
 (ael (Qd ZX aaf ahU (yS.r Va) ho (qx he ur hs) hbase hfew hline hs hplain) hs0).weak λD σ H aY=>by
  obtain⟨Z,Θ,aj,C,fl,aW,C',S,hf,q⟩:=aY
  unfold xm at hf;split at hf
  .rename_i h0
   obtain⟨ds0,h0⟩:=anT h0
   obtain⟨v0,Ao,a,rfl,Zm,ha0,r0⟩:=S.slot i _ h0
   split at hf
   .rename_i r e1 C1 h1;split at hf
    .rename_i d ds hd hi;split at hf
     .rename_i hl;cases hf
      refine⟨_,Ao,.inl ⟨rfl,Zm,cj.of ha0⟩,Z,Θ,aj,C,r,e1,C',S,h1,λv H1 k f R=>?_⟩
      obtain⟨S1,r1⟩:=R.vm hd
      obtain⟨v1,ev1,a1,ea1,vs,ha1,r2⟩:=S1.slot i _ hi
      subst ea1;rw[Ao] at ev1;cases ev1
      refine⟨a,vs,v,rfl,rfl,ha1,by rw[jU r2,lN];unfold gG at hl;lia,?_⟩
      have w:gH X.K Z Θ e1 σ H1 Θ (e1.set i (aa (.ow (.list (ds++[d]))))) C' σ (upd H1 a (.lst (vs++[v]))):=S1.write hi Ao ⟨_,gV,BW r2 ⟨v,[],rfl,r1,rfl⟩⟩;exact q Θ σ _ ((gH.vJ k f S1).trans w)
     .cases hf
    .cases hf
   .cases hf
  .cases hf
def oV{κ:Type}[DecidableEq κ](f:aB->Option κ)(k:κ)(dk d:aB)(aC:List (aB×aB)):List (aB×aB):=
 if(aC.any λp=>decide (f p.1=aa k))=aq then aC.map (λp=>if f p.1=aa k then(p.1,d) else p) else aC++[(dk,d)]
def putD(aC:List (aB×aB))(dk d:aB):Option (List (aB×aB)):=match f9 dk with
 |some k=>if(dO f9 aC).isSome then aa (oV f9 k dk d aC) else ao
 |none=>match lE dk with
  |some ks=>if(dO lE aC).isSome then aa (oV lE ks dk d aC) else ao
  |none=>ao
theorem aeM[DecidableEq κ]:∀{aC:List (aB×aB)}{ks:List κ}{vs:List V},dO f aC=aa ks->kh E aC vs->(aC.any λp=>decide (f p.1=aa k))=((ks.zip vs).any λkv=>decide (kv.1=k))
 |[],ks,vs,h,r=>by
  cases h
  cases(show vs=[] from r)
  rfl
 |(p,d)::aC,ks,vs,h,r=>by
  unfold dO at h;split at h
  .rename_i k' t h1 h2;cases h
   obtain⟨v,w,rfl,q,s⟩:=r
   show(decide (f p=aa k)||_)=(decide (k'=k)||_)
   rw[aeM h2 s,h1];congr 1;rw[uP,decide_eq_true_iff,decide_eq_true_iff]
   exact⟨λe=>jj e,λe=>by rw[e]⟩
  .cases h
theorem aeN[DecidableEq κ](hv:RZ E d v):∀{aC:List (aB×aB)}{ks:List κ}{vs:List V},dO f aC=aa ks->kh E aC vs->
  ∃vs',dO f (aC.map λp=>if f p.1=aa k then(p.1,d) else p)=aa ks/\kh E (aC.map λp=>if f p.1=aa k then(p.1,d) else p) vs'/\ks.zip vs'=(ks.zip vs).map λkv=>if kv.1=k then(kv.1,v) else kv
 |[],ks,vs,h,r=>by
  cases h
  exact⟨[],rfl,rfl,rfl⟩
 |(p,e)::aC,ks,vs,h,r=>by
  unfold dO at h;split at h
  .rename_i k' t h1 h2;cases h
   obtain⟨u,w,rfl,q,s⟩:=r
   obtain⟨vs',g1,g2,g3⟩:=aeN (k:=k) hv h2 s
   have h1':f p=aa k':=h1;by_cases ek:k'=k
   .subst ek
    refine⟨v::vs',?_,?_,?_⟩
    .rw[dU];show dO f ((if f p=aa k' then(p,d) else(p,e))::_)=_;rw[bC h1'];unfold dO;rw[g1];simp only[h1']
    .rw[dU];show kh E ((if f p=aa k' then(p,d) else(p,e))::_) _;rw[bC h1']
     exact⟨v,vs',rfl,hv,g2⟩
    .show(k',v)::t.zip vs'=(if k'=k' then(k',v) else(k',u))::_
     rw[bC rfl,g3];rfl
   .have ne:¬f p=aa k:=λz=>ek (jj (h1'.symm.trans z))
    refine⟨u::vs',?_,?_,?_⟩
    .rw[dU];show dO f ((if f p=aa k then(p,d) else(p,e))::_)=_;rw[bB ne];unfold dO;rw[g1];simp only[h1']
    .rw[dU];show kh E ((if f p=aa k then(p,d) else(p,e))::_) _;rw[bB ne]
     exact⟨u,vs',rfl,q,g2⟩
    .show(k',u)::t.zip vs'=(if k'=k then(k',v) else(k',u))::_
     rw[bB ek,g3];rfl
  .cases h
theorem adM{f:aB->Option κ}{k:κ}{E:Hp}{v:V}(hk:f dk=aa k)(hv:RZ E d v):∀{aC:List (aB×aB)}{ks:List κ}{vs:List V},dO f aC=aa ks->kh E aC vs->
  dO f (aC++[(dk,d)])=aa (ks++[k])/\kh E (aC++[(dk,d)]) (vs++[v])/\(ks++[k]).zip (vs++[v])=ks.zip vs++[(k,v)]
 |[],ks,vs,h,r=>by
  cases h
  cases(show vs=[] from r)
  refine⟨?_,⟨v,[],rfl,hv,rfl⟩,rfl⟩
  show dO f [(dk,d)]=_;unfold dO dO;simp only[hk];rfl
 |(p,e)::aC,ks,vs,h,r=>by
  unfold dO at h;split at h
  .rename_i k' t h1 h2;cases h
   obtain⟨u,w,rfl,q,s⟩:=r
   obtain⟨g1,g2,g3⟩:=adM hk hv h2 s
   refine⟨?_,⟨u,_,rfl,q,g2⟩,?_⟩
   .show dO f ((p,e)::(aC++[(dk,d)]))=_;unfold dO;rw[g1];simp only[show f p=aa k' from h1];rfl
   .show(k',u)::(t++[k]).zip (w++[v])=_
    rw[g3];rfl
  .cases h
theorem Ov{κ:Type}[DecidableEq κ]{f:aB->Option κ}{k:κ}{E:Hp}{dk d:aB}{v:V}(hk:f dk=aa k)(hv:RZ E d v){aC:List (aB×aB)}{ks:List κ}{vs:List V}(h:dO f aC=aa ks)(r:kh E aC vs):
  ∃ks' vs',dO f (oV f k dk d aC)=aa ks'/\kh E (oV f k dk d aC) vs'/\ks'.zip vs'=putK (ks.zip vs) k v:=by
 unfold oV putK;rw[aeM h r];split
 .obtain⟨vs',g1,g2,g3⟩:=aeN (k:=k) hv h r
  exact⟨ks,vs',g1,g2,g3⟩
 .obtain⟨g1,g2,g3⟩:=adM hk hv h r
  exact⟨_,_,g1,g2,g3⟩
theorem set_dict(hu:X.A.units+1<iG):yJ X (λo i v H Q=>∃a H',o=.ref a/\vz H a i v H'/\∀e,Q (H' e)):=by
 intro au s σ H o i v ov iv u Q I ro ri rv h
 obtain⟨a,H',rfl,g,q⟩:=h
 cases ro;exact acG hu I g ri rv λe s' I'=>⟨H' e,I',q e⟩
theorem amA(hu:X.A.units+1<iG):yJ X (λo i v H Q=>∃(a b:aH)(ks:List Key),o=.ref a/\(∃ep,H a=aa (.dK [] ep))/\i=.ref b/\H b=aa (.tup (ks.map kV))/\∀e,Q (upd H a (.dT [(ks,v)] e))):=by
 intro au s σ H o i v ov iv u Q I ro ri rv h
 obtain⟨a,b,ks,rfl,⟨ep,ha⟩,rfl,hb,q⟩:=h
 cases ro;have hb':(upd H a (.dT [] ep)) b=aa (.tup (ks.map kV)):=by rw[fD (X3 hb ha (λz=>nomatch z))];exact hb
 refine acG hu (I.Ka ha) (vz.t (aC:=[]) (k:=ks) (v:=v) gV hb' (by rw[lN];decide)) ri rv λe s' I'=>⟨_,I',?_⟩
 show Q (upd (upd H a (.dT [] ep)) a _);rw[aeh];exact q e
theorem yJ.or(h:yJ X t)(h':yJ X t'):yJ X (λo i v H Q=>t o i v H Q\/t' o i v H Q):=by
 intro au s σ H o i v ov iv u Q I ro ri rv q;rcases q with q|q
 .exact h au s σ H o i v ov iv u Q I ro ri rv q
 .exact h' au s σ H o i v ov iv u Q I ro ri rv q
theorem api(hu:X.A.units+1<iG):yJ X (λo i v H Q=>(X8 o i v H Q\/∃a H',o=.ref a/\vz H a i v H'/\∀e,Q (H' e))\/∃(a b:aH)(ks:List Key),o=.ref a/\(∃ep,H a=aa (.dK [] ep))/\i=.ref b/\H b=aa (.tup (ks.map kV))/\∀e,Q (upd H a (.dT [(ks,v)] e))):=
 (set_list.or (set_dict hu)).or (amA hu)
noncomputable def yz:Option (Option Vl)->Bool
 |some (some _)=>aq
 |_=>aA
theorem apj(h:yz x=aq):∃y,x=aa (aa y):=by
 unfold yz at h;split at h
 .exact⟨_,rfl⟩
 .cases h
def GC(i:Nat)(d dk:aB)(e:En)(C:Ce):Option Vl->Option (Fl×En×Ce)
 |some (.ow (.list ds))=>(intD dk).bind λz=>(qP ds.length z).bind λj=>aa (.nx,e.set i (aa (.ow (.list (ds.set j d)))),C)
 |some (.ow (.dict aC))=>(putD aC dk d).bind λkvs'=>bif decide (aC.length<gG) then aa (.nx,e.set i (aa (.ow (.dict kvs'))),C) else ao
 |some (.ce n)=>(intD dk).bind λz=>(intD d).bind λy=>(C[n]?).bind λns=>(qP ns.length z).bind λj=>aa (.nx,e,C.set n (ns.set j y))
 |_=>ao
def vB(i:Nat)(fk:FB)(fe:FE):FS:=λaj C=>(fe aj C).bind λp=>(vI (still p.1)).bind λd=>(fk p.2.1 p.2.2).bind λk=>bif yz p.2.1[i]? then(k.2.1[i]?).bind (GC i d k.1 k.2.1 k.2.2) else ao
def Jx(o i v:V)(H:Hp)(Q:Hp->Prop):Prop:=(X8 o i v H Q\/∃a H',o=.ref a/\vz H a i v H'/\∀e,Q (H' e))\/∃(a b:aH)(ks:List Key),o=.ref a/\(∃ep,H a=aa (.dK [] ep))/\i=.ref b/\H b=aa (.tup (ks.map kV))/\∀e,Q (upd H a (.dT [(ks,v)] e))
section
variable{K:bw}{e2:En}{C2:Ce}{σ:St}{H2:Hp}{i:Nat}{d dk:aB}{v w:V}{a:aH}{R:Hp->Prop}
theorem anU(S2:Sm K Z Θ e2 C2 σ H2)(eu:σ[i]?=aa (aa (.ref a)))(hi:e2[i]?=aa (aa (.ow (.list ds))))(rt:nW (er (bH Z Θ e2 σ) H2) H2 a (.list ds))(r2:RZ (er (bH Z Θ e2 σ) H2) d v)(b2:jd Z Θ e2 σ H2 dk w)(hf:GC i d dk e2 C2 (aa (.ow (.list ds)))=aa p):
  p.1=.nx/\((∀Hx,gH K Z Θ e2 σ H2 Θ p.2.1 p.2.2 σ Hx->R Hx)->Jx (.ref a) w v H2 R):=by
 obtain⟨z,hz,hf⟩:=lD hf
 obtain⟨j,hj,hf⟩:=lD hf
 cases hf;have hz:=Oo hz;subst hz
 obtain⟨vs,ha,r3⟩:=rt
 have b2:w=.int z:=b2;subst b2
 exact⟨rfl,λq=>.inl (.inl ⟨a,vs,z,j,rfl,rfl,ha,by rw[jU r3];exact hj,q _ (S2.write hi eu ⟨_,gV,aeF r2 j r3⟩)⟩)⟩
theorem aeO(aC:List (aB×aB)):oV lE Zn dk d aC≠[]:=λz=>by
 unfold oV at z;split at z
 .rename_i hz;cases aC with
  |nil=>cases hz
  |cons _ _=>cases z
 .cases aC<;>cases z
theorem anV{aC:List (aB×aB)}(S2:Sm K Z Θ e2 C2 σ H2)(eu:σ[i]?=aa (aa (.ref a)))(hi:e2[i]?=aa (aa (.ow (.dict aC))))(rt:nW (er (bH Z Θ e2 σ) H2) H2 a (.dict aC))(r2:RZ (er (bH Z Θ e2 σ) H2) d v)(b2:jd Z Θ e2 σ H2 dk w)(hf:GC i d dk e2 C2 (aa (.ow (.dict aC)))=aa p):
  p.1=.nx/\((∀Hx,gH K Z Θ e2 σ H2 Θ p.2.1 p.2.2 σ Hx->R Hx)->Jx (.ref a) w v H2 R):=by
 refine hide λGG gg=>?_
 obtain⟨kvs',hp,hf⟩:=lD hf
 cases hl:decide (aC.length<gG) with
 |false=>rw[hl] at hf;cases hf
 |true=>
 rw[hl] at hf;cases hf;have hl:=of_decide_eq_true hl;have hl':∀{κ:Type}(ks:List κ)(vs:List V),ks.length=aC.length->(ks.zip vs).length<cH:=λks vs e=>by
  rw[Lj,lN,e];unfold gG at hl;lia
 obtain⟨vs,da,r3⟩:=rt
 unfold putD at hp;split at hp
 .rename_i k hk;split at hp
  case isFalse=>cases hp
  rename_i hs';cases hp;have wk:w=kV k:=by
   cases dk<;>first|(cases hk;exact b2)|cases hk
  rcases da with⟨ks,g1,ep,ha⟩|⟨ks,⟨ne,g2⟩,ha⟩
  .obtain⟨ks',vs',g3,g4,g5⟩:=Ov hk r2 g1 r3
   subst wk;exact gg ⟨rfl,λq=>.inl (.inr ⟨a,_,rfl,vz.k (k:=k) (v:=v) ha (hl' ks vs (xY g1)),λe=>q _ (S2.write hi eu ⟨vs',.inl ⟨ks',g3,e,by rw[g5];exact gV⟩,g4⟩)⟩)⟩
  .obtain⟨atn,g1⟩:=zm.mp hs'
   exact absurd (zK g1 g2) ne
 .split at hp
  case h_2=>cases hp
  rename_i Zn hks;split at hp
  case isFalse=>cases hp
  rename_i hs';cases hp
  obtain⟨b,hb,rfl⟩:∃b,H2 b=aa (.tup (Zn.map kV))/\w=.ref b:=by
   cases dk<;>first|cases hks|skip
   obtain⟨b,ws,rfl,hb,rr⟩:=b2.tup
   rw[Bw hks rr] at hb
   exact⟨b,hb,rfl⟩
  rcases da with⟨ks,g1,ha⟩|⟨ks,⟨ne,g1⟩,ep,ha⟩
  .obtain⟨atn,g2⟩:=zm.mp hs'
   have e0:=zK g1 g2;subst e0;cases g1;have e0:vs=[]:=r3;subst e0
   obtain⟨ks',vs',g3,g4,g5⟩:=Ov (aC:=[]) (vs:=[]) (ks:=[]) hks r2 rfl rfl
   exact gg ⟨rfl,λq=>.inr ⟨a,b,Zn,rfl,ha,rfl,hb,λe=>q _ (S2.write hi eu ⟨vs',.inr ⟨ks',⟨aeO [],g3⟩,e,by rw[g5];exact gV⟩,g4⟩)⟩⟩
  .obtain⟨ks',vs',g3,g4,g5⟩:=Ov hks r2 g1 r3
   exact gg ⟨rfl,λq=>.inl (.inr ⟨a,_,rfl,vz.t ha hb (hl' ks vs (xY g1)),λe=>q _ (S2.write hi eu ⟨vs',.inr ⟨ks',⟨aeO aC,g3⟩,e,by rw[g5];exact gV⟩,g4⟩)⟩)⟩
theorem anW(S2:Sm K Z Θ e2 C2 σ H2)(hth:Θ[n]?=aa a)(r2:RZ (er (bH Z Θ e2 σ) H2) d v)(b2:jd Z Θ e2 σ H2 dk w)(hf:GC i d dk e2 C2 (aa (.ce n))=aa p):
  p.1=.nx/\((∀Hx,gH K Z Θ e2 σ H2 Θ p.2.1 p.2.2 σ Hx->R Hx)->Jx (.ref a) w v H2 R):=by
 refine hide λGG gg=>?_
 obtain⟨z,hz,hf⟩:=lD hf
 obtain⟨y,hy,hf⟩:=lD hf
 obtain⟨ns,hns,hf⟩:=lD hf
 obtain⟨j,hj,hf⟩:=lD hf
 cases hf;have hz:=Oo hz;have hy:=Oo hy;subst hz hy;have b2:w=.int z:=b2;have ev:v=.int y:=r2;subst ev b2;have ha:=S2.cell.at_ n a ns hth hns;have am:a∈Θ:=lX hth;refine gg ⟨rfl,λq=>.inl (.inl ⟨a,_,z,j,rfl,rfl,ha,by rw[bD];exact hj,q _ ?_⟩)⟩;have kc:bG Θ H2 (upd H2 a (.lst ((ns.map V.int).set j (.int y)))):=⟨λb o hb nb=>by rw[fD (λzz=>nb (by rw[zz];exact am))];exact hb,λb hb=>by
  by_cases zz:b=a
  .subst zz;rw[gV];exact zu _
  .rw[fD zz];exact hb⟩
 refine gH.vJ kc (Fz.refl _) (S2.go kc ⟨by rw[DP];exact S2.cell.len,λm b ms h5 h6=>?_⟩);rcases get_set h6 with⟨rfl,e6,_⟩|⟨nm,h6⟩
 .rw[hth] at h5;cases h5;cases e6;rw[gV,List.map_set]
 .rw[fD]
  .exact S2.cell.at_ m b ms h5 h6
  .intro zz;subst zz
   obtain⟨l1,l1'⟩:=jZ.mp h5
   obtain⟨l2,l2'⟩:=jZ.mp hth
   rcases aiR m n with hlt|heq|hgt
   .exact Aw.mp S2.gf.2.1 m n l1 l2 hlt (l1'.trans l2'.symm)
   .exact nm heq
   .exact Aw.mp S2.gf.2.1 n m l2 l1 hgt (l2'.trans l1'.symm)
theorem apk(S2:Sm K Z Θ e2 C2 σ H2)(eu:σ[i]?=aa (aa u))(hi:e2[i]?=aa s)(r2:RZ (er (bH Z Θ e2 σ) H2) d v)(b2:jd Z Θ e2 σ H2 dk w)(hf:GC i d dk e2 C2 s=aa p):
  p.1=.nx/\((∀Hx,gH K Z Θ e2 σ H2 Θ p.2.1 p.2.2 σ Hx->R Hx)->Jx u w v H2 R):=by
 cases s with
 |none=>cases hf
 |some s=>
 obtain⟨u',eu',sl⟩:=S2.slot i _ hi
 rw[eu] at eu';cases eu';cases s with
 |im _=>cases hf
 |sc _=>cases hf
 |tp=>cases hf
 |ce n=>
  obtain⟨a,rfl,hth⟩:=sl
  exact anW S2 hth r2 b2 hf
 |ow x=>
  obtain⟨a,rfl,rt⟩:=sl
  cases x<;>first|exact anU S2 eu hi rt r2 b2 hf|exact anV S2 eu hi rt r2 b2 hf|cases hf
end
theorem Ju(hu:X.A.units+1<iG)(ho:PE X o (uD i))(hk:PE X k (fK X.K fk))(he:PE X e (tE X.K fe))
  (ha:∀v,assign (.Subscript o k p) X.env v=(do
   let ov <-rD [v] (eval o X.env)
   let iv <-rD [v,ov] (eval k X.env)
   wF p
   rD [v,ov,iv] (setItem ov iv v)
   release [v,ov,iv] []):=by intro _;rfl)
  (hs:Bj [.Subscript o k p] e pos.line X.env=pure aA:=by rfl)(hw:Bl [.Subscript o k p] e X.env=pure ao:=by rfl)(h1:(wj [.Subscript o k p] X.env).map (·.2)=[assign (.Subscript o k p) X.env]:=by rfl):
  PS X (.Assign [.Subscript o k p] e pos) (tS X.K (vB i fk fe)):=(Xj he (aqr (t:=Jx) ho hk (api hu) ha) hs hw h1).weak λD σ H aY=>by
 obtain⟨Z,Θ,aj,C,fl,aW,C',S,hf,q⟩:=aY
 obtain⟨p,h1,hf⟩:=lD hf
 obtain⟨d,hd,hf⟩:=lD hf
 obtain⟨kp,h2,hf⟩:=lD hf
 cases h3:yz p.2.1[i]? with
 |false=>rw[h3] at hf;cases hf
 |true=>
 rw[h3] at hf
 obtain⟨s,hi,hf⟩:=lD hf
 obtain⟨y3,h3⟩:=apj h3
 refine⟨Z,Θ,aj,C,p.1,p.2.1,p.2.2,S,h1,λv H1 k1 f1 R1=>?_⟩
 obtain⟨S1,r1⟩:=R1.vm (Jr hd)
 obtain⟨u,eu,_⟩:=S1.slot i _ h3
 refine⟨u,eu,Z,Θ,p.2.1,p.2.2,kp.1,kp.2.1,kp.2.2,S1,h2,λw H2 k2 f2 S2 b2=>?_⟩
 obtain⟨e0,go⟩:=apk (R:=λHx=>D.nx σ Hx) S2 eu hi (r1.same (Yc S1 k2 f2)) b2 hf
 have e0:fl=.nx:=e0;subst e0;exact go λHx st=>q Θ σ _ ((gH.vJ (k1.trans k2) (f1.trans f2) S2).trans st)
end
noncomputable def intsOf:List aB->Option (List Int)
 |[]=>aa []
 |.int i::r=>match intsOf r with
  |some t=>aa (i::t)
  |none=>ao
 |_=>ao
theorem I9:∀{ds:List aB}{ns:List Int}{vs:List V},intsOf ds=aa ns->cM E ds vs->vs=ns.map V.int
 |[],ns,vs,h,r=>by cases h;exact r
 |.int i::ds,ns,vs,h,r=>by
  unfold intsOf at h;split at h
  .rename_i t ht;cases h
   obtain⟨u,w,rfl,q,s⟩:=r
   rw[I9 ht s];have:u=.int i:=q;rw[this];rfl
  .cases h
 |.none::_,_,_,h,_=>by cases h
 |.bool _::_,_,_,h,_=>by cases h
 |.str _::_,_,_,h,_=>by cases h
 |.list _::_,_,_,h,_=>by cases h
 |.tuple _::_,_,_,h,_=>by cases h
 |.dict _::_,_,_,h,_=>by cases h
def JP(i:Nat)(f:FE):FS:=λaj C=>match f aj C with
 |some (.ow (.list ds),e1,C1)=>match intsOf ds with
  |some ns=>aa (.nx,e1.set i (aa (.ce C1.length)),C1++[ns])
  |none=>ao
 |_=>ao
section
variable{X:Cx}{pos:Pos}
theorem Sm.aq3{K:bw}{e1:En}{C1:Ce}{σ:St}{H1:Hp}{a:aH}(S1:Sm K (a::Z) Θ e1 C1 σ H1)(ha:H1 a=aa (.lst (ns.map V.int))):Sm K Z (Θ++[a]) e1 (C1++[ns]) σ H1:=by
 have gf:=S1.gf;have Kc:=mK.mp gf.1;have cl:=S1.cell.len;have c':sZ (Θ++[a]) (C1++[ns]) H1:=by
  refine⟨by rw[gJ,gJ,cl];rfl,λm b ms h5 h6=>?_⟩
  by_cases hm:m<Θ.length
  .rw[tV hm] at h5;rw[tV (by rw[cl];exact hm)] at h6;exact S1.cell.at_ m b ms h5 h6
  .rw[tU az] at h5;rw[tU az] at h6;rw[cl] at h6;cases hm0:m-Θ.length with
   |zero=>rw[hm0] at h5 h6;cases h5;cases h6;exact ha
   |succ j=>rw[hm0] at h5;simp at h5
 have mm:∀b,b∈bH Z (Θ++[a]) e1 σ↔b∈bH (a::Z) Θ e1 σ:=λb=>by
  rw[lO,lO,eO,gU,cg];constructor
  .rintro(h|(h|h)|h)
   .exact .inl (.inr h)
   .exact .inr (.inl h)
   .exact .inl (.inl h)
   .exact .inr (.inr h)
  .rintro((h|h)|h|h)
   .exact .inr (.inl (.inr h))
   .exact .inl h
   .exact .inr (.inl (.inl h))
   .exact .inr (.inr h)
 refine⟨S1.len,Dr Kc.2 ?_ gf.2.2.1 (λb m=>?_) λb m=>?_,λb m=>S1.dom b (fQ _ m),λj x e=>?_,c'⟩
 .rw[mZ]
  exact⟨gf.2.1,mK.mpr ⟨bF,lJ⟩,λb m c m' e=>by
   rw[gU] at m';subst e m';exact gf.2.2.2 b eV m⟩
 .intro m';rcases eO.mp m' with m'|m'
  .exact gf.2.2.2 b (fQ _ m) m'
  .rw[gU.mp m'] at m;exact Kc.1 m
 .obtain⟨p1,p2⟩:=S1.qz m
  refine⟨λz=>p1 (fQ _ z),λm'=>?_⟩
  rcases eO.mp m' with m'|m'
  .exact p2 m'
  .rw[gU.mp m'] at p1;exact p1 eV
 .obtain⟨v,e3,r3⟩:=S1.slot j x e
  rw[vf mm]
  refine⟨v,e3,?_⟩
  cases x with
  |im d=>exact r3
  |ow d=>exact r3
  |ce n=>
   obtain⟨b,e5,e6⟩:=r3
   exact⟨b,e5,by rw[tV (jZ.mp e6).1];exact e6⟩
  |sc ns=>exact r3
  |tp=>exact r3
theorem anY{K:bw}:∀D σ H,tS K (JP i f) D σ H->Gw (tE K f) (yr i) D σ H:=by
 rintro D σ H ⟨Z,Θ,aj,C,fl,aW,C',S,hf,q⟩;unfold JP at hf;split at hf
 .rename_i ds e1 C1 h1;split at hf
  .rename_i ns hns;cases hf
   refine⟨Z,Θ,aj,C,_,e1,C1,S,h1,λv H1 k f R=>?_⟩
   obtain⟨a,rfl,hn,S1,vs,ha,r⟩:=R
   have ev:=I9 hns r;subst ev;have cl:=S1.cell.len;have o1:∀b∈cF (e1.set i (aa (.ce C1.length))) (σ.set i (aa (.ref a))),b∈cF e1 σ:=λb m=>by
    rcases BX m with m|⟨⟨_,z⟩,_⟩
    .exact m
    .cases z
   have S2:=S1.aq3 ha;have S3:Sm K Z (Θ++[a]) (e1.set i (aa (.ce C1.length))) (C1++[ns]) (σ.set i (aa (.ref a))) H1:=
    S2.Gz (λ_ z=>nomatch z) ⟨a,rfl,by rw[cl,tU (bU _),aby];rfl⟩
   exact q (Θ++[a]) _ H1 ⟨⟨[a],rfl,λb m=>by rw[gU.mp m];exact hn⟩,zT k,λb m=>.inl (f.own.subset (o1 b m)),S3⟩
  .cases hf
 .cases hf
theorem aq4(hN:X.N.Nodup)(hi:X.N[i]?=aa x)(hx:Loc X.env.scope x)(he:PE X e (tE X.K f))(hs:wu e (aa (.Name x pos')) pos.line X.env=pure aA:=by rfl)(hf:X.fn x=aq\/X.env.scope.names.lookup x=aa .local:=by first|exact .inl rfl|exact .inr rfl|assumption):
  PS X (.Assign [.Name x pos'] e pos) (tS X.K (JP i f)):=(afh hN hi hx he hs hf).weak anY
end
def wN(c:FT)(body:FS):Nat->FS
 |0=>λ_ _=>ao
 |n+1=>λaj C=>match c aj C with
  |some (false,C1)=>aa (.nx,aj,C1)
  |some (true,C1)=>match body aj C1 with
   |some (.nx,e2,C2)=>wN c body n e2 C2
   |some (.ct,e2,C2)=>wN c body n e2 C2
   |some (.bk,e2,C2)=>aa (.nx,e2,C2)
   |some (.rt r,e2,C2)=>aa (.rt r,e2,C2)
   |none=>ao
  |none=>ao
def agk:Nat:=100000
def Zo(c:FT)(body:FS):FS:=wN c body agk
theorem alw{K:bw}{c:FT}:∀D σ H,tS K (wN c body n) D σ H->afi (iJ K c) (tS K body) D σ H:=by
 rintro D σ H ⟨Z,Θ,aj,C,fl,aW,C',S,hf,q⟩
 refine⟨λm σ1 H1=>∃Θ1 e1 C1,gH K Z Θ aj σ H Θ1 e1 C1 σ1 H1/\wN c body m e1 C1=aa (fl,aW,C'),⟨n,Θ,aj,C,gH.same S,hf⟩,?_⟩
 rintro m σ1 H1 ⟨Θ1,e1,C1,p,hf⟩;cases m with
 |zero=>cases hf
 |succ m=>
  unfold wN at hf;split at hf
  .rename_i C2 h1;cases hf
   exact⟨Z,Θ1,aW,C1,aA,C',p.sm,h1,λH2 k2 S2=>yK (q Θ1 σ1 H2 (p.trans (gH.vJ k2 (Fz.refl _) S2)))⟩
  .rename_i C2 h1
   refine⟨Z,Θ1,e1,C1,aq,C2,p.sm,h1,λH2 k2 S2=>yL ⟨λσ' H'=>∃Θ1 e1 C1,gH K Z Θ aj σ H Θ1 e1 C1 σ' H'/\wN c body m e1 C1=aa (fl,aW,C'),λσ' H' h=>⟨m,Lg m,h⟩,?_⟩⟩
   have p2:=p.trans (gH.vJ k2 (Fz.refl _) S2);split at hf
   .rename_i e3 C3 h2
    exact⟨Z,Θ1,e1,C2,.nx,e3,C3,S2,h2,λΘ3 σ3 H3 p3=>⟨Θ3,e3,C3,p2.trans p3,hf⟩⟩
   .rename_i e3 C3 h2
    exact⟨Z,Θ1,e1,C2,.ct,e3,C3,S2,h2,λΘ3 σ3 H3 p3=>⟨Θ3,e3,C3,p2.trans p3,hf⟩⟩
   .rename_i e3 C3 h2;cases hf
    exact⟨Z,Θ1,e1,C2,.bk,aW,C',S2,h2,λΘ3 σ3 H3 p3=>q Θ3 σ3 H3 (p2.trans p3)⟩
   .rename_i r e3 C3 h2;cases hf
    exact⟨Z,Θ1,e1,C2,.rt r,aW,C',S2,h2,λΘ3 v H3 p3=>q Θ3 v H3 (p2.ret p3)⟩
   .cases hf
  .cases hf
theorem anZ(hp:U7 (model X.prog X.w) X.A X.env X.xe)(hc:PT X c (iJ X.K t))(hb:lg X body (tS X.K f)):PS X (.While c body [] pos) (tS X.K (Zo t f)):=(anh hp hc hb).weak alw
abbrev FI:=En->Ce->Option (List aB×En×Ce)
def yM(P T:List aH)(H:Hp)(J:It)(aK:List aB):Prop:=∀(i:Nat)(H2:Hp)(P2:List aH),cO (er P H) (er P2 H2)->cO (er T H) (er T H2)->(∀a∈P2,H2 a≠ao)->
 (∀d,aK[i]?=aa d->J.go i H2/\∀x H3,J.J1 i H2 x H3->cO H2 H3/\RZ (er P2 H3) d x)/\(i=aK.length->J.stop i H2)
inductive tI(K:bw)(b:Bool)(f:FI)(σ:St)(H:Hp)(R:It->Hp->Prop):Prop
 |mk (Z Θ:List aH) (aj:En) (C:Ce) (aK:List aB) (aW:En) (C':Ce) (S:Sm K Z Θ aj C σ H) (hf:f aj C=aa (aK,aW,C')) (q:∀J H',bG Θ H H'->Fz aj aW->Sm K Z Θ aW C' σ H'->yM (bH Z Θ aW σ) (if b then Θ else bH Z Θ aW σ) H' J aK->R J H'):tI K b f σ H R
theorem PI.weak(h:PI X tg e t)(w:∀σ H Q,t' σ H Q->t σ H Q):PI X tg e t':=λau s σ H Q I q=>h au s σ H Q I (w σ H Q q)
theorem PI.or(h:PI X tg e t)(h':PI X tg e t'):PI X tg e (λσ H R=>t σ H R\/t' σ H R):=λau s σ H R I q=>q.elim (h au s σ H R I) (h' au s σ H R I)
section
variable{K:bw}{H:Hp}{a:aH}{vs:List V}
theorem Ow(ha:er T H a=aa (.lst vs))(r:cM (er P H) ds vs):yM P T H (YW K a) ds:=λi H2 P2 s1 s2 n=>by
 have h2:cj K H2 a vs:=cj.of (jt (s2 _ _ ha))
 refine⟨λd hd=>?_,λhi=>⟨vs,h2,by rw[jU r,hi];exact bU _⟩⟩
 obtain⟨v,ev,rv⟩:=uv r hd
 refine⟨⟨vs,v,h2,ev⟩,λx H3 y=>?_⟩
 obtain⟨rfl,y⟩:=y
 have:=y vs h2;rw[ev] at this;cases this
 exact⟨cO.refl _,rv.same s1⟩
theorem Pn(ha:er P H a=aa (.tup vs))(r:cM (er P H) ds vs):yM P T H (YX K a) ds:=λi H2 P2 s1 s2 n=>by
 have h2:dg K H2 a vs:=dg.of (jt (s1 _ _ ha))
 refine⟨λd hd=>?_,λhi=>⟨vs,h2,by rw[jU r,hi];exact bU _⟩⟩
 obtain⟨v,ev,rv⟩:=uv r hd
 refine⟨⟨vs,v,h2,ev⟩,λx H3 y=>?_⟩
 obtain⟨rfl,y⟩:=y
 have:=y vs h2;rw[ev] at this;cases this
 exact⟨cO.refl _,rv.same s1⟩
def chars(z:Str):List aB:=z.cps.toList.map λc=>.str ⟨#[c]⟩
theorem afI(z:Str):yM P T H (Za z) (chars z):=λi H2 P2 s1 s2 n=>by
 refine⟨λd hd=>?_,λhi=>?_⟩
 .unfold chars at hd;rw[jC] at hd;cases hc:z.cps.toList[i]? with
  |none=>rw[hc] at hd;cases hd
  |some c=>
   rw[hc] at hd;cases hd;have hc':z.cps[i]?=aa c:=by rw[<-G9];exact hc
   have hlt:i<z.cps.size:=by
    obtain⟨h,_⟩:=ahP.mp hc'
    exact h
   refine⟨hlt,λx H3 y=>?_⟩
   obtain⟨rfl,c',ec,rfl⟩:=y
   rw[hc'] at ec;cases ec
   exact⟨cO.refl _,rfl⟩
 .show z.cps.size<=i;rw[hi];unfold chars;rw[bD,lY];exact bU _
noncomputable def kZ(lo:Int)(n:Nat):List aB:=(dh n).map λ(k:Nat)=>.int (lo+(k:Int))
theorem an0(lo:Int)(n:Nat):yM P T H (QM lo n) (kZ lo n):=λi H2 P2 s1 s2 nn=>by
 refine⟨λd hd=>?_,λhi=>?_⟩
 .unfold kZ at hd;rw[jC] at hd;by_cases hlt:i<n
  .rw[aiq hlt] at hd;cases hd
   refine⟨hlt,λx H3 y=>?_⟩
   obtain⟨rfl,rfl⟩:=y
   exact⟨cO.refl _,rfl⟩
  .rw[KQ (by rw[oK];lia)] at hd;cases hd
 .show n<=i;rw[hi];unfold kZ;rw[bD,oK];exact bU _
end
def Zq:aB->Option (List aB)
 |.list ds=>aa ds
 |.tuple ds=>aa ds
 |.str z=>aa (chars z)
 |_=>ao
def iB(f:FB):FI:=λaj C=>match f aj C with
 |some (d,e1,C1)=>match Zq d with
  |some aK=>aa (aK,e1,C1)
  |none=>ao
 |none=>ao
def iV(f:FE):FI:=λaj C=>match f aj C with
 |some (r,e1,C1)=>match still r with
  |.im d=>match Zq d with
   |some aK=>aa (aK,e1,C1)
   |none=>ao
  |_=>ao
 |none=>ao
def oh(f:FB):FI:=λaj C=>match f aj C with
 |some (.int j,_,C1)=>if -(2^62)<=j/\j<2^62 then aa (kZ 0 j.toNat,aj,C1) else ao
 |_=>ao
section
variable{tg e:Expr}
theorem mR(h:PE X e (fK X.K f))(hgo:∀i u,Az tg i u=pure ():=by intro _ _;rfl):PI X tg e (tI X.K aq (iB f)):=(((Oe h).or (Pa h)).or (afo h hgo)).weak λσ H R aY=>by
 obtain⟨Z,Θ,aj,C,aK,aW,C',S,hf,q⟩:=aY
 unfold iB at hf;split at hf
 .rename_i d e1 C1 h1;split at hf
  .rename_i ys hi;cases hf;cases d<;>first|cases hi|skip
   .refine .inr ⟨Z,Θ,aj,C,_,aW,C',S,h1,λv H1 k f S1 b=>⟨_,b,q _ H1 k f S1 (afI _)⟩⟩
   .refine .inl (.inl ⟨Z,Θ,aj,C,_,aW,C',S,h1,λv H1 k f S1 b=>?_⟩)
    obtain⟨a,vs,rfl,ha,r⟩:=b
    exact⟨a,rfl,⟨vs,cj.of (jt ha)⟩,q _ H1 k f S1 (Ow ha r)⟩
   .refine .inl (.inr ⟨Z,Θ,aj,C,_,aW,C',S,h1,λv H1 k f S1 b=>?_⟩)
    obtain⟨a,vs,rfl,ha,r⟩:=b
    exact⟨a,rfl,⟨vs,dg.of (jt ha)⟩,q _ H1 k f S1 (Pn ha r)⟩
  .cases hf
 .cases hf
theorem JQ(h:PE X e (tE X.K f))(hgo:∀i u,Az tg i u=pure ():=by intro _ _;rfl):PI X tg e (tI X.K aA (iV f)):=(((Oe h).or (Pa h)).or (afo h hgo)).weak λσ H R aY=>by
 obtain⟨Z,Θ,aj,C,aK,aW,C',S,hf,q⟩:=aY
 unfold iV at hf;split at hf
 .rename_i r e1 C1 h1;split at hf
  .rename_i d hd;split at hf
   .rename_i ys hi;cases hf;cases d<;>first|cases hi|skip
    .refine .inr ⟨Z,Θ,aj,C,_,aW,C',S,h1,λv H1 k f R=>?_⟩
     obtain⟨S1,b⟩:=R.vm hd
     exact⟨_,b,q _ H1 k f S1 (afI _)⟩
    .refine .inl (.inl ⟨Z,Θ,aj,C,_,aW,C',S,h1,λv H1 k f R=>?_⟩)
     obtain⟨S1,a,vs,rfl,ha,r⟩:=R.vm hd
     exact⟨a,rfl,⟨vs,cj.of (jt ha)⟩,q _ H1 k f S1 (Ow ha r)⟩
    .refine .inl (.inr ⟨Z,Θ,aj,C,_,aW,C',S,h1,λv H1 k f R=>?_⟩)
     obtain⟨S1,a,vs,rfl,ha,r⟩:=R.vm hd
     exact⟨a,rfl,⟨vs,dg.of (jt ha)⟩,q _ H1 k f S1 (Pn ha r)⟩
   .cases hf
  .cases hf
 .cases hf
theorem uW(hg:Gl X "range")(hm:X.mg "range"=ao)(ha:PE X a (fK X.K f))(hs:bM [a] X.env=(aA,eval a X.env)::bM [] X.env:=by rfl)(hs':bM [a] X.env=[(aA,eval a X.env)]:=by rfl):PI X tg (.Call (.Name "range" p) [a] [] pos) (tI X.K b (oh f)):=
 (al5 hg hm (dZ ha fB hs) hs').weak λσ H R aY=>by
  obtain⟨Z,Θ,aj,C,aK,aW,C',S,hf,q⟩:=aY
  unfold oh at hf;split at hf
  .rename_i j e1 C1 h1;split at hf
   .rename_i hj;cases hf
    refine⟨Z,Θ,aj,C,[.int j],e1,C',S,by unfold dF eG;rw[h1],λvs H1 k f S1 b1=>?_⟩
    cases b1 with
    |cons b1 b2=>
     cases b2
     exact⟨j,by rw[show _=V.int j from b1],hj.1,hj.2,q _ H1 k (Fz.refl _) (S.go k S1.cell) (an0 0 j.toNat)⟩
   .cases hf
  .cases hf
end
def jW(g:FG)(body:FS):List aB->FS
 |[]=>λaj C=>aa (.nx,aj,C)
 |d::r=>λaj C=>match g d aj with
  |some e1=>match body e1 C with
   |some (.nx,e2,C2)=>jW g body r e2 C2
   |some (.ct,e2,C2)=>jW g body r e2 C2
   |some (.bk,e2,C2)=>aa (.nx,e2,C2)
   |some (.rt v,e2,C2)=>aa (.rt v,e2,C2)
   |none=>ao
  |none=>ao
def jX(fi:FI)(g:FG)(body:FS):FS:=λaj C=>match fi aj C with
 |some (aK,e1,C1)=>jW g body aK e1 C1
 |none=>ao
theorem gH.er{K:bw}{C1:Ce}{σ σ1:St}{H H1:Hp}(p:gH K Z Θ aj σ H Θ1 e1 C1 σ1 H1):cO (er (bH Z Θ aj σ) H) (er (bH Z Θ1 e1 σ1) H1):=λb o h=>by
 unfold L2.er at h⊢;split at h
 .cases h
 .rename_i n;have hb:H b≠ao:=by rw[h];exact zu _
  rw[bB]
  .refine p.kp.keep b o h λm=>n ?_
   rcases eO.mp m with m|m
   .exact lO.mpr (.inr (.inl m))
   .exact lO.mpr (.inr (.inr m))
  .intro m;rcases lO.mp m with m|m|m
   .exact n (lO.mpr (.inl m))
   .obtain⟨Δ,e,hn⟩:=p.th.ex
    rw[e] at m;rcases eO.mp m with m|m
    .exact n (lO.mpr (.inr (.inl m)))
    .exact hb (hn b m)
   .rcases p.own b m with m|m
    .exact n (lO.mpr (.inr (.inr m)))
    .exact hb m
theorem apl(s:cO (er P H) (er P2 H2)):cO (er P H) (er P H2):=λb o h=>by
 have h2:=jt (s b o h);unfold er at h⊢;split at h
 .cases h
 .rename_i n;rw[bB n];exact h2
theorem an1{K:bw}{g:TG}{fg:FG}(L:GX K g fg):∀D σ H,tS K (jX fi fg body) D σ H->agy (tI K aA fi) g (tS K body) D σ H:=by
 rintro D σ H ⟨Z,Θ,aj,C,fl,aW,C',S,hf,q⟩;unfold jX at hf;split at hf
 .rename_i aK e1 C1 h1
  refine⟨Z,Θ,aj,C,aK,e1,C1,S,h1,λJ H1 k1 f1 S1 it=>?_⟩
  have p1:=gH.vJ k1 f1 S1
  refine⟨λi m σ2 H2=>m=aK.length-i/\i<=aK.length/\∃Θ2 e2 C2,gH K Z Θ e1 σ H1 Θ2 e2 C2 σ2 H2/\jW fg body (aK.drop i) e2 C2=aa (fl,aW,C'),⟨aK.length,rfl,j5 _,Θ,e1,C1,gH.same S1,hf⟩,?_⟩
  rintro i m σ2 H2 ⟨rfl,hi,Θ2,e2,C2,p2,hl⟩
  obtain⟨Zr,Zt⟩:=it i H2 (bH Z Θ2 e2 σ2) p2.er (apl p2.er) p2.sm.CZ
  cases hd:aK[i]? with
  |none=>
   have hi2:i=aK.length:=by
    have:=ZM.mp hd;lia
   rw[hi2,ajd] at hl;cases hl;exact .inl ⟨Zt hi2,q Θ2 σ2 H2 (p1.trans p2)⟩
  |some d=>
   have hlt:i<aK.length:=(jZ.mp hd).1;have ed:aK.drop i=d::aK.drop (i+1):=by
    rw[ZP hlt]
    obtain⟨_,e⟩:=jZ.mp hd
    rw[e]
   rw[ed] at hl;unfold jW at hl
   obtain⟨go,yl⟩:=Zr d hd
   refine .inr ⟨go,λσ' H'=>∃Θ2 e2 C2,gH K Z Θ e1 σ H1 Θ2 e2 C2 σ' H'/\jW fg body (aK.drop (i+1)) e2 C2=aa (fl,aW,C'),λσ' H' h=>⟨aK.length-(i+1),az,rfl,hlt,h⟩,λx H3 y=>?_⟩
   obtain⟨s3,r3⟩:=yl x H3 y
   have S3:=p2.sm.CK s3;have p3:=p2.trans (gH.vJ (bG.of s3) (Fz.refl _) S3);split at hl
   .rename_i e4 h4;refine L Z Θ2 e2 C2 σ2 H3 x d e4 S3 r3 h4 _ λσ4 S4 o4=>?_
    have p4:gH K Z Θ e1 σ H1 Θ2 e4 C2 σ4 H3:=p3.trans ⟨n6.refl _ _,bG.refl _ _,λa m=>.inl (o4 a m),S4⟩;split at hl
    .rename_i e5 C5 h5
     exact⟨Z,Θ2,e4,C2,.nx,e5,C5,S4,h5,λΘ5 σ5 H5 p5=>⟨Θ5,e5,C5,p4.trans p5,hl⟩⟩
    .rename_i e5 C5 h5
     exact⟨Z,Θ2,e4,C2,.ct,e5,C5,S4,h5,λΘ5 σ5 H5 p5=>⟨Θ5,e5,C5,p4.trans p5,hl⟩⟩
    .rename_i e5 C5 h5;cases hl
     exact⟨Z,Θ2,e4,C2,.bk,aW,C',S4,h5,λΘ5 σ5 H5 p5=>q Θ5 σ5 H5 (p1.trans (p4.trans p5))⟩
    .rename_i r e5 C5 h5;cases hl
     exact⟨Z,Θ2,e4,C2,.rt r,aW,C',S4,h5,λΘ5 v H5 p5=>q Θ5 v H5 (p1.ret (p4.ret p5))⟩
    .cases hl
   .cases hl
 .cases hf
theorem qC(hp:U7 (model X.prog X.w) X.A X.env X.xe)(hc:X.calm=aq)(hi:PI X tg iter (tI X.K aA fi))(hg:PG X tg g)(L:GX X.K g fg)(hb:lg X body (tS X.K f))
  (hs:∀x,uN iter X.env x=pure x:=by intro _;rfl):PS X (.For tg iter body [] pos) (tS X.K (jX fi fg f)):=(aqt hp hc hi hg hb hs).weak (an1 L)
def uJ:lH->aB->Option (List aB)
 |.one,d=>aa [d]
 |.many n,.tuple ds=>if ds.length=n then aa ds else ao
 |_,_=>ao
def frB(js:List Nat)(aj:En):En:=js.map λj=>((aj[j]?).join).map still
def cI(ds:List aB):En:=ds.map λd=>aa (.im d)
def dM(T:lH)(ft:FT)(fe:FE)(fs:En):List aB->Ce->Option (List aB×Ce)
 |[],C=>aa ([],C)
 |d::r,C=>match uJ T d with
  |some ts=>match ft (cI ts++fs) C with
   |some (false,C1)=>dM T ft fe fs r C1
   |some (true,C1)=>match fe (cI ts++fs) C1 with
    |some (x,_,C2)=>match still x with
     |.im y=>match dM T ft fe fs r C2 with
      |some (ys,C3)=>aa (y::ys,C3)
      |none=>ao
     |_=>ao
    |none=>ao
   |none=>ao
  |none=>ao
def jG(js:List Nat)(aj:En):En:=aj.mapIdx λi x=>if i∈js then x.map still else x
def gk(fi:FI)(T:lH)(ft:FT)(fe:FE)(js:List Nat):FE:=λaj C=>match fi aj C with
 |some (aK,e1,C1)=>match dM T ft fe (frB js e1) aK C1 with
  |some (ys,C2)=>if ys.length<=gG then aa (.ow (.list ys),if ji ys then e1 else jG js e1,C2) else ao
  |none=>ao
 |none=>ao
theorem agl:∀{a b:En},a.length=b.length->(∀(i:Nat)(x y:Option Vl),a[i]?=aa x->b[i]?=aa y->Zi x y)->Fz a b
 |[],[],_,_=>trivial
 |x::r,y::t,hl,h=>⟨h 0 x y rfl rfl,agl (by simpa using hl) λi u v h1 h2=>h (i+1) u v (by simpa using h1) (by simpa using h2)⟩
 |[],_::_,hl,_=>by cases hl
 |_::_,[],hl,_=>by cases hl
theorem Ga(js:List Nat)(aj:En):Fz aj (jG js aj):=agl (by unfold jG;rw[List.length_mapIdx]) λi x y h1 h2=>by
 unfold jG at h2;rw[aij,h1] at h2;have h2:(if i∈js then alx still x else x)=y:=jj h2;rw[<-h2];split
 .cases x with
  |none=>exact .inl rfl
  |some x=>
   cases x with
   |ow d=>exact .inr ⟨d,rfl,rfl⟩
   |im d=>exact .inl rfl
   |ce n=>exact .inl rfl
   |sc ns=>exact .inl rfl
   |tp=>exact .inl rfl
 .exact .inl rfl
theorem afJ{k:Nat}{x:Vl}(h:(frB js aj)[k]?=aa (aa x)):∃j:Nat,js[k]?=aa j/\(jG js aj)[j]?=aa (aa x)/\∀d,x≠.ow d:=by
 unfold frB at h;rw[jC] at h;cases hj:js[k]? with
 |none=>rw[hj] at h;cases h
 |some j=>
  rw[hj] at h;have h':((aj[j]?).join).map still=aa x:=jj h
  refine⟨j,rfl,?_,?_⟩
  .unfold jG;rw[aij];cases hv:aj[j]? with
   |none=>rw[hv] at h';cases h'
   |some y=>
    rw[hv] at h';show aa (if j∈js then alx still y else y)=_;rw[bC (lX hj)];exact congrArg aa h'
  .cases hv:(aj[j]?).join with
   |none=>rw[hv] at h';cases h'
   |some y=>
    rw[hv] at h';have e:still y=x:=jj h';rw[<-e];intro d z;cases y<;>cases z
theorem Gb:∀{aj:En}{σ:St},(∀(i:Nat)(d:aB),aj[i]?≠aa (aa (.ow d)))->cF aj σ=[]
 |[],σ,_=>by cases σ<;>rfl
 |_::_,[],_=>rfl
 |x::e,v::s,h=>by
  rw[cF,Gb (aj:=e) (σ:=s) λi d z=>h (i+1) d (by simpa using z)];have h0:=h 0;simp at h0;unfold own1;split
  .rename_i d a;exact absurd rfl (h0 d)
  .rfl
section
variable{K:bw}{Z Θ:List aH}{aj:En}{C C2:Ce}{σ:St}{H H2:Hp}{D:aH}
abbrev nY(D:aH)(Z:List aH)(aj:En)(σ:St):List aH:=D::(Z++cF aj σ)
theorem rE{js:List Nat}{sB:St}(h:cF eB sB=[]):a∈bH (nY D Z aj σ) Θ eB sB↔a=D\/a∈bH Z Θ aj σ:=by
 rw[lO,lO,h,cg,eO];constructor
 .rintro((h|h|h)|h|h)
  .exact .inl h
  .exact .inr (.inl h)
  .exact .inr (.inr (.inr h))
  .exact .inr (.inr (.inl h))
  .nomatch h
 .rintro(h|h|h|h)
  .exact .inl (.inl h)
  .exact .inl (.inr (.inl h))
  .exact .inr (.inl h)
  .exact .inl (.inr (.inr h))
theorem Pq:∀(i:Nat)(d:aB),(cI ts++frB js aj)[i]?≠aa (aa (.ow d)):=λi d z=>by
 by_cases hi:i<(cI ts).length
 .rw[tV hi] at z;unfold cI at z;rw[jC] at z;cases h:ts[i]? with
  |none=>rw[h] at z;cases z
  |some t=>rw[h] at z;cases z
 .rw[tU az] at z
  obtain⟨j,_,_,h⟩:=afJ z
  exact h d rfl
theorem Sm.blk(S:Sm K Z Θ (jG js aj) C σ H)(hD:H D=sJ)(k:bG Θ H H2)(nt:NT (H2 D))(c:sZ Θ C2 H2)(r:cM (er (bH (nY D Z (jG js aj) σ) Θ [] []) H2) ts vs):
  Sm K (nY D Z (jG js aj) σ) Θ (cI ts++frB js aj) C2 (vs.map aa++frees js σ) H2:=by
 have no:=Gb (aj:=cI ts++frB js aj) (σ:=vs.map aa++frees js σ) Pq;have gf:=S.gf;have lv:=jU r;have Q0:(cI ts).length=ts.length:=by unfold cI;rw[bD]
 have ee:er (bH (nY D Z (jG js aj) σ) Θ (cI ts++frB js aj) (vs.map aa++frees js σ)) H2=er (bH (nY D Z (jG js aj) σ) Θ [] []) H2:=vf λa=>by rw[rE (js:=js) no,rE (js:=js) rfl]
 have sm:cO (er (bH Z Θ (jG js aj) σ) H) (er (bH (nY D Z (jG js aj) σ) Θ [] []) H2):=oA k S.uI λb m=>by
  rcases(rE (js:=js) rfl).mp m with rfl|m
  .exact .inr hD
  .exact .inl m
 refine⟨?_,?_,λb m=>?_,λi x e=>?_,c⟩
 .rw[gJ,gJ,bD,lv,Q0];unfold frees frB;rw[bD,bD]
 .show(nY D Z (jG js aj) σ++(Θ++cF (cI ts++frB js aj) (vs.map aa++frees js σ))).Nodup
  rw[no];refine Dr (mK.mpr ⟨λm=>?_,?_⟩) gf.2.1 lJ (λb m m'=>?_) (λ_ m=>nomatch m)
  .rcases eO.mp m with m|m
   .exact(S.dom D m).ne hD
   .exact S.CZ D (lO.mpr (.inr (.inr m))) hD
  .rw[mZ]
   exact⟨gf.1,gf.2.2.1,λb m c' m' e=>by subst e;exact(S.qz m').1 m⟩
  .rcases cg.mp m with rfl|m
   .exact S.CZ b (lO.mpr (.inr (.inl m'))) hD
   .rcases eO.mp m with m|m
    .exact gf.2.2.2 b m m'
    .exact(S.qz m).2 m'
 .rcases cg.mp m with rfl|m
  .exact nt
  .have:NT (H b)/\b∉Θ:=by
    rcases eO.mp m with m|m
    .exact⟨S.dom b m,gf.2.2.2 b m⟩
    .exact⟨S.QX b (lO.mpr (.inr (.inr m))),(S.qz m).2⟩
   obtain⟨⟨u,e,n⟩,nb⟩:=this
   exact⟨u,k.keep _ _ e nb,n⟩
 .rw[ee];by_cases hi:i<ts.length
  .rw[tV (by rw[Q0];exact hi)] at e;unfold cI at e;rw[jC] at e;cases ht:ts[i]? with
   |none=>rw[ht] at e;cases e
   |some t=>
    rw[ht] at e;cases e
    obtain⟨v,ev,rv⟩:=uv r ht
    exact⟨v,by rw[tV (by rw[bD,lv];exact hi),jC,ev];rfl,rv⟩
  .rw[tU (by rw[Q0];lia),Q0] at e
   obtain⟨j,hj,hx,nx⟩:=afJ e
   obtain⟨v,ev,rv⟩:=S.slot j x hx
   refine⟨v,?_,rv.same sm λd _ z=>absurd z (nx d)⟩
   rw[tU (by rw[bD,lv];lia),bD,lv];unfold frees;rw[jC,hj];show aa ((σ[j]?).join)=_;rw[ev];rfl
end
def cz:FT:=λ_ C=>aa (aq,C)
theorem ju:oX X [] (iJ X.K cz):=λau s σ H Q I aY=>by
 obtain⟨Z,Θ,aj,C,b,C',S,hf,q⟩:=aY
 cases hf;exact aoV au s σ H Q I (q H (bG.refl _ _) S)
theorem zU(h:PT X c (iJ X.K f)):oX X [c] (iJ X.K f):=aoW h
theorem asd{K:bw}{T:lH}{E H:Hp}{x:V}(h:uJ T d=aa ts)(r:RZ E d x)(s:cO E H):∃vs,GK K T x H vs/\cM E ts vs:=by
 cases T with
 |one=>cases h;exact⟨[x],rfl,x,[],rfl,r,rfl⟩
 |many n=>
  cases d<;>first|cases h|skip
  rename_i ds;have h:(if ds.length=n then aa ds else ao)=aa ts:=h;split at h
  .rename_i hl;cases h
   obtain⟨a,vs,rfl,ha,r⟩:=r
   exact⟨vs,⟨a,rfl,dg.of (s _ _ ha),(jU r).trans hl⟩,r⟩
  .cases h
def wU{α:Type}(T:lH)(ft:FT)(st:En->α->Ce->Option (α×Ce))(fs:En):List aB->α->Ce->Option (α×Ce)
 |[],a,C=>aa (a,C)
 |d::r,a,C=>(uJ T d).bind λts=>(ft (cI ts++fs) C).bind λp=>bif p.1 then(st (cI ts++fs) a p.2).bind λq=>wU T ft st fs r q.1 q.2 else wU T ft st fs r a p.2
inductive agT{α:Type}(Θ:List aH)(H1:Hp)(n:Nat)(Ob:α->Hp->Prop)(run:Nat->α->Ce->Prop)(i m:Nat)(H2:Hp):Prop
 |mk (a:α) (Ci:Ce) (hm:m=n-i) (hi:i<=n) (ki:bG Θ H1 H2) (ci:sZ Θ Ci H2) (ob:Ob a H2) (hc:run i a Ci):agT Θ H1 n Ob run i m H2
section
variable{K:bw}{α:Type}{T:lH}{ft:FT}{st:En->α->Ce->Option (α×Ce)}{js:List Nat}{Z Θ:List aH}{e1:En}{C1 C':Ce}{σ:St}{H1:Hp}{J:It}{D:aH}{o0:HO}{a0 aE:α}
theorem Xu{Hx Hy:Hp}(hD:H1 D=sJ)(kk:bG Θ H1 Hx):bG Θ H1 (upd Hx D u):=by
 refine⟨λa o ha na=>?_,λa ha=>?_⟩
 .rw[fD (ue ha hD)];exact kk.keep _ _ ha na
 .by_cases z:a=D
  .subst z;rw[gV];exact zu _
  .rw[fD z];exact kk.dom a ha
theorem NP(hD:D∉Θ)(c:sZ Θ C1 Hx):sZ Θ C1 (upd Hx D u):=by
 refine⟨c.len,λn b ns e2 e3=>?_⟩
 rw[fD]
 .exact c.at_ n b ns e2 e3
 .intro z;subst z;exact hD (lX e2)
theorem V0{em:TM}{Ob:α->Hp->Prop}(S1:Sm K Z Θ e1 C1 σ H1)(it:yM (bH Z Θ e1 σ) Θ H1 J aK)(hD:H1 D=sJ)(ob0:Ob a0 (upd H1 D o0))(GZ:∀a Hx Hy,bG Θ Hx Hy->Ob a Hx->Ob a Hy)(obn:∀a Hx,Ob a Hx->NT (Hx D))
  (hem:∀(ts:List aB)(a:α)(C2:Ce)(p:α×Ce)(vs:List V)(H4:Hp)(Q:Hp->Prop),st (cI ts++frB js e1) a C2=aa p->Sm K (nY D Z (jG js e1) σ) Θ (cI ts++frB js e1) C2 (vs.map aa++frees js σ) H4->bG Θ H1 H4->Ob a H4->(∀H6,bG Θ H1 H6->sZ Θ p.2 H6->Ob p.1 H6->Q H6)->em (vs.map aa++frees js σ) H4 Q)
  (hc:wU T ft st (frB js e1) aK a0 C1=aa (aE,C'))(hq:∀H2,bG Θ H1 H2->sZ Θ C' H2->Ob aE H2->done H2):Af K T (iJ K ft) em (frees js σ) J (upd H1 D o0) done:=by
 have uF:D∉Θ:=λm=>(S1.cell.dom D m).ne hD
 have S1f:=S1.fz (Ga js e1)
 refine⟨agT Θ H1 aK.length Ob (λi a Ci=>wU T ft st (frB js e1) (aK.drop i) a Ci=aa (aE,C')),⟨aK.length,⟨a0,C1,rfl,j5 _,bG.upd hD,NP uF S1.cell,ob0,hc⟩⟩,λi m H2 hh=>?_⟩
 cases hh with
 |mk a Ci hm hi ki ci ob hc=>
 subst hm;have nt:=obn a H2 ob;have smP:cO (er (bH Z Θ e1 σ) H1) (er (bH (nY D Z (jG js e1) σ) Θ [] []) H2):=oA ki S1.uI λb m=>by
  rcases(rE (js:=js) rfl).mp m with rfl|m
  .exact .inr hD
  .exact .inl ((Ga js e1).sub b m)
 have ato:∀a∈bH (nY D Z (jG js e1) σ) Θ [] [],H2 a≠sJ:=λa m=>(S1f.blk hD ki nt ci (show cM _ [] [] from rfl)).CZ a ((rE (js:=js) (Gb (aj:=cI []++frB js e1) Pq)).mpr ((rE (js:=js) rfl).mp m))
 obtain⟨Zr,Zt⟩:=it i H2 _ smP (afA ki) ato
 cases hd:aK[i]? with
 |none=>
  have hi2:i=aK.length:=Nat.le_antisymm hi (ZM.mp hd);rw[hi2,ajd] at hc;cases hc;exact .inl ⟨Zt hi2,hq H2 ki ci ob⟩
 |some d=>
  obtain⟨hlt,ed⟩:=jZ.mp hd
  rw[ZP hlt,ed] at hc
  obtain⟨go,yl⟩:=Zr d hd
  refine .inr ⟨go,λx H3 y=>?_⟩
  obtain⟨s3,r3⟩:=yl x H3 y
  obtain⟨ts,ht,hc⟩:=lD hc
  obtain⟨p,hft,hc⟩:=lD hc
  obtain⟨vs,tv,rvs⟩:=asd (K:=K) ht r3 (Gk _ _)
  refine⟨vs,tv,?_⟩
  have k3:bG Θ H1 H3:=ki.trans (bG.of s3);have Zu:=GZ a _ _ (bG.of s3) ob;have SB:=S1f.blk (js:=js) hD k3 (obn a H3 Zu) ⟨ci.len,λn b ns e2 e3=>s3 _ _ (ci.at_ n b ns e2 e3)⟩ rvs;have lt:aK.length-(i+1)<aK.length-i:=az
  refine⟨_,Θ,_,Ci,p.1,p.2,SB,hft,λH4 k4 S4=>?_⟩
  cases hp:p.1 with
  |false=>
   rw[hp] at hc;exact yK ⟨_,lt,⟨a,p.2,rfl,hlt,k3.trans k4,S4.cell,GZ a _ _ k4 Zu,hc⟩⟩
  |true=>
   rw[hp] at hc
   obtain⟨q,hs,hc⟩:=lD hc
   exact yL (hem ts a p.2 q vs H4 _ hs S4 (k3.trans k4) (GZ a _ _ k4 Zu) λH6 k6 c6 o6=>⟨_,lt,⟨q.1,q.2,rfl,hlt,k6,c6,o6,hc⟩⟩)
end
def Yz(fe:FE):En->List aB->Ce->Option (List aB×Ce):=λaj bJ C=>(fe aj C).bind λq=>(vI (still q.1)).bind λy=>bif decide (bJ.length<gG) then aa (bJ++[y],q.2.2) else ao
theorem WX:∀{aK:List aB}{ys bJ:List aB}{C:Ce},dM T ft fe fs aK C=aa (ys,C')->bJ.length+ys.length<=gG->wU T ft (Yz fe) fs aK bJ C=aa (bJ++ys,C')
 |[],ys,bJ,C,h,_=>by
  cases h;rw[mj];rfl
 |d::r,ys,bJ,C,h,hl=>by
  unfold dM at h;unfold wU;split at h
  case h_2=>cases h
  rename_i ts ht;rw[ht,m9];split at h
  case h_3=>cases h
  .rename_i C1 hf;rw[hf,m9];exact WX h hl
  .rename_i C1 hf;rw[hf,m9];split at h
   case h_2=>cases h
   rename_i x e2 C2 hx;split at h
   case h_2=>cases h
   rename_i y hy;split at h
   case h_2=>cases h
   rename_i zs C3 hz;cases h;rw[fY] at hl
   show(Yz fe (cI ts++fs) bJ C1).bind _=_
   unfold Yz;rw[hx,m9,hy,show vI (.im y)=aa y from rfl,m9,dW az,show bJ++y::zs=(bJ++[y])++zs by rw[qX];rfl];exact WX hz (by rw[gJ];show bJ.length+1+_<=_;lia)
theorem aeP{K:bw}{T:lH}{ft:FT}{fe:FE}:∀σ H Q,tE K (gk fi T ft fe js) σ H Q->Y8 K (tI K aq fi) T (λ_=>iJ K ft) (λ_=>tE K fe) js σ H Q:=by
 rintro σ H Q ⟨Z,Θ,aj,C,res,aW,C',S,hf,q⟩;unfold gk at hf;split at hf
 case h_2=>cases hf
 rename_i aK e1 C1 h1;split at hf
 case h_2=>cases hf
 rename_i ys C2 h2;split at hf
 case isFalse=>cases hf
 rename_i hl;cases hf
 refine⟨Z,Θ,aj,C,aK,e1,C1,S,h1,λJ H1 k1 f1 S1 it D hD b=>?_⟩
 have uF:D∉Θ:=λm=>(S1.cell.dom D m).ne hD
 have Zv:D∈bH (nY D Z (jG js e1) σ) Θ [] []:=(rE (js:=js) rfl).mpr (.inl rfl);refine V0 (a0:=[]) (Ob:=λbJ Hx=>nW (er (bH (nY D Z (jG js e1) σ) Θ [] []) Hx) Hx D (.list bJ)) S1 it hD ⟨[],gV,rfl⟩ (λa Hx Hy kk r=>r.same (oA kk (λa m=>lO.mpr (.inr (.inl m))) λa m=>.inl m) λo h=>kk.keep _ _ h uF)
  (λa Hx r=>by obtain⟨vs,e,_⟩:=r;exact⟨_,e,λ_ z=>nomatch z⟩) ?_ (WX (bJ:=[]) h2 (by rw[RT,Ml];exact hl)) λH2 ki ci r=>?_
 .intro ts bJ C2 p vs H4 Q hs S4 k4 r4 hQ
  obtain⟨w,hfe,hs⟩:=lD hs
  obtain⟨yd,vK,hs⟩:=lD hs
  have vK:=Jr vK;cases hlt:decide (bJ.length<gG) with
  |false=>rw[hlt] at hs;cases hs
  |true=>
  rw[hlt] at hs;cases hs
  refine⟨_,Θ,_,C2,w.1,w.2.1,w.2.2,S4,hfe,λy H5 k5 f5 R5=>?_⟩
  obtain⟨S5,r5⟩:=R5.vm vK
  obtain⟨yN,hD5,rr⟩:=r4.same (oA k5 (λa m=>lO.mpr (.inr (.inl m))) λa m=>.inl m) λo h=>k5.keep _ _ h uF
  have Zw:cF w.2.1 (vs.map aa++frees js σ)=[]:=by
   have:=(Fz.own (σ:=vs.map aa++frees js σ) f5)
   rw[Gb Pq] at this;exact aje.mp this
  have e5:er (bH (nY D Z (jG js e1) σ) Θ w.2.1 (vs.map aa++frees js σ)) H5=er (bH (nY D Z (jG js e1) σ) Θ [] []) H5:=vf λa=>by rw[rE (js:=js) Zw,rE (js:=js) rfl]
  rw[e5] at r5;have lt:=of_decide_eq_true hlt
  refine⟨yN,hD5,by rw[jU rr,lN];unfold gG at lt;lia,hQ _ (Xu (Hy:=H5) hD (k4.trans k5)) (NP uF S5.cell) ⟨_,gV,?_⟩⟩
  rw[Pj Zv];exact BW rr ⟨y,[],rfl,r5,rfl⟩
 .obtain⟨yN,hDi,ri⟩:=r
  refine q _ H2 (k1.trans ki) ?_ ?_
  .split
   .exact f1
   .exact f1.trans (Ga js e1)
  .refine⟨D,rfl,k1.none hD,?_⟩
   split
   .rename_i hn;have SD:=S1.Jw hD ki ⟨_,hDi,λ_ z=>nomatch z⟩ ci
    exact⟨SD,yN,hDi,ri.lq (λa vs e=>Jq SD (jt e)) hn⟩
   .refine⟨(S1.fz (Ga js e1)).Jw hD ki ⟨_,hDi,λ_ z=>nomatch z⟩ ci,yN,hDi,?_⟩
    rw[vf (P':=bH (D::Z) Θ (jG js e1) σ) λa=>by rw[rE (js:=js) rfl];show _↔a∈D::bH Z Θ (jG js e1) σ;rw[cg]] at ri;exact ri
section
variable{X:Cx}{NT NF:List Str}{js:List Nat}{T:lH}{fi:FI}{ft:FT}{fe:FE}{scope:kW}{pos:Pos}
theorem jF(B:qG X NT NF js scope)(tk:p7 tg NT T)(hc:X.calm=aq)(hi:PI X tg iter (tI X.K aq fi))
  (hin:∀b,oX (X.bk (NT++NF) scope b) ifs (iJ X.K ft)/\PE (X.bk (NT++NF) scope b) elt (tE X.K fe))
  (hs:∀x,uN iter X.env x=pure x:=by intro _;rfl):PE X (.ListComp elt [⟨tg,iter,ifs,0⟩] scope pos) (tE X.K (gk fi T ft fe js)):=(ar4 B tk hc hi hin hs).weak aeP
theorem BK{i:Nat}(B:qG X NT NF js scope)(tk:p7 tg NT T)(hc:X.calm=aq)(hi:PI X tg iter (tI X.K aq fi))
  (hin:∀b,oX (X.bk (NT++NF) scope b) ifs (iJ X.K ft)/\PE (X.bk (NT++NF) scope b) elt (tE X.K fe))
  (hsw:wu (.ListComp elt [⟨tg,iter,ifs,0⟩] scope pos) (aa (.Name y pos')) spos.line X.env=pure aq)(hN:X.N.Nodup)(hI:X.N[i]?=aa y)(hy:X.env.scope.names.lookup y=aa .local)
  (hs:∀x,uN iter X.env x=pure x:=by intro _;rfl):PS X (.Assign [.Name y pos'] (.ListComp elt [⟨tg,iter,ifs,0⟩] scope pos) spos) (tS X.K (eN i (gk fi T ft fe js))):=(anv B tk hc hi hin hsw hN hI hy hs).weak (VR aeP)
end
noncomputable def Jy(n:Nat):Vl->Bool
 |.ce m=>decide (m<n)
 |_=>aq
noncomputable def fN(k n:Nat)(body:FS):FN:=λxs C=>if xs.length=k then match body (xs.map aa++cN (n-xs.length) ao) C with
  |some (.rt r,_,C')=>if Jy C.length r then aa (r,C'.take C.length) else ao
  |some (.nx,_,C')=>aa (.im .none,C'.take C.length)
  |_=>ao
 else ao
section
variable{K:bw}{C:Ce}{H:Hp}{vs:List V}
theorem V1(a:yq K E Θ xs vs):vs.length=xs.length:=by
 induction a with
 |nil=>rfl
 |cons _ _ ih=>rw[fY,fY,ih]
theorem apm(a:yq K E Θ xs vs):∀{i:Nat}{x:Vl},xs[i]?=aa x->∃v,vs[i]?=aa v/\yx K E Θ x v:=by
 induction a with
 |nil=>intro i x e;simp at e
 |cons h _ ih=>
  intro i x e;cases i with
  |zero=>simp at e;subst e;exact⟨_,rfl,h⟩
  |succ i=>
   obtain⟨v,e2,h2⟩:=ih (i:=i) (by simpa using e)
   exact⟨v,by simpa using e2,h2⟩
theorem Sm.start(S:Sm K Z Θ [] C [] H)(a:yq K (er (bH Z Θ [] []) H) Θ xs vs):Sm K Z Θ (xs.map aa++cN n sJ) C (vs.map aa++cN n sJ) H/\cF (xs.map aa++cN n sJ) (vs.map aa++cN n sJ)=[]:=by
 have lv:=V1 a;have at':∀{i:Nat}{x:Vl},(xs.map aa++cN n sJ)[i]?=aa (aa x)->∃v,vs[i]?=aa v/\yx K (er (bH Z Θ [] []) H) Θ x v/\i<vs.length:=λ{i x} e=>by
  by_cases hi:i<xs.length
  .rw[tV (by rw[bD];exact hi),jC] at e;cases hx:xs[i]? with
   |none=>rw[hx] at e;cases e
   |some y=>
    rw[hx] at e;cases e
    obtain⟨v,e1,h⟩:=apm a hx
    exact⟨v,e1,h,by rw[lv];exact hi⟩
  .rw[tU (by rw[bD];lia)] at e;have:=lX e;exact nomatch(List.eq_of_mem_replicate this)
 have no:cF (xs.map aa++cN n sJ) (vs.map aa++cN n sJ)=[]:=Gb λi d e=>by
  obtain⟨v,_,h,_⟩:=at' e
  exact h
 refine⟨⟨by simp[lv],?_,S.dom,λi x e=>?_,S.cell⟩,no⟩
 .show(Z++(Θ++cF _ _)).Nodup
  rw[no];exact S.nd
 .obtain⟨v,e1,h,hl⟩:=at' e
  refine⟨v,by rw[tV (by rw[bD];exact hl),jC,e1];rfl,?_⟩
  have ee:er (bH Z Θ (xs.map aa++cN n sJ) (vs.map aa++cN n sJ)) H=er (bH Z Θ [] []) H:=by
   show er (Z++(Θ++cF _ _)) H=_;rw[no];rfl
  rw[ee];cases x with
  |im d=>exact h
  |ow d=>exact h.elim
  |ce m=>exact h
  |sc ns=>exact h
  |tp=>exact h.elim
theorem Sm.cut(S:Sm K Z (Θ++Δ) [] C [] H):Sm K Z Θ [] (C.take Θ.length) [] H:=by
 have gf:=S.gf;have cl:=S.cell.len;rw[gJ] at cl
 refine⟨rfl,Dr gf.1 (mZ.mp gf.2.1).1 lJ (λb m m'=>gf.2.2.2 b m (jR _ m')) (λ_ m=>nomatch m),S.dom,λi x e=>by simp at e,⟨by rw[lZ];lia,λn a ns e1 e2=>?_⟩⟩
 have hn:n<Θ.length:=(jZ.mp e1).1;rw[Ro,bC hn] at e2;exact S.cell.at_ n a ns (by rw[tV hn];exact e1) e2
theorem Qh.cut(t:n6 Θ Θ' H)(ok:Jy Θ.length r=aq)(no:O=[])(h:Qh K Z Θ' C' O H H' r v):QB K Z Θ (C'.take Θ.length) H H' r v:=by
 obtain⟨Δ,rfl,hn⟩:=t.ex
 have sm:∀{Y:List aH},cO (er (bH Y (Θ++Δ) [] []) H') (er (bH Y Θ [] []) H'):=λ{Y}=>wK λa m=>by
  rcases lO.mp m with m|m|m
  .exact lO.mpr (.inl m)
  .exact lO.mpr (.inr (.inl (jR _ m)))
  .nomatch m
 cases r with
 |im d=>exact⟨h.1.cut,h.2.same sm⟩
 |ow d=>
  obtain⟨a,e,m,S,r⟩:=h
  refine⟨a,e,?_,S.cut,r.same sm λ_ h=>h⟩
  rcases m with m|m
  .rw[no] at m;nomatch m
  .exact m
 |ce n=>
  obtain⟨S,a,e,e2⟩:=h
  refine⟨S.cut,a,e,?_⟩
  rw[tV (of_decide_eq_true ok)] at e2;exact e2
 |sc ns=>
  obtain⟨S,a,e,q⟩:=h
  exact⟨S.cut,a,e,sm.seq q⟩
 |tp=>
  obtain⟨t,a,vs,us,e,e',m,S,r,p,q⟩:=h
  refine⟨t,a,vs,us,e,e',?_,S.cut,r.same sm λ_ h=>h,p.same sm,q.same sm⟩
  rcases m with m|m
  .rw[no] at m;nomatch m
  .exact m
end
section
variable{w:dD}{K:bw}{base:cu}
theorem jz{st:eX}{f:aH}{fd:wC}{k:Nat}{body:FS}{k1 k2:Nat}(F:gr K x qual st f fd)(S:iy N ps (cC st))
  (hb:∀(cdv:aL)(A:iz)(outer:List Env)(s:aZ)(H:Hp)(E:XK),kY k (A.deeper (envOfC qual (cC st) s.heap.objs.size f cdv))->lg (CW gb P w K mg base N qual (cC st) f cdv A outer s H E).J0 (zR st) (tS K body))
  (e1:k1=ps.length:=by rfl)(e2:k2=N.length:=by rfl):fX P w K mg base gb (k+1) f fd ps (spT K (fN k1 k2 body)):=by
 subst e1 e2;refine F.ok S (λvs H Q E h=>?_) (λcdv A outer s H vs Q E hr h=>⟨_,hb cdv A outer s H E hr,?_⟩)
 .obtain⟨Z,Θ,C,xs,r,C',S0,a,hf,_⟩:=h
  unfold fN at hf;split at hf
  .rename_i hl;rw[V1 a,hl]
  .cases hf
 .obtain⟨Z,Θ,C,xs,r,C',S0,a,hf,q⟩:=h
  unfold fN at hf;split at hf
  case isFalse=>cases hf
  rename_i hl;have lv:=V1 a
  obtain⟨S1,no⟩:=S0.start (n:=N.length-vs.length) a
  rw[lv] at S1 no;have hs:start N vs=vs.map aa++cN (N.length-xs.length) ao:=by unfold start;rw[lv]
  rw[hs];have cl:=S0.cell.len;split at hf
  .rename_i r0 e' C1 hb';split at hf
   .rename_i hok;cases hf
    refine⟨Z,Θ,_,C,.rt r,e',C1,S1,hb',λΘ' v H' R=>?_⟩
    have kp:=R.kp;rw[no,mj] at kp;rw[cl] at q hok;exact q v H' kp (R.ok.cut R.th hok no)
   .cases hf
  .rename_i e' C1 hb';cases hf
   refine⟨Z,Θ,_,C,.nx,e',C1,S1,hb',λΘ' σ' H' R=>?_⟩
   have kp:=R.kp;rw[no,mj] at kp
   obtain⟨Δ,e,hn⟩:=R.th.ex
   have S2:=R.sm.none;rw[e] at S2;rw[cl] at q;exact q .non H' kp ⟨S2.cut,rfl⟩
  .cases hf
theorem aq5(hS:cj K H a (ns.map V.int))(h:f [.sc ns] []=aa (.im (.bool aq),C')):spT K f [.ref a] H (λv _=>v=.bl aq) E:=by
 refine⟨[],[],[],[.sc ns],_,C',⟨rfl,lJ,(λ_ m=>nomatch m),λi x e=>by simp at e,⟨rfl,λn b ms e _=>by simp at e⟩⟩,.cons ⟨a,rfl,?_⟩ .nil,h,λv H' _ R=>R.2⟩
 show cj K (er [] H) a _;rw[aqQ];exact hS
end
def Ac(i:Nat):FE:=λaj C=>match aj[i]? with
 |some (some (.sc ns))=>aa (.im (.int ns.length),aj,C)
 |_=>ao
def JR(i:Nat)(f:FB):FE:=λaj C=>match aj[i]? with
 |some (some (.sc ns))=>match f aj C with
  |some (.int k,_,C1)=>match gF ns k with
   |some z=>aa (.im (.int z),aj,C1)
   |none=>ao
  |_=>ao
 |_=>ao
section
variable{X:Cx}{p pos:Pos}
theorem aeQ(ho:PE X o (uD i))(hg:Gl X "len")(hm:X.mg "len"=ao)(hv:uQ "len"=aa (.builtin "len"))
  (he:bM [o] X.env=(aA,eval o X.env)::bM [] X.env:=by rfl)(hpl:(iC pos (bM [] X.env)).any (·.1)=aA:=by rfl):PE X (.Call (.Name "len" p) [o] [] pos) (tE X.K (Ac i)):=
 (Nx abw hg hm hv (qx ho ur he) bA bA he hpl).weak λσ H Q aY=>by
  obtain⟨Z,Θ,aj,C,r,aW,C',S,hf,q⟩:=aY
  unfold Ac at hf;split at hf
  .rename_i ns h0;cases hf
   obtain⟨v,ev,a,rfl,sq⟩:=S.slot i _ h0
   have:=q (.int ns.length) H (bG.refl _ _) (Fz.refl _) ⟨S,rfl⟩
   exact⟨_,ev,a,_,rfl,.inl ((Gk _ _).seq sq),by rw[bD];exact this⟩
  .cases hf
theorem aq6(ho:PE X o (uD i))(hk:PE X k (fK X.K f))(hs:Jc k):PE X (.Subscript o k pos) (tE X.K (JR i f)):=(X7 WD ho hk hs).weak λσ H Q aY=>by
 obtain⟨Z,Θ,aj,C,r,aW,C',S,hf,q⟩:=aY
 unfold JR at hf;split at hf
 case h_2=>cases hf
 rename_i ns h0;split at hf
 case h_2=>cases hf
 rename_i z e1 C1 h1;split at hf
 case h_2=>cases hf
 rename_i y hy;cases hf
 obtain⟨v,ev,a,rfl,sq⟩:=S.slot i _ h0
 refine⟨_,ev,Z,Θ,aj,C,_,e1,C',S,h1,λw H1 k1 f1 S1 b1=>?_⟩
 have S2:=S.go k1 S1.cell
 obtain⟨v2,ev2,a2,ea2,sq2⟩:=S2.slot i _ h0
 rw[ev] at ev2;cases ev2;cases ea2
 refine⟨a,_,z,.int y,rfl,b1,(Gk _ _).seq sq2,?_,q _ H1 k1 (Fz.refl _) ⟨S2,rfl⟩⟩
 unfold gF at hy⊢;rw[bD];cases hj:qP ns.length z with
 |none=>rw[hj] at hy;cases hy
 |some j=>
  rw[hj] at hy
  show(ns.map V.int)[j]?=_
  rw[jC,show ns[j]?=aa y from hy];rfl
end
section
variable{K:bw}{X:Cx}
theorem pZ(h:Qf Z Θ aj σ H [d] vs):∃v,vs=[v]/\jd Z Θ aj σ H d v:=by
 cases h with
 |cons a b=>cases b;exact⟨_,rfl,a⟩
theorem Qi(h:Qf Z Θ aj σ H [d,e] vs):∃v w,vs=[v,w]/\jd Z Θ aj σ H d v/\jd Z Θ aj σ H e w:=by
 cases h with
 |cons a b=>
  cases b with
  |cons b c=>cases c;exact⟨_,_,rfl,a,b⟩
def De:aB->Option Nat
 |.list ds=>aa ds.length
 |.tuple ds=>aa ds.length
 |.str z=>if z.length<=gG then aa z.length else ao
 |.dict aC=>if(dO f9 aC).isSome then aa aC.length else ao
 |_=>ao
def mF:List aB->Option Vl
 |[d]=>(De d).map λn=>.im (.int n)
 |_=>ao
def agm(K:bw):List V->Hp->VK->Prop:=λxs H Q=>((∃p ys,xs=[.ref p]/\(cj K H p ys\/dg K H p ys)/\Q (.int ys.length) H)\/∃z,xs=[.str z]/\z.length<=cH/\Q (.int z.length) H)\/∃a aC,xs=[V.ref a]/\yU H a aC/\Q (.int aC.length) H
theorem wz:jm X (.builtin "len") (agm X.K):=(abw.or akd).or amh
theorem wO:mH K (agm K) mF:=by
 intro Z Θ aj C σ H xs ds res S b e Q q;unfold mF at e;split at e
 case h_2=>cases e
 rename_i d
 obtain⟨v,rfl,bb⟩:=pZ b
 cases hn:De d with
 |none=>rw[hn] at e;cases e
 |some n=>
  rw[hn] at e;cases e;have fin:=q (.int n) H (bG.refl _ _) (jT S rfl rfl);cases d<;>first|cases hn|skip
  .rename_i z;simp only[De] at hn;split at hn
   .rename_i hl;cases hn;cases bb.str;exact .inl (.inr ⟨z,rfl,rB hl,fin⟩)
   .cases hn
  .obtain⟨a,vs,rfl,ha,r⟩:=bb.lst
   exact .inl (.inl ⟨a,vs,rfl,.inl (cj.of ha),by rw[jU r];exact fin⟩)
  .obtain⟨a,vs,rfl,ha,r⟩:=bb.tup
   exact .inl (.inl ⟨a,vs,rfl,.inr (dg.of ha),by rw[jU r];exact fin⟩)
  .rename_i aC;simp only[De] at hn;split at hn
   .rename_i hs;cases hn
    obtain⟨a,vs,rfl,da,r⟩:=bb.dct
    rcases da with⟨ks,h1,ha⟩|⟨ks,⟨ne,h2⟩,ha⟩
    .refine .inr ⟨a,_,rfl,Zh ha,?_⟩;rw[Lj,xY h1,Ft r,akl];exact fin
    .obtain⟨ks',h1⟩:=zm.mp hs
     exact absurd (zK h1 h2) ne
   .cases hn
def Jz:List aB->Option Vl
 |[.int i]=>aa (.im (.int (if i<0 then -i else i)))
 |_=>ao
theorem afK:mH K (λxs H Q=>∃i,xs=[.int i]/\Q (.int (if i<0 then -i else i)) H) Jz:=by
 intro Z Θ aj C σ H xs ds res S b e Q q;unfold Jz at e;split at e
 case h_2=>cases e
 cases e
 obtain⟨v,rfl,bb⟩:=pZ b
 cases bb.int
 exact⟨_,rfl,q _ H (bG.refl _ _) (jT S rfl rfl)⟩
def Qj:List aB->Option Vl
 |[.int i]=>aa (.im (.int i))
 |[.bool k]=>aa (.im (.int (if k then 1 else 0)))
 |_=>ao
theorem aq7:mH K (λxs H Q=>(∃i,xs=[.int i]/\Q (.int i) H)\/∃k,xs=[.bl k]/\Q (.int (if k then 1 else 0)) H) Qj:=by
 intro Z Θ aj C σ H xs ds res S b e Q q;unfold Qj at e;split at e
 case h_3=>cases e
 .cases e
  obtain⟨v,rfl,bb⟩:=pZ b
  cases bb.int;exact .inl ⟨_,rfl,q _ H (bG.refl _ _) (jT S rfl rfl)⟩
 .cases e
  obtain⟨v,rfl,bb⟩:=pZ b
  cases(show v=.bl _ from bb)
  exact .inr ⟨_,rfl,q _ H (bG.refl _ _) (jT S rfl rfl)⟩
def Gd:List aB->Option Vl
 |[.int i,.int j]=>aa (.im (.int (if j>i then j else i)))
 |_=>ao
def Pu:List aB->Option Vl
 |[.int i,.int j]=>aa (.im (.int (if j<i then j else i)))
 |_=>ao
theorem aeR:mH K (λxs H Q=>∃i j,xs=[.int i,.int j]/\Q (.int (if j>i then j else i)) H) Gd:=by
 intro Z Θ aj C σ H xs ds res S b e Q q;unfold Gd at e;split at e
 case h_2=>cases e
 cases e
 obtain⟨v,w,rfl,b1,b2⟩:=Qi b
 cases b1.int;cases b2.int
 exact⟨_,_,rfl,q _ H (bG.refl _ _) (jT S rfl rfl)⟩
theorem apn:mH K (λxs H Q=>∃i j,xs=[.int i,.int j]/\Q (.int (if j<i then j else i)) H) Pu:=by
 intro Z Θ aj C σ H xs ds res S b e Q q;unfold Pu at e;split at e
 case h_2=>cases e
 cases e
 obtain⟨v,w,rfl,b1,b2⟩:=Qi b
 cases b1.int;cases b2.int
 exact⟨_,_,rfl,q _ H (bG.refl _ _) (jT S rfl rfl)⟩
noncomputable def boolsOf:List aB->Option (List Bool)
 |[]=>aa []
 |.bool b::r=>match boolsOf r with
  |some t=>aa (b::t)
  |none=>ao
 |_=>ao
theorem acQ:∀{ds:List aB}{ns:List Bool}{vs:List V},boolsOf ds=aa ns->cM E ds vs->vs=ns.map V.bl
 |[],ns,vs,h,r=>by cases h;exact r
 |.bool i::ds,ns,vs,h,r=>by
  unfold boolsOf at h;split at h
  .rename_i t ht;cases h
   obtain⟨u,w,rfl,q,s⟩:=r
   rw[acQ ht s];have:u=.bl i:=q;rw[this];rfl
  .cases h
 |.none::_,_,_,h,_=>by cases h
 |.int _::_,_,_,h,_=>by cases h
 |.str _::_,_,_,h,_=>by cases h
 |.list _::_,_,_,h,_=>by cases h
 |.tuple _::_,_,_,h,_=>by cases h
 |.dict _::_,_,_,h,_=>by cases h
def nq:List aB->Option Vl
 |[.list ds]=>(boolsOf ds).map λbs=>.im (.bool (bs.all id))
 |_=>ao
theorem qD:mH K (λxs H Q=>∃(p:aH)(bs:List Bool),xs=[.ref p]/\cj K H p (bs.map V.bl)/\Q (.bl (bs.all id)) H) nq:=by
 intro Z Θ aj C σ H xs ds res S b e Q q;unfold nq at e;split at e
 case h_2=>cases e
 rename_i ds;cases hb:boolsOf ds with
 |none=>rw[hb] at e;cases e
 |some bs=>
  rw[hb] at e;cases e
  obtain⟨v,rfl,bb⟩:=pZ b
  obtain⟨a,vs,rfl,ha,r⟩:=bb.lst
  rw[acQ hb r] at ha
  exact⟨a,bs,rfl,cj.of ha,q _ H (bG.refl _ _) (jT S rfl rfl)⟩
def Ge:List aB->Option Vl
 |[d]=>if pP d&&d.showable&&decide (d.depth<=60)&&decide (d.shown.length<=gG) then aa (.im (.str d.shown)) else ao
 |_=>ao
theorem aeS:mH K (λxs H Q=>∃v d,xs=[v]/\RD K H d v/\d.showable=aq/\d.depth<=60/\d.shown.length<=cH/\Q (.str d.shown) H) Ge:=by
 intro Z Θ aj C σ H xs ds res S b e Q q;unfold Ge at e;split at e
 case h_2=>cases e
 rename_i d;split at e
 case isFalse=>cases e
 rename_i h;cases e;rw[j0,j0,j0,decide_eq_true_iff,decide_eq_true_iff] at h
 obtain⟨v,rfl,bb⟩:=pZ b
 exact⟨v,d,rfl,(bb.rx h.1.1.1).rd,h.1.1.2,h.1.2,rB h.2,q _ H (bG.refl _ _) (jT S rfl rfl)⟩
def rF:List aB->Option Vl
 |[.list ds]=>aa (.im (.tuple ds))
 |[.tuple ds]=>aa (.im (.tuple ds))
 |_=>ao
theorem BL:mH K (λxs H Q=>∃p ys,xs=[.ref p]/\((cj K H p ys/\∀l,H l=ao->Q (.ref l) (upd H l (.tup ys)))\/(dg K H p ys/\Q (.ref p) H))) rF:=by
 intro Z Θ aj C σ H xs ds res S b e Q q;unfold rF at e;split at e
 case h_3=>cases e
 .cases e
  obtain⟨v,rfl,bb⟩:=pZ b
  obtain⟨a,vs,rfl,ha,r⟩:=bb.lst
  exact⟨a,vs,rfl,.inl ⟨cj.of ha,λl hl=>q _ _ (bG.upd hl) (Fv S r hl)⟩⟩
 .cases e
  obtain⟨v,rfl,bb⟩:=pZ b
  obtain⟨a,vs,rfl,ha,r⟩:=bb.tup
  exact⟨a,vs,rfl,.inr ⟨dg.of ha,q _ H (bG.refl _ _) ⟨S,bb⟩⟩⟩
end
def qL(n:String):aB->Option Bool
 |.none=>aa aA
 |.bool _=>aa (n=="bool"||n=="int")
 |.int _=>aa (n=="int")
 |.str _=>aa (n=="str")
 |.list _=>aa (n=="list")
 |.tuple _=>aa (n=="tuple")
 |.dict _=>ao
def JS(n:String):Bool:=n=="bool"||n=="int"||n=="str"||n=="list"||n=="tuple"
theorem Xv{K:bw}{b:Bool}(hn:JS n=aq)(e:qL n d=aa b):DR K (J8 d) (.type n)=aa b:=by
 unfold JS at hn;simp only[ajo,beq_iff_eq] at hn;rcases hn with(((rfl|rfl)|rfl)|rfl)|rfl<;>cases d<;>cases e<;>rfl
theorem adN(e:qL n d=aa b):∀aC,d≠.dict aC:=λaC z=>by subst z;cases e
theorem jd.ty{K:bw}{aj:En}{σ:St}{H:Hp}{v:V}(h:jd Z Θ aj σ H d v)(hd:∀aC,d≠.dict aC):pK K H v (J8 d):=by
 cases d with
 |none=>exact RX.ty (d:=.none) h
 |bool b=>exact RX.ty (d:=.bool b) h
 |int i=>exact RX.ty (d:=.int i) h
 |str z=>exact RX.ty (d:=.str z) h
 |list ds=>
  obtain⟨a,vs,rfl,ha,r⟩:=h.lst
  exact .lst ha
 |tuple ds=>
  obtain⟨a,vs,rfl,ha,r⟩:=h.tup
  exact .tup ha
 |dict aC=>exact absurd rfl (hd aC)
def j9(n:String)(f:FB):FE:=λaj C=>match f aj C with
 |some (d,_,C1)=>match qL n d with
  |some b=>aa (.im (.bool b),aj,C1)
  |none=>ao
 |none=>ao
def CV(m n:String)(f:FB):FE:=λaj C=>match f aj C with
 |some (d,_,C1)=>match qL m d,qL n d with
  |some p,some q=>aa (.im (.bool (p||q)),aj,C1)
  |_,_=>ao
 |none=>ao
section
variable{X:Cx}{p pos tp:Pos}
theorem qF(hn:JS n=aq)(ha:PE X a (fK X.K f))(ht:PE X t (tC (.ty n)))(hg:Gl X "isinstance")(hm:X.mg "isinstance"=ao)(hv:uQ "isinstance"=aa (.builtin "isinstance"))
  (he:bM [a,t] X.env=(aA,eval a X.env)::bM [t] X.env:=by rfl)(he2:bM [t] X.env=(aA,eval t X.env)::bM [] X.env:=by rfl)(hpl:(iC pos (bM [t] X.env)).any (·.1)=aA:=by rfl):
  PE X (.Call (.Name "isinstance" p) [a,t] [] pos) (tE X.K (j9 n f)):=
 (Nx akP hg hm hv (qx ha (qx ht ur he2) he) bA bA he hpl).weak λσ H Q aY=>by
  obtain⟨Z,Θ,aj,C,r,aW,C',S,hf,q⟩:=aY
  unfold j9 at hf;split at hf
  case h_2=>cases hf
  rename_i d e1 C1 h1;split at hf
  case h_2=>cases hf
  rename_i b hb;cases hf
  refine⟨Z,Θ,aj,C,d,e1,C',S,h1,λv H1 k f S1 b1=>⟨v,n,J8 d,b,rfl,b1.ty (adN hb),Xv hn hb,q _ H1 k (Fz.refl _) ⟨S.go k S1.cell,rfl⟩⟩⟩
theorem apo(hm':JS m=aq)(hn:JS n=aq)(ha:PE X a (fK X.K f))(ht:PE X t (tC (.ty m)))(ht':PE X t' (tC (.ty n)))(hg:Gl X "isinstance")(hm:X.mg "isinstance"=ao)(hv:uQ "isinstance"=aa (.builtin "isinstance"))
  (he:bM [a,.Tuple [t,t'] x1 tp] X.env=(aA,eval a X.env)::bM [.Tuple [t,t'] x1 tp] X.env:=by rfl)(he2:bM [.Tuple [t,t'] x1 tp] X.env=(aA,eval (.Tuple [t,t'] x1 tp) X.env)::bM [] X.env:=by rfl)
  (h3:bM [t,t'] X.env=(aA,eval t X.env)::bM [t'] X.env:=by rfl)(h4:bM [t'] X.env=(aA,eval t' X.env)::bM [] X.env:=by rfl)
  (hpl:(iC pos (bM [.Tuple [t,t'] x1 tp] X.env)).any (·.1)=aA:=by rfl):
  PE X (.Call (.Name "isinstance" p) [a,.Tuple [t,t'] x1 tp] [] pos) (tE X.K (CV m n f)):=
 (Nx akh hg hm hv (qx ha (qx (Xn (qx ht (qx ht' ur h4) h3)) ur he2) he) bA bA he hpl).weak λσ H Q aY=>by
  obtain⟨Z,Θ,aj,C,r,aW,C',S,hf,q⟩:=aY
  unfold CV at hf;split at hf
  case h_2=>cases hf
  rename_i d e1 C1 h1;split at hf
  case h_2=>cases hf
  rename_i b b' hb hb';cases hf
  refine⟨Z,Θ,aj,C,d,e1,C',S,h1,λv H1 k f S1 b1=>⟨by show 2<=cH;rw[lN];decide,λc hc=>?_⟩⟩
  have kc:bG Θ H1 (upd H1 c (.tup [.ty m,.ty n])):=bG.upd hc;have s2:=S1.CK (cO.upd (o:=.tup [.ty m,.ty n]) hc);have b2:=b1.go S1 kc (Fz.refl _)
  refine⟨v,c,m,n,J8 d,b,b',rfl,gV,b2.ty (adN hb),Xv hm' hb,Xv hn hb',q _ _ (k.trans kc) (Fz.refl _) ⟨S.go (k.trans kc) s2.cell,rfl⟩⟩
end
def ins{α:Type}(lt:α->α->Bool)(x:α):List α->List α
 |[]=>[x]
 |y::r=>if lt y x then y::ins lt x r else x::y::r
def mQ{α:Type}(lt:α->α->Bool):List α->List α
 |[]=>[]
 |x::r=>ins lt x (mQ lt r)
section
variable{α:Type}{lt:α->α->Bool}
theorem V2(x:α):∀l:List α,(ins lt x l).Perm (x::l)
 |[]=>xK _
 |y::r=>by
  unfold ins;split
  .exact((V2 x r).cons y).trans (Sv x y r)
  .exact xK _
theorem Ej:∀l:List α,(mQ lt l).Perm l
 |[]=>xK _
 |x::r=>(V2 x _).trans ((Ej r).cons x)
structure Gn(lt:α->α->Bool)(P:α->Prop):Prop where
 Gx:∀a b,P a->P b->lt a b=aq->lt b a=aA
 neg:∀a b c,P a->P b->P c->lt a c=aq->lt a b=aq\/lt b c=aq
 tot:∀a b,P a->P b->lt a b=aA->lt b a=aA->a=b
theorem afL(O:Gn lt P)(hx:P x):∀{l:List α},(∀y∈l,P y)->l.Pairwise (λa b=>lt b a=aA)->(ins lt x l).Pairwise (λa b=>lt b a=aA)
 |[],_,_=>uM.mpr ⟨λ_ m=>(nomatch m),uO⟩
 |y::r,hp,h=>by
  rw[uM] at h;have py:=hp y eV;unfold ins;split
  .rename_i hl;rw[uM]
   refine⟨λz m=>?_,afL O hx (λz m=>hp z (fQ _ m)) h.2⟩
   rcases cg.mp ((V2 x r).mem_iff.mp m) with rfl|m
   .exact O.Gx _ _ py hx hl
   .exact h.1 z m
  .rename_i hl;have hl:lt y x=aA:=by simpa using hl
   rw[uM,uM]
   refine⟨λz m=>?_,h.1,h.2⟩
   rcases cg.mp m with rfl|m
   .exact hl
   .have pz:=hp z (fQ _ m);cases hz:lt z x with
    |false=>rfl
    |true=>
     rcases O.neg z y x pz py hx hz with h1|h1
     .rw[h.1 z m] at h1;cases h1
     .rw[hl] at h1;cases h1
theorem V3(O:Gn lt P):∀{l:List α},(∀y∈l,P y)->(mQ lt l).Pairwise (λa b=>lt b a=aA)
 |[],_=>uO
 |x::r,hp=>afL O (hp x eV) (λy m=>hp y (fQ _ ((Ej r).mem_iff.mp m))) (V3 O λy m=>hp y (fQ _ m))
theorem afM(O:Gn lt P):∀{l m:List α},(∀y∈l,P y)->l.Perm m->l.Pairwise (λa b=>lt b a=aA)->m.Pairwise (λa b=>lt b a=aA)->l=m
 |[],m,_,p,_,_=>(List.nil_perm.mp p).symm
 |x::r,[],_,p,_,_=>absurd p.length_eq bF
 |x::r,y::t,hp,p,h1,h2=>by
  have pm:∀z∈y::t,P z:=λz m=>hp z (p.mem_iff.mpr m)
  rw[uM] at h1 h2;have e:x=y:=by
   have m1:x∈y::t:=p.mem_iff.mp eV;have m2:y∈x::r:=p.mem_iff.mpr eV;rcases cg.mp m1 with e|m1
   .exact e
   .rcases cg.mp m2 with e|m2
    .exact e.symm
    .exact O.tot x y (hp x eV) (pm y eV) (h2.1 x m1) (h1.1 y m2)
  subst e;rw[afM O (λz m=>hp z (fQ _ m)) ((List.perm_cons x).mp p) h1.2 h2.2]
theorem WY(O:Gn lt P)(hp:∀y∈l,P y)(p:m.Perm l)(h:m.Pairwise (λa b=>lt b a=aA)):m=mQ lt l:=
 afM O (λy hy=>hp y (p.mem_iff.mp hy)) (p.trans (Ej l).symm) h (V3 O hp)
end
def ltI(i j:Int):Bool:=decide (i<j)
theorem atp:Gn ltI (λ_=>True):=⟨λa b _ _ h=>by unfold ltI at *;simp at *;lia,λa b c _ _ _ h=>by unfold ltI at *;simp at *;lia,λa b _ _ h1 h2=>by unfold ltI at *;simp at *;lia⟩
theorem QF:Gn strLt (λ_=>True):=by
 refine⟨λa b _ _ h=>?_,λa b c _ _ _ h=>?_,λa b _ _ h1 h2=>?_⟩
 .exact WN (a:=.inr a) (b:=.inr b) h
 .exact afv (a:=.inr a) (b:=.inr b) (c:=.inr c) rfl rfl h
 .exact Ua (Pg (a:=.inr a) (b:=.inr b) rfl h1 h2)
noncomputable def strsOf:List aB->Option (List Str)
 |[]=>aa []
 |.str i::r=>match strsOf r with
  |some t=>aa (i::t)
  |none=>ao
 |_=>ao
theorem V4:∀{ds:List aB}{ns:List Str}{vs:List V},strsOf ds=aa ns->cM E ds vs->vs=ns.map V.str
 |[],ns,vs,h,r=>by cases h;exact r
 |.str i::ds,ns,vs,h,r=>by
  unfold strsOf at h;split at h
  .rename_i t ht;cases h
   obtain⟨u,w,rfl,q,s⟩:=r
   rw[V4 ht s];have:u=.str i:=q;rw[this];rfl
  .cases h
 |.none::_,_,_,h,_=>by cases h
 |.bool _::_,_,_,h,_=>by cases h
 |.int _::_,_,_,h,_=>by cases h
 |.list _::_,_,_,h,_=>by cases h
 |.tuple _::_,_,_,h,_=>by cases h
 |.dict _::_,_,_,h,_=>by cases h
def tL:aB->Option (List Bool)
 |.tuple xs=>(keysOf xs).map λks=>ks.map cA
 |_=>ao
def oY:Key->aB
 |.inl i=>.int i
 |.inr x=>.str x
def yC:aB->List Key
 |.tuple xs=>(keysOf xs).getD []
 |_=>[]
def qM(ds:List aB):List aB:=(pM (ds.map yC)).map λk=>.tuple (k.map oY)
def yD(ds:List aB):Option (List aB):=if ds.length<64 then match intsOf ds with
  |some ns=>aa ((mQ ltI ns).map .int)
  |none=>match strsOf ds with
   |some zs=>aa ((mQ strLt zs).map .str)
   |none=>match ds with
    |[]=>aa []
    |d::_=>match tL d with
     |some (b::sh)=>if(ds.all λe=>decide (tL e=aa (b::sh))) then aa (qM ds) else ao
     |_=>ao
 else ao
def zM:List aB->Option Vl
 |[.list ds]=>(yD ds).map λl=>.ow (.list l)
 |_=>ao
def Xw(K:bw):List V->Hp->VK->Prop:=λxs H Q=>((∃(p:aH)(ns:List Int),xs=[.ref p]/\cj K H p (ns.map V.int)/\ns.length<64/\∀(l:aH)(ns':List Int),H l=ao->ns'.Perm ns->ns'.Pairwise (·<=·)->Q (.ref l) (upd H l (.lst (ns'.map V.int))))\/
 ∃(p:aH)(ns:List Str),xs=[.ref p]/\cj K H p (ns.map V.str)/\ns.length<64/\∀(l:aH)(ns':List Str),H l=ao->ns'.Perm ns->sortedS ns'=aq->Q (.ref l) (upd H l (.lst (ns'.map V.str))))\/
 ∃(p:aH)(aM:List Row)(b:Bool)(sh:List Bool),xs=[.ref p]/\cj K H p (aM.map λr=>V.ref r.1)/\aM.length<64/\(∀r∈aM,H r.1=aa (.tup (r.2.map kV))/\r.2.map cA=b::sh)/\∀(l:aH)(rows':List Row),H l=ao->rows'.Perm aM->rows'.map (·.2)=pM (aM.map (·.2))->Q (.ref l) (upd H l (.lst (rows'.map λr=>V.ref r.1)))
theorem aly:jm X (.builtin "sorted") (Xw X.K):=(ai6.or ai7).or aiH
theorem sortI(p:ns'.Perm ns)(h:ns'.Pairwise (·<=·)):ns'=mQ ltI ns:=WY atp (λ_ _=>trivial) p (h.imp λ{a b} hab=>by unfold ltI;simp;exact hab)
theorem afN:∀{x:Str}{r:List Str},risingS x r=aq->(x::r).Pairwise (λa b=>strLt b a=aA)
 |x,[],_=>uM.mpr ⟨λ_ m=>(nomatch m),uO⟩
 |x,y::r,h=>by
  unfold risingS at h;rw[j0,Bool.not_eq_true'] at h;have ih:=afN h.2;have hxy:strLt y x=aA:=by
   have:=h.1;unfold strLt;rw[lt_meets];exact this
  rw[uM]
  refine⟨λz m=>?_,ih⟩
  rcases cg.mp m with rfl|m
  .exact hxy
  .rw[uM] at ih;cases hz:strLt z x with
   |false=>rfl
   |true=>
    rcases QF.neg z y x trivial trivial trivial hz with h1|h1
    .rw[ih.1 z m] at h1;cases h1
    .rw[hxy] at h1;cases h1
theorem afO(p:ns'.Perm ns)(h:sortedS ns'=aq):ns'=mQ strLt ns:=WY QF (λ_ _=>trivial) p (by
 cases ns' with
 |nil=>exact uO
 |cons x r=>exact afN h)
theorem NQ:∀{xs:List aB}{ks:List Key},keysOf xs=aa ks->xs=ks.map oY
 |[],ks,h=>by cases h;rfl
 |x::xs,ks,h=>by
  unfold keysOf at h;split at h
  .rename_i k t h1 h2;cases h;rw[NQ h2];have:x=oY k:=by
    cases x<;>first|(cases h1;rfl)|cases h1
   rw[this];rfl
  .cases h
theorem NZ:∀ks:List Key,keysOf (ks.map oY)=aa ks
 |[]=>rfl
 |k::ks=>by
  show(match f9 (oY k),keysOf (ks.map oY) with|some k,some t=>aa (k::t)|_,_=>ao)=_
  rw[NZ ks];cases k<;>rfl
theorem amB{aM rows':List Row}(e:ds=aM.map (λr=>.tuple (r.2.map oY)))(h:rows'.map (·.2)=pM (aM.map (·.2))):(rows'.map λr=>HH (r.2.map oY))=qM ds:=by
 have e1:ds.map yC=aM.map (·.2):=by
  rw[e,fj];refine vO λr _=>?_
  show(keysOf (r.2.map oY)).getD []=r.2
  rw[NZ];rfl
 unfold qM;rw[e1,<-h,fj];rfl
theorem acR(h:∀d∈ds,(tL d).isSome=aq):(qM ds).Perm ds:=by
 have:=(acL (ds.map yC)).map λk=>HH (k.map oY)
 refine this.trans (aaR ?_);rw[fj]
 refine(vO λd hd=>?_).trans (Mt ds)
 have hs:=h d hd;cases d with
 |tuple xs=>
  show HH (((keysOf xs).getD []).map oY)=.tuple xs;cases hk:keysOf xs with
  |none=>
   have hs:((keysOf xs).map λks=>ks.map cA).isSome=aq:=hs;rw[hk] at hs;cases hs
  |some ks=>rw[NQ hk];rfl
 |_=>cases hs
theorem adO:∀{ds:List aB}{vs:List V},(∀d∈ds,tL d=aa sh)->cM E ds vs->∃aM:List Row,vs=aM.map (λr=>V.ref r.1)/\ds=aM.map (λr=>.tuple (r.2.map oY))/\∀r∈aM,E r.1=aa (.tup (r.2.map kV))/\r.2.map cA=sh
 |[],vs,_,r=>⟨[],r,rfl,λ_ m=>(nomatch m)⟩
 |d::ds,vs,h,r=>by
  obtain⟨u,w,rfl,q,s⟩:=r
  obtain⟨aM,e1,e2,e3⟩:=adO (λd m=>h d (fQ _ m)) s
  have hd:=h d eV;cases d<;>first|cases hd|skip
  rename_i xs;have hd:(keysOf xs).map (λks=>ks.map cA)=aa sh:=hd;cases hk:keysOf xs with
  |none=>rw[hk] at hd;cases hd
  |some ks=>
   rw[hk] at hd
   obtain⟨a,vs',rfl,ha,rr⟩:=q
   rw[Bw hk rr] at ha
   refine⟨(a,ks)::aM,by rw[e1];rfl,by rw[e2,NQ hk];rfl,λr m=>?_⟩
   rcases cg.mp m with rfl|m
   .exact⟨ha,jj hd⟩
   .exact e3 r m
theorem V5:∀{aM:List Row},(∀r∈aM,E r.1=aa (.tup (r.2.map kV)))->cM E (aM.map λr=>.tuple (r.2.map oY)) (aM.map λr=>V.ref r.1)
 |[],_=>rfl
 |r::aM,h=>by
  refine⟨_,_,rfl,⟨r.1,r.2.map kV,rfl,h r eV,?_⟩,V5 λr m=>h r (fQ _ m)⟩
  generalize r.2=ks;induction ks with
  |nil=>rfl
  |cons k ks ih=>exact⟨_,_,rfl,by cases k<;>rfl,ih⟩
theorem V6:∀{ds:List aB}{ns:List Int},intsOf ds=aa ns->ds=ns.map .int
 |[],ns,h=>by cases h;rfl
 |.int i::ds,ns,h=>by
  unfold intsOf at h;split at h
  .rename_i t ht;cases h;rw[V6 ht];rfl
  .cases h
 |.none::_,_,h=>by cases h
 |.bool _::_,_,h=>by cases h
 |.str _::_,_,h=>by cases h
 |.list _::_,_,h=>by cases h
 |.tuple _::_,_,h=>by cases h
 |.dict _::_,_,h=>by cases h
theorem V7:∀{ds:List aB}{ns:List Str},strsOf ds=aa ns->ds=ns.map .str
 |[],ns,h=>by cases h;rfl
 |.str i::ds,ns,h=>by
  unfold strsOf at h;split at h
  .rename_i t ht;cases h;rw[V7 ht];rfl
  .cases h
 |.none::_,_,h=>by cases h
 |.bool _::_,_,h=>by cases h
 |.int _::_,_,h=>by cases h
 |.list _::_,_,h=>by cases h
 |.tuple _::_,_,h=>by cases h
 |.dict _::_,_,h=>by cases h
theorem amC{K:bw}:mH K (Xw K) zM:=by
 intro Z Θ aj C σ H xs ds0 res S b e Q q;unfold zM at e;split at e
 case h_2=>cases e
 rename_i ds;cases hs:yD ds with
 |none=>rw[hs] at e;cases e
 |some l=>
  rw[hs] at e;cases e
  obtain⟨v,rfl,bb⟩:=pZ b
  obtain⟨a,vs,rfl,ha,r⟩:=bb.lst
  unfold yD at hs;split at hs
  case isFalse=>cases hs
  rename_i hl;split at hs
  .rename_i ns hns;cases hs;have ev:=I9 hns r;subst ev;refine .inl (.inl ⟨a,ns,rfl,cj.of ha,by rw[V6 hns,bD] at hl;exact hl,λl ns' hn p hp=>?_⟩);rw[sortI p hp];exact q _ _ (bG.upd hn) (qy S (adE _) hn)
  .split at hs
   .rename_i ns hns;cases hs;have ev:=V4 hns r;subst ev;refine .inl (.inr ⟨a,ns,rfl,cj.of ha,by rw[V7 hns,bD] at hl;exact hl,λl ns' hn p hp=>?_⟩);rw[afO p hp];exact q _ _ (bG.upd hn) (qy S (adF _) hn)
   .split at hs
    .cases hs
     cases(show vs=[] from r)
     exact .inl (.inl ⟨a,[],rfl,cj.of ha,bA,λl ns' hn p hp=>by
      rw[List.perm_nil.mp p];exact q _ _ (bG.upd hn) (qy S rfl hn)⟩)
    .rename_i d0 dr hi1 hi2;split at hs
     case h_2=>cases hs
     rename_i b0 sh hsh;split at hs
     case isFalse=>cases hs
     rename_i hall;cases hs;have hall':∀d∈d0::dr,tL d=aa (b0::sh):=λd m=>of_decide_eq_true (lB.mp hall d m)
     obtain⟨aM,e1,e2,e3⟩:=adO hall' r
     subst e1;refine .inr ⟨a,aM,b0,sh,rfl,cj.of ha,?_,λr m=>⟨jt (e3 r m).1,(e3 r m).2⟩,λl rows' hn p hp=>?_⟩
     .have:=congrArg vY e2;rw[bD] at this;rw[<-this];exact hl
     .have es:(rows'.map λr=>HH (r.2.map oY))=qM (d0::dr):=amB e2 hp;rw[<-es] at q;exact q _ _ (bG.upd hn) (qy S (V5 λr m=>(e3 r (p.mem_iff.mp m)).1) hn)
def Ox(ds:List aB):Option (List aB):=if ds.length<64 then match intsOf ds with
  |some ns=>aa ((mQ ltI (dedup ns)).map .int)
  |none=>ao
 else ao
def N5(ds:List aB):Option (List aB):=if ds.length<64 then match strsOf ds with
  |some ns=>aa ((mQ strLt (dedup ns)).map .str)
  |none=>ao
 else ao
def Qk(f:FB):FE:=λaj C=>match f aj C with
 |some (.list ds,_,C1)=>match Ox ds with
  |some l=>aa (.ow (.list l),aj,C1)
  |none=>ao
 |_=>ao
section
variable{f:FB}{p1 p2 pos1 pos2:Pos}
theorem apq(hc:X.calm=aq)(hl:PE X l (fK X.K f))(g1:Gl X "sorted")(m1:X.mg "sorted"=ao)(g2:Gl X "set")(m2:X.mg "set"=ao)
  (he:bM [.Call (.Name "set" p2) [l] [] pos2] X.env=(aA,eval (.Call (.Name "set" p2) [l] [] pos2) X.env)::bM [] X.env:=by rfl)(hpl:(iC pos1 (bM [] X.env)).any (·.1)=aA:=by rfl)
  (he2:bM [l] X.env=(aA,eval l X.env)::bM [] X.env:=by rfl)(Yy:(iC pos2 (bM [] X.env)).any (·.1)=aA:=by rfl):
  PE X (.Call (.Name "sorted" p1) [.Call (.Name "set" p2) [l] [] pos2] [] pos1) (tE X.K (Qk f)):=(akU hc hl g1 m1 g2 m2 he hpl he2 Yy).weak λσ H Q aY=>by
 obtain⟨Z,Θ,aj,C,r,aW,C',S,hf,q⟩:=aY
 unfold Qk at hf;split at hf
 case h_2=>cases hf
 rename_i ds e1 C1 h1;split at hf
 case h_2=>cases hf
 rename_i l' hs;cases hf
 refine⟨Z,Θ,aj,C,_,e1,C',S,h1,λv H1 k f S1 b1=>?_⟩
 unfold Ox at hs;split at hs
 case isFalse=>cases hs
 rename_i hl;split at hs
 case h_2=>cases hs
 rename_i ns hns;cases hs
 obtain⟨a,vs,rfl,ha,r⟩:=b1.lst
 have ev:=I9 hns r;subst ev;have S2:=S.go k S1.cell
 refine⟨a,ns,rfl,cj.of ha,by rw[V6 hns,bD] at hl;exact hl,λD ns' hn p hp=>?_⟩
 rw[sortI p hp];exact q _ _ (k.trans (bG.upd hn)) (Fz.refl _) ((qy S2 (adE _) hn).from k)
end
def Ql(f g:FB):FE:=λaj C=>match f aj C with
 |some (.list ds,e1,C1)=>match g e1 C1 with
  |some (.int k,_,C2)=>match intsOf ds with
   |some ns=>aa (.im (.int (maxD k ns)),aj,C2)
   |none=>ao
  |_=>ao
 |_=>ao
theorem apr(hc:X.calm=aq)(hl:PE X l (fK X.K f))(hd:PE X de (fK X.K g))(hg:Gl X "max")(hm:X.mg "max"=ao)(he:bM [l] X.env=(aA,eval l X.env)::bM [] X.env:=by rfl):
  PE X (.Call (.Name "max" p) [l] [⟨aa "default",de,kp⟩] pos) (tE X.K (Ql f g)):=(ao8 hc hl hd hg hm he).weak λσ H Q aY=>by
 obtain⟨Z,Θ,aj,C,r,aW,C',S,hf,q⟩:=aY
 unfold Ql at hf;split at hf
 case h_2=>cases hf
 rename_i ds e1 C1 h1;split at hf
 case h_2=>cases hf
 rename_i k e2 C2 h2;split at hf
 case h_2=>cases hf
 rename_i ns hns;cases hf
 refine⟨Z,Θ,aj,C,_,e1,C1,S,h1,λv H1 k1 f1 S1 b1=>⟨Z,Θ,e1,C1,_,e2,C',S1,h2,λw H2 k2 f2 S2 b2=>?_⟩⟩
 obtain⟨a,vs,rfl,ha,r⟩:=(b1.go S1 k2 f2).lst
 rw[I9 hns r] at ha
 exact⟨a,ns,k,rfl,b2,cj.of ha,q _ H2 (k1.trans k2) (Fz.refl _) ⟨S.go (k1.trans k2) S2.cell,rfl⟩⟩
theorem aps(hu:A.units+1<iG)(I:Inv X au σ H s)(g:rP H a y o)(ry:RelV y u)(rd:RelV d r)(h:∀w' s',Inv X au σ H s'->RelV (o.getD d) w'->Q w' s'):
  aQ (model X.prog X.w) A (call (.builtin "dict.get") [.ref a,u,r]) Q E s:=by
 rcases g with g|⟨⟨ep,ha⟩,⟨b,ks,rfl,hb⟩,rfl⟩
 .exact afl hu I g ry rd h
 .exact afl hu (I.Ka ha) (rP.re ha hb) ry rd λw' s' I'=>h w' s' (I'.QZ ha)
def ase(td ty tx:TE):TE:=λσ H Q=>td σ H λx H1=>∃a,x=.ref a/\IsD H1 a/\ty σ H1 λy H2=>tx σ H2 λz H3=>∃o,rP H3 a y o/\Q (o.getD z) H3
theorem apt(hu:X.A.units+1<iG)(ho:PE X o td)(he:PE X e ty)(hf:PE X f tx)(m:M2 X o "get" apos e f cpos):PE X (.Call (.Attribute o "get" apos) [e,f] [] cpos) (ase td ty tx):=by
 intro au s σ H Q I h;refine wpAny_Call_method m.base m.few m.line PySem.F.plainAttrs_dict Z3 PySem.F.type_dict_get (b7 (ho au s σ H _ I h) λu s1 aY=>?_)
 obtain⟨x,H1,I1,rx,a,ex,d,q1⟩:=aY
 subst ex;obtain rfl:u=dJ a:=rx
 obtain⟨t1,t2,_⟩:=aqK I1 d
 refine⟨t1,t2,?_⟩
 rw[m.trees];refine ahY rfl (aid (Hf (b7 (he au s1 σ H1 _ I1 q1) λiv s2 ⟨y,H2,I2,ry,q2⟩=>
  Hf (b7 (hf au s2 σ H2 _ I2 q2) λfv s3 ⟨z,H3,I3,rz,ov,g,q3⟩=>K5 ?_))))
 exact aps hu I3 g ry rz λw' s4 I4 rw'=>⟨_,H3,I4,rw',q3⟩
def xq(fd fk:FB)(fx:FE):FE:=λaj C=>match fd aj C with
 |some (.dict aC,e1,C1)=>match fk e1 C1 with
  |some (dk,e2,C2)=>match fx e2 C2 with
   |some (r,e3,C3)=>match qI aC dk with
    |some (some d)=>aa (.im d,rst (.im d) aj e3,C3)
    |some none=>aa (still r,rst (still r) aj e3,C3)
    |none=>ao
   |none=>ao
  |none=>ao
 |_=>ao
theorem Xx(hu:X.A.units+1<iG)(ho:PE X o (fK X.K fd))(he:PE X e (fK X.K fk))(hf:PE X f (tE X.K fx))(m:M2 X o "get" apos e f cpos):PE X (.Call (.Attribute o "get" apos) [e,f] [] cpos) (tE X.K (xq fd fk fx)):=(apt hu ho he hf m).weak λσ H Q aY=>by
 obtain⟨Z,Θ,aj,C,r,aW,C',S,hf,q⟩:=aY
 unfold xq at hf;split at hf
 case h_2=>cases hf
 rename_i aC e1 C1 h1;split at hf
 case h_2=>cases hf
 rename_i dk e2 C2 h2;split at hf
 case h_2=>cases hf
 rename_i r0 e3 C3 h3
 refine⟨Z,Θ,aj,C,_,e1,C1,S,h1,λv H1 k1 f1 S1 b1=>?_⟩
 obtain⟨a,vs,rfl,da,rr⟩:=b1.dct
 refine⟨a,rfl,?_,Z,Θ,e1,C1,dk,e2,C2,S1,h2,λw H2 k2 f2 S2 b2=>⟨Z,Θ,e2,C2,r0,e3,C3,S2,h3,λz H3 k3 f3 R3=>?_⟩⟩
 .rcases da with⟨ks,_,h⟩|⟨ks,_,h⟩
  .exact .inl ⟨_,Zh h⟩
  .exact .inr ⟨_,rdT h⟩
 have b1':=(b1.go S1 k2 f2).go S2 k3 f3;have b2':=b2.go S2 k3 f3
 obtain⟨S3,a3⟩:=R3.arg
 have kk:=(k1.trans k2).trans k3;have ff:=(f1.trans f2).trans f3;split at hf
 .rename_i d hl;cases hf
  obtain⟨a',o',e',g,hq⟩:=b1'.get b2' hl
  cases e';rcases hq with⟨v',rfl,d',e1',r1,_⟩|⟨_,e1'⟩
  .cases e1'
   exact⟨aa v',g,q v' H3 kk (ff.rst _) (Res.rst S kk ⟨S3,r1⟩)⟩
  .cases e1'
 .rename_i hl;cases hf
  obtain⟨a',o',e',g,hq⟩:=b1'.get b2' hl
  cases e';rcases hq with⟨v',rfl,d',e1',_⟩|⟨rfl,_⟩
  .cases e1'
  .exact⟨ao,g,q z H3 kk (ff.rst _) (((R3.still).from (k1.trans k2)).rst S kk)⟩
 .cases hf
def Px:aB->aB->Option Vl
 |.str z,.list ds=>match strsOf ds with
  |some ys=>if(ys.map (·.length)).sum+ys.length*z.length<=gG then aa (.im (.str (Txt.join z ys))) else ao
  |none=>ao
 |_,_=>ao
def Qm(f g:FB):FE:=aV Px f g
theorem apu(ho:PE X o (fK X.K f))(he:PE X e (fK X.K g))
  (hbase:Hw o "join" X.env (eval o X.env)=eval o X.env:=by rfl)
  (hfew:((iC cpos (bM [e] X.env)).all (λx=>!x.1)&&(Iz cpos (HR [] X.env)).all (λx=>x.1.isSome)
   &&decide (([e]:List Expr).length+([]:List uZ).length+(if([]:List uZ).isEmpty then 0 else 1)<30))=aq:=by rfl)
  (hline:(apos.endLine==cpos.line)=aq:=by rfl)(hs:bM [e] X.env=(aA,eval e X.env)::bM [] X.env:=by rfl)(hplain:(iC cpos (bM [] X.env)).any (·.1)=aA:=by rfl):
  PE X (.Call (.Attribute o "join" apos) [e] [] cpos) (tE X.K (Qm f g)):=
 (Qd PySem.F.plainAttrs_str PySem.F.slot_str_join PySem.F.type_str_join (yS.r aoX) ho (qx he ur hs) hbase hfew hline hs hplain).weak λσ H Q aY=>by
  obtain⟨Z,Θ,aj,C,r,aW,C',S,hf,q⟩:=aY
  unfold Qm aV at hf;split at hf
  case h_2=>cases hf
  rename_i x e1 C1 h1;split at hf
  case h_2=>cases hf
  rename_i y e2 C2 h2;split at hf
  case h_2=>cases hf
  rename_i r0 h3;cases hf
  refine⟨Z,Θ,aj,C,x,e1,C1,S,h1,λv H1 k1 f1 S1 b1=>?_⟩
  unfold Px at h3;split at h3
  case h_2=>cases h3
  rename_i z ds;split at h3
  case h_2=>cases h3
  rename_i ys hys;split at h3
  case isFalse=>cases h3
  rename_i hl;cases h3;cases b1.str
  refine⟨rfl,Z,Θ,e1,C1,_,e2,C',S1,h2,λw H2 k2 f2 S2 b2=>?_⟩
  obtain⟨a,vs,rfl,ha,rr⟩:=b2.lst
  rw[V4 hys rr] at ha;have kk:=k1.trans k2
  refine⟨z,a,ys,rfl,rfl,cj.of ha,by unfold gG at hl;lia,?_⟩
  exact q _ H2 kk ((f1.trans f2).rst _) (Res.rst S kk ⟨S2,rfl⟩)
abbrev FO:=En->Ce->Option (Option Int×Ce)
inductive Ke(K:bw)(f:FO)(σ:St)(H:Hp)(Q:Option Int->Hp->Prop):Prop
 |mk (Z Θ:List aH) (aj:En) (C:Ce) (o:Option Int) (C':Ce) (S:Sm K Z Θ aj C σ H) (hf:f aj C=aa (o,C')) (q:∀H',bG Θ H H'->Sm K Z Θ aj C' σ H'->Q o H'):Ke K f σ H Q
noncomputable def jQ:FO:=λ_ C=>aa (ao,C)
def jN(f:FB):FO:=λaj C=>match f aj C with
 |some (.int i,_,C1)=>aa (aa i,C1)
 |_=>ao
noncomputable def qN{α:Type}(xs:List α)(lo hi:Option Int):List α:=(xs.drop (HT.cQ xs.length 0 lo)).take (HT.cQ xs.length xs.length hi-HT.cQ xs.length 0 lo)
def zb(lo hi:Option Int):aB->Option Vl
 |.str z=>if z.length<=gG then aa (.im (.str (Txt.slice z lo hi))) else ao
 |.list ds=>aa (.ow (.list (qN ds lo hi)))
 |.tuple ds=>aa (.im (.tuple (qN ds lo hi)))
 |_=>ao
def jO(f:FB)(lo hi:FO):FE:=λaj C=>match f aj C with
 |some (d,e1,C1)=>match lo e1 C1 with
  |some (l,C2)=>match hi e1 C2 with
   |some (h,C3)=>match zb l h d with
    |some r=>aa (r,rst r aj e1,C3)
    |none=>ao
   |none=>ao
  |none=>ao
 |none=>ao
theorem W0{E:Hp}{lo hi:Option Int}(r:cM E ds vs):cM E (qN ds lo hi) (vq vs lo hi):=by
 unfold qN vq;rw[jU r];exact adC _ (adD _ r)
section
variable{X:Cx}{lo hi:Option Expr}
theorem PO.weak(h:PO X o t)(w:∀σ H Q,t' σ H Q->t σ H Q):PO X o t':=λau s σ H Q I q=>h au s σ H Q I (w σ H Q q)
theorem nO:PO X ao (Ke X.K jQ):=aoO.weak λσ H Q aY=>by
 obtain⟨Z,Θ,aj,C,o,C',S,hf,q⟩:=aY
 cases hf;exact q H (bG.refl _ _) S
theorem nP(h:PE X e (fK X.K f)):PO X (aa e) (Ke X.K (jN f)):=(aoP h).weak λσ H Q aY=>by
 obtain⟨Z,Θ,aj,C,o,C',S,hf,q⟩:=aY
 unfold jN at hf;split at hf
 .rename_i i e1 C1 h1;cases hf
  exact⟨Z,Θ,aj,C,_,e1,C',S,h1,λv H1 k f S1 b1=>⟨i,b1,q H1 k (S.go k S1.cell)⟩⟩
 .cases hf
theorem nQ{flo fhi:FO}(he:PE X e (fK X.K f))(hl:PO X lo (Ke X.K flo))(hh:PO X hi (Ke X.K fhi)):PE X (.Subscript e (.Slice lo hi ao p2) pos) (tE X.K (jO f flo fhi)):=(anp ((aqN.or aoR).or ao2) he hl hh).weak λσ H Q aY=>by
 obtain⟨Z,Θ,aj,C,r,aW,C',S,hf,q⟩:=aY
 unfold jO at hf;split at hf
 case h_2=>cases hf
 rename_i d e1 C1 h1;split at hf
 case h_2=>cases hf
 rename_i l C2 h2;split at hf
 case h_2=>cases hf
 rename_i h C3 h3;split at hf
 case h_2=>cases hf
 rename_i r0 h4;cases hf
 refine⟨Z,Θ,aj,C,d,e1,C1,S,h1,λv H1 k1 f1 S1 b1=>⟨Z,Θ,e1,C1,l,C2,S1,h2,λH2 k2 S2=>⟨Z,Θ,e1,C2,h,C',S2,h3,λH3 k3 S3=>?_⟩⟩⟩
 have kk:=(k1.trans k2).trans k3;have b3:=b1.go S1 (k2.trans k3) (Fz.refl _);have fin:∀{w:V}{H4:Hp},bG Θ H3 H4->Res X.K Z Θ e1 C' σ H3 H4 r w->Q w H4:=λ{w H4} k4 R=>q w H4 (kk.trans k4) (f1.rst _) ((R.from kk).rst S (kk.trans k4))
 cases d<;>first|cases h4|skip
 .rename_i z;simp only[zb] at h4;split at h4
  .rename_i hz;cases h4;cases b3.str;exact .inl (.inl ⟨z,rfl,rB hz,fin (bG.refl _ _) (jT S3 rfl rfl)⟩)
  .cases h4
 .obtain⟨a,vs,rfl,ha,rr⟩:=b3.lst
  exact .inl (.inr ⟨a,vs,rfl,cj.of ha,λp hp=>fin (bG.upd hp) (qy S3 (W0 rr) hp)⟩)
 .rename_i ds;have b3':=b3
  obtain⟨a,vs,rfl,ha,rr⟩:=b3.tup
  refine .inr ⟨a,vs,rfl,dg.of ha,λec=>?_,λp hp=>fin (bG.upd hp) (Fv S3 (W0 rr) hp)⟩;have rc:=W0 (lo:=l) (hi:=h) rr;rw[ec] at rc;refine fin (bG.refl _ _) ⟨S3,a,vs,rfl,Jq S3 ha,rc⟩
end
def yE(T:lH)(ft:FT)(fk fv:FE)(fs:En):List aB->List (aB×aB)->Ce->Option (List (aB×aB)×Ce)
 |[],bJ,C=>aa (bJ,C)
 |d::r,bJ,C=>match uJ T d with
  |some ts=>match ft (cI ts++fs) C with
   |some (false,C1)=>yE T ft fk fv fs r bJ C1
   |some (true,C1)=>match fk (cI ts++fs) C1 with
    |some (.im k,_,C2)=>match fv (cI ts++fs) C2 with
     |some (x,_,C3)=>match still x,f9 k with
      |.im y,some kk=>if bJ.length<gG then yE T ft fk fv fs r (oV f9 kk k y bJ) C3 else ao
      |_,_=>ao
     |none=>ao
    |_=>ao
   |none=>ao
  |none=>ao
def Df:List (aB×aB)->Bool
 |[]=>aq
 |p::r=>lq p.2&&Df r
def Aq(fi:FI)(T:lH)(ft:FT)(fk fv:FE)(js:List Nat):FE:=λaj C=>match fi aj C with
 |some (aK,e1,C1)=>match yE T ft fk fv (frB js e1) aK [] C1 with
  |some (aC,C2)=>aa (.ow (.dict aC),if Df aC then e1 else jG js e1,C2)
  |none=>ao
 |none=>ao
theorem kh.lq(t:∀a vs,H a=aa (.tup vs)->H' a=aa (.tup vs)):∀{ds:List (aB×aB)}{vs:List V},Df ds=aq->kh H ds vs->kh H' ds vs
 |[],_,_,h=>h
 |(k,d)::ds,vs,n,h=>by
  obtain⟨v,r,e,q,w⟩:=h
  have n':L2.lq d=aq/\Df ds=aq:=by rw[Df,j0] at n;exact n
  exact⟨v,r,e,RZ.lq t n'.1 q,kh.lq t n'.2 w⟩
def YB(fk fv:FE):En->List (aB×aB)->Ce->Option (List (aB×aB)×Ce):=λaj bJ C=>(fk aj C).bind λp=>(vI p.1).bind λk=>(fv aj p.2.2).bind λq=>(vI (still q.1)).bind λy=>(f9 k).bind λkk=>bif decide (bJ.length<gG) then aa (oV f9 kk k y bJ,q.2.2) else ao
theorem W2:∀{aK:List aB}{bJ:List (aB×aB)}{C:Ce},yE T ft fk fv fs aK bJ C=aa p->wU T ft (YB fk fv) fs aK bJ C=aa p
 |[],bJ,C,h=>h
 |d::r,bJ,C,h=>by
  unfold yE at h;unfold wU;split at h
  case h_2=>cases h
  rename_i ts ht;rw[ht,m9];split at h
  case h_3=>cases h
  .rename_i C1 hf;rw[hf,m9];exact W2 h
  .rename_i C1 hf;rw[hf,m9]
   show(YB fk fv (cI ts++fs) bJ C1).bind _=_
   unfold YB;split at h
   case h_2=>cases h
   rename_i k e2 C2 hk;rw[hk,m9,show vI (.im k)=aa k from rfl,m9];split at h
   case h_2=>cases h
   rename_i x e3 C3 hx;rw[hx,m9];split at h
   case h_2=>cases h
   rename_i y kk hy hkk;rw[hy,show vI (.im y)=aa y from rfl,m9,hkk,m9];split at h
   case isFalse=>cases h
   rename_i hl;rw[dW hl];exact W2 h
inductive Q3(P:List aH)(D:aH)(bJ:List (aB×aB))(H:Hp):Prop
 |mk (ks:List Key) (vs:List V) (hk:dO f9 bJ=aa ks) (hD:∃ep,H D=aa (.dK (ks.zip vs) ep)) (r:kh (er P H) bJ vs):Q3 P D bJ H
theorem aeT{K:bw}{fi:FI}{T:lH}{ft:FT}:∀σ H Q,tE K (Aq fi T ft fk fv js) σ H Q->Zb K (tI K aq fi) T (λ_=>iJ K ft) (λ_=>tE K fk) (λ_=>tE K fv) js σ H Q:=by
 rintro σ H Q ⟨Z,Θ,aj,C,res,aW,C',S,hf,q⟩;unfold Aq at hf;split at hf
 case h_2=>cases hf
 rename_i aK e1 C1 h1;split at hf
 case h_2=>cases hf
 rename_i aC C2 h2;cases hf
 refine⟨Z,Θ,aj,C,aK,e1,C1,S,h1,λJ H1 k1 f1 S1 it D hD b=>?_⟩
 have uF:D∉Θ:=λm=>(S1.cell.dom D m).ne hD
 have Zv:D∈bH (nY D Z (jG js e1) σ) Θ [] []:=(rE (js:=js) rfl).mpr (.inl rfl);have GZ:∀a Hx Hy,bG Θ Hx Hy->Q3 (bH (nY D Z (jG js e1) σ) Θ [] []) D a Hx->Q3 (bH (nY D Z (jG js e1) σ) Θ [] []) D a Hy:=λa Hx Hy kk r=>by
  obtain⟨ks,vs,g1,g2,g3⟩:=r
  obtain⟨ep,g2⟩:=g2
  exact⟨ks,vs,g1,⟨ep,kk.keep _ _ g2 uF⟩,g3.same (oA kk (λa m=>lO.mpr (.inr (.inl m))) λa m=>.inl m)⟩
 refine V0 (a0:=[]) (Ob:=Q3 (bH (nY D Z (jG js e1) σ) Θ [] []) D) S1 it hD ⟨[],[],rfl,⟨0,gV⟩,rfl⟩ GZ (λa Hx r=>by obtain⟨ks,vs,_,⟨ep,e⟩,_⟩:=r;exact⟨_,e,λ_ z=>nomatch z⟩) ?_ (W2 h2) λH2 ki ci r=>?_
 .intro ts bJ C2 p vs H4 Q hs S4 k4 r4 hQ
  obtain⟨w,hfk,hs⟩:=lD hs
  obtain⟨kd,YC,hs⟩:=lD hs
  obtain⟨w2,hfv,hs⟩:=lD hs
  obtain⟨yd,vK,hs⟩:=lD hs
  obtain⟨kk,hkd,hs⟩:=lD hs
  have YC:=Jr YC;have vK:=Jr vK;cases hlt:decide (bJ.length<gG) with
  |false=>rw[hlt] at hs;cases hs
  |true=>
  rw[hlt] at hs;cases hs
  refine⟨_,Θ,_,C2,w.1,w.2.1,w.2.2,S4,hfk,λy H5 k5 f5 R5=>?_⟩
  rw[YC] at R5;have S5:=S4.go k5 R5.1.cell
  refine⟨_,Θ,_,w.2.2,w2.1,w2.2.1,w2.2.2,S5,hfv,λz H6 k6 f6 R6=>?_⟩
  obtain⟨S6,r6⟩:=R6.vm vK
  obtain⟨ks,yN,hks,hD6,r6'⟩:=GZ _ _ _ (k5.trans k6) r4
  have Zw:cF w2.2.1 (vs.map aa++frees js σ)=[]:=by
   have:=(Fz.own (σ:=vs.map aa++frees js σ) f6)
   rw[Gb Pq] at this;exact aje.mp this
  have e6:er (bH (nY D Z (jG js e1) σ) Θ w2.2.1 (vs.map aa++frees js σ)) H6=er (bH (nY D Z (jG js e1) σ) Θ [] []) H6:=vf λa=>by rw[rE (js:=js) Zw,rE (js:=js) rfl]
  rw[e6] at r6
  obtain⟨ks',vs',g3,g4,g5⟩:=Ov hkd r6 hks r6'
  have lt:=of_decide_eq_true hlt
  refine⟨ks.zip yN,kk,hD6,aqW hkd R5.2,?_,λe=>hQ _ (Xu (Hy:=H6) hD ((k4.trans k5).trans k6)) (NP uF S6.cell) ⟨ks',vs',g3,⟨e,by rw[g5];exact gV⟩,?_⟩⟩
  .rw[Lj,lN,xY hks];unfold gG at lt;lia
  .rw[Pj Zv];exact g4
 .obtain⟨ks,yN,hks,⟨ep,hDi⟩,ri⟩:=r
  refine q _ H2 (k1.trans ki) ?_ ?_
  .split
   .exact f1
   .exact f1.trans (Ga js e1)
  .refine⟨D,rfl,k1.none hD,?_⟩
   split
   .rename_i hn;have SD:=S1.Jw hD ki ⟨_,hDi,λ_ z=>nomatch z⟩ ci
    exact⟨SD,yN,.inl ⟨ks,hks,ep,hDi⟩,ri.lq (λa vs e=>Jq SD (jt e)) hn⟩
   .refine⟨(S1.fz (Ga js e1)).Jw hD ki ⟨_,hDi,λ_ z=>nomatch z⟩ ci,yN,.inl ⟨ks,hks,ep,hDi⟩,?_⟩
    rw[vf (P':=bH (D::Z) Θ (jG js e1) σ) λa=>by rw[rE (js:=js) rfl];show _↔a∈D::bH Z Θ (jG js e1) σ;rw[cg]] at ri;exact ri
section
variable{X:Cx}{NT NF:List Str}{js:List Nat}{T:lH}{fi:FI}{ft:FT}{fk fv:FE}{scope:kW}{pos:Pos}
theorem asf(B:qG X NT NF js scope)(tk:p7 tg NT T)(hc:X.calm=aq)(hu:X.A.units+1<iG)(hi:PI X tg iter (tI X.K aq fi))
  (hin:∀b,oX (X.bk (NT++NF) scope b) ifs (iJ X.K ft)/\PE (X.bk (NT++NF) scope b) kx (tE X.K fk)/\PE (X.bk (NT++NF) scope b) vx (tE X.K fv))
  (hs:∀x,uN iter X.env x=pure x:=by intro _;rfl):PE X (.DictComp kx vx [⟨tg,iter,ifs,0⟩] scope pos) (tE X.K (Aq fi T ft fk fv js)):=(ar6 B tk hc hu hi hin hs).weak aeT
theorem an2(B:qG X NT NF js scope)(tk:p7 tg NT T)(hc:X.calm=aq)(hu:X.A.units+1<iG)(hi:PI X tg iter (tI X.K aq fi))
  (hin:∀b,oX (X.bk (NT++NF) scope b) ifs (iJ X.K ft)/\PE (X.bk (NT++NF) scope b) kx (tE X.K fk)/\PE (X.bk (NT++NF) scope b) vx (tE X.K fv))
  (hsw:wu (.DictComp kx vx [⟨tg,iter,ifs,0⟩] scope pos) (aa (.Name y pos')) spos.line X.env=pure aq)(hN:X.N.Nodup)(hI:X.N[i]?=aa y)(hy:X.env.scope.names.lookup y=aa .local)
  (hs:∀x,uN iter X.env x=pure x:=by intro _;rfl):PS X (.Assign [.Name y pos'] (.DictComp kx vx [⟨tg,iter,ifs,0⟩] scope pos) spos) (tS X.K (eN i (Aq fi T ft fk fv js))):=(anz B tk hc hu hi hin hsw hN hI hy hs).weak (VR aeT)
end
section
variable{X:Cx}
theorem akm(hc:X.calm=aq):jm X (.type "list") (λxs H Q=>∃(d:aH)(aC:List (Key×V)),xs=[.ref d]/\yU H d aC/\∀l,H l=ao->Q (.ref l) (upd H l (.lst (aC.map λkv=>kV kv.1)))):=by
 intro au s σ H xs us Q I r h
 obtain⟨d,aC,rfl,hd,q⟩:=h
 obtain⟨u,rfl,ru⟩:=vals1 r
 cases ru
 obtain⟨z,lo,vs,rel,dd⟩:=yt I.hok hd
 obtain⟨ep,da⟩:=dd.dictAt
 have lv:vs.length=aC.length:=(Paired.length rel).symm;refine kdl_call (kdl_dict (knd:=ou X.prog X.w) (ep:=ep) lo) (I.ok.hd hc) da (by rw[lv];exact z) λh' tk acc' c' kp e hacc=>?_
 have hl:Vals (aC.map λkv=>kV kv.1) acc'.toList:=by
  have h2:acc'.toList.length=vs.length:=by rw[lY];exact hacc.1
  have h3:∀i v,acc'.toList[i]?=aa v->∃k x,vs[i]?=aa (k,x)/\(ou X.prog X.w).is k v=aq:=λi v e=>hacc.2 i v (by rw[<-G9];exact e)
  clear e hacc dd da;generalize acc'.toList=us at h2 h3;clear hd q z lv;induction rel generalizing us with
  |nil=>
   cases us with
   |nil=>exact .nil
   |cons _ _=>cases h2
  |@cons p w ps ws hp _ ih=>
   cases us with
   |nil=>cases h2
   |cons u us=>
    refine .cons ?_ (ih us (by simpa using h2) λi v e=>by simpa using h3 (i+1) v (by simpa using e))
    obtain⟨k,x,e1,e2⟩:=h3 0 u rfl
    simp at e1;have ek:k=p.1:=by rw[hp.1,e1]
    subst ek;rcases uT e2 with⟨i,t,e3,e4⟩|⟨y,t,e3,e4⟩
    .show RelV (kV p.1) u;rw[e3,e4];exact⟨t,rfl⟩
    .show RelV (kV p.1) u;rw[e3,e4];exact⟨t,rfl⟩
 refine⟨.ref s.heap.objs.size,_,I.laid (t':=tk) kp (bU _) (show gn X.prog X.w _ h' _ (.lst (aC.map λkv=>kV kv.1)) from⟨by rw[bD];exact z,acc'.toList,c',hl,by simpa using e⟩),rfl,q _ (I.hok.fresh (bU _))⟩
def Oz:List aB->Option Vl
 |[.list ds]=>aa (.ow (.list ds))
 |[.tuple ds]=>aa (.ow (.list ds))
 |[.dict aC]=>if(dO f9 aC).isSome then aa (.ow (.list (aC.map (·.1)))) else ao
 |_=>ao
def afP(K:bw):List V->Hp->VK->Prop:=λxs H Q=>(∃p ys,xs=[.ref p]/\(cj K H p ys\/dg K H p ys)/\∀l,H l=ao->Q (.ref l) (upd H l (.lst ys)))\/∃(d:aH)(aC:List (Key×V)),xs=[.ref d]/\yU H d aC/\∀l,H l=ao->Q (.ref l) (upd H l (.lst (aC.map λkv=>kV kv.1)))
theorem alz(hc:X.calm=aq):jm X (.type "list") (afP X.K):=ake.or (akm hc)
theorem V8:∀{aC:List (aB×aB)}{ks:List Key}{vs:List V},dO f9 aC=aa ks->ks.length=vs.length->cM E (aC.map (·.1)) ((ks.zip vs).map λkv=>kV kv.1)
 |[],ks,vs,h,_=>by cases h;rfl
 |(p,d)::aC,ks,vs,h,hl=>by
  unfold dO at h;split at h
  .rename_i k t h1 h2;cases h;cases vs with
   |nil=>cases hl
   |cons v vs=>
    refine⟨_,_,rfl,?_,V8 h2 (by simpa using hl)⟩
    cases p<;>first|(cases h1;rfl)|cases h1
  .cases h
theorem an3{K:bw}:mH K (afP K) Oz:=by
 intro Z Θ aj C σ H xs ds res S b e Q q;unfold Oz at e;split at e
 case h_4=>cases e
 .cases e
  obtain⟨v,rfl,bb⟩:=pZ b
  obtain⟨a,vs,rfl,ha,r⟩:=bb.lst
  exact .inl ⟨a,vs,rfl,.inl (cj.of ha),λl hl=>q _ _ (bG.upd hl) (qy S r hl)⟩
 .cases e
  obtain⟨v,rfl,bb⟩:=pZ b
  obtain⟨a,vs,rfl,ha,r⟩:=bb.tup
  exact .inl ⟨a,vs,rfl,.inr (dg.of ha),λl hl=>q _ _ (bG.upd hl) (qy S r hl)⟩
 .split at e
  case isFalse=>cases e
  rename_i aC hs;cases e
  obtain⟨v,rfl,bb⟩:=pZ b
  obtain⟨a,vs,rfl,da,r⟩:=bb.dct
  rcases da with⟨ks,h1,ha⟩|⟨ks,⟨ne,h2⟩,ha⟩
  .exact .inr ⟨a,_,rfl,Zh ha,λl hl=>q _ _ (bG.upd hl) (qy S (V8 h1 (by rw[xY h1,Ft r])) hl)⟩
  .obtain⟨ks',h1⟩:=zm.mp hs
   exact absurd (zK h1 h2) ne
def OD:List aB->Option Vl
 |[.dict []]=>ao
 |[.dict ((k,v)::r)]=>match tL k with
  |some (b::sh)=>if r.length<63/\(((k,v)::r).all λp=>decide (tL p.1=aa (b::sh)))=aq then aa (.ow (.list (qM (((k,v)::r).map (·.1))))) else ao
  |_=>ao
 |_=>ao
theorem acS:∀{aC:List (aB×aB)}{ks:List (List Key)},dO lE aC=aa ks->(∀p∈aC,tL p.1=aa sh)->aC.map (·.1)=ks.map (λk=>.tuple (k.map oY))/\∀k∈ks,k.map cA=sh
 |[],ks,h,_=>by cases h;exact⟨rfl,λ_ m=>(nomatch m)⟩
 |(p,d)::aC,ks,h,hs=>by
  unfold dO at h;split at h
  .rename_i k t h1 h2;cases h
   obtain⟨g1,g2⟩:=acS h2 λq m=>hs q (fQ _ m)
   have hp:=hs (p,d) eV
   obtain⟨xs,rfl,hx⟩:∃xs,p=.tuple xs/\keysOf xs=aa k:=by
    have h1':lE p=aa k:=h1;cases p with
    |tuple xs=>exact⟨xs,rfl,h1'⟩
    |_=>cases h1'
   have hp:(keysOf xs).map (λks=>ks.map cA)=aa sh:=hp;rw[hx] at hp
   refine⟨by rw[dU,g1,NQ hx];rfl,λk' m=>?_⟩
   rcases cg.mp m with rfl|m
   .exact jj hp
   .exact g2 k' m
  .cases h
theorem an4{K:bw}:mH K (λxs H Q=>∃(d:aH)(aC:List (List Key×V))(b:Bool)(sh:List Bool),xs=[.ref d]/\Dm H d aC/\aC.length<64/\(∀kv∈aC,kv.1.map cA=b::sh)/\
  ∀(l:aH)(aM:List Row),H l=ao->(aM.map (·.2)).Perm (aC.map (·.1))->aM.map (·.2)=pM (aC.map (·.1))->(∀r∈aM,H r.1=aa (.tup (r.2.map kV)))->Q (.ref l) (upd H l (.lst (aM.map λr=>V.ref r.1)))) OD:=by
 intro Z Θ aj C σ H xs ds res S b e Q q;unfold OD at e;split at e
 .cases e
 .rename_i k0 v0 r0;split at e
  case h_2=>cases e
  rename_i b0 sh hsh;split at e
  case isFalse=>cases e
  rename_i hall;cases e;have hall':∀p∈(k0,v0)::r0,tL p.1=aa (b0::sh):=λd m=>of_decide_eq_true (lB.mp hall.2 d m)
  obtain⟨v,rfl,bb⟩:=pZ b
  obtain⟨a,vs,rfl,da,r⟩:=bb.dct
  rcases da with⟨ks,h1,ha⟩|⟨ks,⟨ne,h2⟩,ha⟩
  .exfalso;unfold dO at h1;split at h1
   .rename_i k' t g1 g2;have g1:f9 k0=aa k':=g1;cases k0<;>first|cases g1|skip
    all_goals cases hsh
   .cases h1
  .obtain⟨e1,e2⟩:=acS h2 hall'
   have lk:=xY h2;have lr:=Ft r;have ez:(ks.zip vs).map (·.1)=ks:=by
    rw[List.map_fst_zip];rw[lk,lr];exact bU _
   refine⟨a,ks.zip vs,b0,sh,rfl,rdT ha,?_,λkv m=>e2 kv.1 (RQ (a:=kv.1) (b:=kv.2) m).1,λl aM hn p hp hr=>?_⟩
   .rw[Lj,lk,lr,fY];lia
   .rw[ez] at hp;have ek:(((k0,v0)::r0).map (·.1)).map yC=ks:=by
     rw[e1,fj]
     refine(vO λk _=>?_).trans (Mt ks)
     show(keysOf (k.map oY)).getD []=k
     rw[NZ];rfl
    have es:(aM.map λr=>HH (r.2.map oY))=qM (((k0,v0)::r0).map (·.1)):=by
     unfold qM;rw[ek,<-hp,fj];rfl
    rw[<-es] at q;exact q _ _ (bG.upd hn) (qy S (V5 λr m=>Jq S (hr r m)) hn)
 .cases e
theorem Xy{K:bw}(h:mH K r op)(h':mH K r' op'):mH K (λxs H Q=>r xs H Q\/r' xs H Q) (λds=>match op ds with|some z=>aa z|none=>op' ds):=by
 intro Z Θ aj C σ H xs ds res S b e Q q;cases h1:op ds with
 |some z=>
  simp only[h1] at e;cases e;exact .inl (h Z Θ aj C σ H xs ds _ S b h1 Q q)
 |none=>
  simp only[h1] at e;exact .inr (h' Z Θ aj C σ H xs ds res S b e Q q)
end
noncomputable def mU:List aB->List aB->List aB
 |x::xs,y::ys=>.tuple [x,y]::mU xs ys
 |_,_=>[]
theorem W3:∀{xs ys:List aB}{i:Nat}{d:aB},(mU xs ys)[i]?=aa d->∃x y,xs[i]?=aa x/\ys[i]?=aa y/\d=.tuple [x,y]
 |[],_,i,d,h=>by simp[mU] at h
 |_::_,[],i,d,h=>by simp[mU] at h
 |x::xs,y::ys,0,d,h=>by
  simp[mU] at h
  exact⟨x,y,rfl,rfl,h.symm⟩
 |x::xs,y::ys,i+1,d,h=>by
  obtain⟨a,b,h1,h2,h3⟩:=W3 (i:=i) (by simpa[mU] using h)
  exact⟨a,b,by simpa using h1,by simpa using h2,h3⟩
theorem V9:∀{xs ys:List aB},(mU xs ys).length=min xs.length ys.length
 |[],_=>by simp[mU]
 |_::_,[]=>by simp[mU]
 |x::xs,y::ys=>by simp[mU,V9,Nat.succ_min_succ]
theorem aq8{K:bw}{H:Hp}{a b:aH}{vs ws:List V}(ha:er T H a=aa (.lst vs))(hb:er T H b=aa (.lst ws))(r1:cM (er P H) ds vs)(r2:cM (er P H) es ws):yM P T H (Zc K a b) (mU ds es):=λi H2 P2 s1 s2 n=>by
 have h2:cj K H2 a vs:=cj.of (jt (s2 _ _ ha));have h3:cj K H2 b ws:=cj.of (jt (s2 _ _ hb))
 refine⟨λd hd=>?_,λhi=>⟨vs,ws,h2,h3,by rw[hi,V9,jU r1,jU r2]⟩⟩
 obtain⟨x,y,e1,e2,rfl⟩:=W3 hd
 obtain⟨v,ev,rv⟩:=uv r1 e1
 obtain⟨w,ew,rw'⟩:=uv r2 e2
 refine⟨⟨vs,ws,h2,h3,?_⟩,λz H3 yl=>?_⟩
 .have l1:=(jZ.mp ev).1;have l2:=(jZ.mp ew).1;lia
 .obtain⟨p,v',w',hp,rfl,rfl,hh⟩:=yl
  obtain⟨g1,g2⟩:=hh vs ws h2 h3
  rw[ev] at g1;rw[ew] at g2;cases g1;cases g2;have sp:cO H2 (upd H2 p (.tup [v,w])):=cO.upd hp
  refine⟨sp,p,[v,w],rfl,?_,v,[w],rfl,rv.same (s1.trans (Oj sp)),w,[],rfl,rw'.same (s1.trans (Oj sp)),rfl⟩
  unfold er;rw[bB (λm=>n p m hp),gV]
section
variable{X:Cx}{tg e:Expr}
def YD:aB->Option (List aB)
 |.list ds=>aa ds
 |.tuple ds=>aa ds
 |_=>ao
def qR(f:FB):FI:=λaj C=>match f aj C with
 |some (d,e1,C1)=>match YD d with
  |some aK=>aa (aK,e1,C1)
  |none=>ao
 |none=>ao
def G3(f:FE):FI:=λaj C=>match f aj C with
 |some (r,e1,C1)=>match still r with
  |.im d=>match YD d with
   |some aK=>aa (aK,e1,C1)
   |none=>ao
  |_=>ao
 |none=>ao
theorem uC(h:PE X e (fK X.K f)):PI X tg e (tI X.K aq (qR f)):=((Oe h).or (Pa h)).weak λσ H R aY=>by
 obtain⟨Z,Θ,aj,C,aK,aW,C',S,hf,q⟩:=aY
 unfold qR at hf;split at hf
 .rename_i d e1 C1 h1;split at hf
  .rename_i ys hi;cases hf;cases d<;>first|cases hi|skip
   .refine .inl ⟨Z,Θ,aj,C,_,aW,C',S,h1,λv H1 k f S1 b=>?_⟩
    obtain⟨a,vs,rfl,ha,r⟩:=b
    exact⟨a,rfl,⟨vs,cj.of (jt ha)⟩,q _ H1 k f S1 (Ow ha r)⟩
   .refine .inr ⟨Z,Θ,aj,C,_,aW,C',S,h1,λv H1 k f S1 b=>?_⟩
    obtain⟨a,vs,rfl,ha,r⟩:=b
    exact⟨a,rfl,⟨vs,dg.of (jt ha)⟩,q _ H1 k f S1 (Pn ha r)⟩
  .cases hf
 .cases hf
theorem Yg(h:PE X e (tE X.K f)):PI X tg e (tI X.K aA (G3 f)):=((Oe h).or (Pa h)).weak λσ H R aY=>by
 obtain⟨Z,Θ,aj,C,aK,aW,C',S,hf,q⟩:=aY
 unfold G3 at hf;split at hf
 .rename_i r e1 C1 h1;split at hf
  .rename_i d hd;split at hf
   .rename_i ys hi;cases hf;cases d<;>first|cases hi|skip
    .refine .inl ⟨Z,Θ,aj,C,_,aW,C',S,h1,λv H1 k f R=>?_⟩
     obtain⟨S1,a,vs,rfl,ha,r⟩:=R.vm hd
     exact⟨a,rfl,⟨vs,cj.of (jt ha)⟩,q _ H1 k f S1 (Ow ha r)⟩
    .refine .inr ⟨Z,Θ,aj,C,_,aW,C',S,h1,λv H1 k f R=>?_⟩
     obtain⟨S1,a,vs,rfl,ha,r⟩:=R.vm hd
     exact⟨a,rfl,⟨vs,dg.of (jt ha)⟩,q _ H1 k f S1 (Pn ha r)⟩
   .cases hf
  .cases hf
 .cases hf
theorem ajz(hc:X.calm=aq):jm X (.builtin "sorted") (λxs H Q=>∃d:aH,xs=[.ref d]/\(∃ep,H d=aa (.dK [] ep))/\∀l,H l=ao->Q (.ref l) (upd H l (.lst []))):=by
 intro au s σ H xs us Q I r h
 obtain⟨d,rfl,⟨ep,hd⟩,q⟩:=h
 refine b7 (aaS hc au s σ (upd H d (.dT [] ep)) [.ref d] us (λv H'=>∃l,v=.ref l/\H l=ao/\H'=upd (upd H d (.dT [] ep)) l (.lst [])) (I.Ka hd) r ⟨d,[],aq,[],rfl,⟨ep,.inl gV⟩,bA,(λ_ m=>nomatch m),λl aM hl p _ _=>?_⟩) λu s' ⟨v,H',I',rv,l,ev,hl,eH⟩=>?_
 .have:aM=[]:=by
   cases aM with
   |nil=>rfl
   |cons _ _=>exact absurd p.length_eq bF
  subst this
  refine⟨l,rfl,?_,rfl⟩
  by_cases z:l=d
  .subst z;rw[gV] at hl;cases hl
  .rw[fD z] at hl;exact hl
 .subst ev eH;have nd:d≠l:=ue hd hl;have e:upd (upd H d (.dT [] ep)) l (.lst [])=upd (upd H l (.lst [])) d (.dT [] ep):=by
   funext b;by_cases h1:b=l
   .subst h1;rw[gV,fD (kJ nd),gV]
   .rw[fD h1];by_cases h2:b=d
    .subst h2;rw[gV,gV]
    .rw[fD h2,fD h2,fD h1]
  rw[e] at I'
  exact⟨.ref l,_,I'.QZ (by rw[fD nd];exact hd),rv,q l hl⟩
def W4:List aB->Option Vl
 |[.dict []]=>aa (.ow (.list []))
 |_=>ao
theorem an5{K:bw}:mH K (λxs H Q=>∃d:aH,xs=[.ref d]/\(∃ep,H d=aa (.dK [] ep))/\∀l,H l=ao->Q (.ref l) (upd H l (.lst []))) W4:=by
 intro Z Θ aj C σ H xs ds res S b e Q q;unfold W4 at e;split at e
 case h_2=>cases e
 cases e
 obtain⟨v,rfl,bb⟩:=pZ b
 obtain⟨a,vs,rfl,da,r⟩:=bb.dct
 rcases da with⟨ks,h1,ha⟩|⟨ks,⟨ne,_⟩,_⟩
 .cases h1
  exact⟨a,rfl,ha,λl hl=>q _ _ (bG.upd hl) (qy S rfl hl)⟩
 .exact absurd rfl ne
def oO(ds:List aB):Option Vl:=match zM ds with
 |some z=>aa z
 |none=>match OD ds with
  |some z=>aa z
  |none=>W4 ds
abbrev Py(K:bw):List V->Hp->VK->Prop:=λxs H Q=>Xw K xs H Q\/((∃(d:aH)(aC:List (List Key×V))(b:Bool)(sh:List Bool),xs=[.ref d]/\Dm H d aC/\aC.length<64/\(∀kv∈aC,kv.1.map cA=b::sh)/\
  ∀(l:aH)(aM:List Row),H l=ao->(aM.map (·.2)).Perm (aC.map (·.1))->aM.map (·.2)=pM (aC.map (·.1))->(∀r∈aM,H r.1=aa (.tup (r.2.map kV)))->Q (.ref l) (upd H l (.lst (aM.map λr=>V.ref r.1))))\/∃d:aH,xs=[.ref d]/\(∃ep,H d=aa (.dK [] ep))/\∀l,H l=ao->Q (.ref l) (upd H l (.lst [])))
theorem Ek(hc:X.calm=aq):jm X (.builtin "sorted") (Py X.K):=aly.or ((aaS hc).or (ajz hc))
theorem Ez{K:bw}:mH K (Py K) oO:=Xy amC (Xy an4 an5)
end
def Yh:FN:=λ_ _=>ao
theorem apv{P:fV}{w:dD}{K:bw}{base:cu}{f:aH}{ps:List Str}:fX P w K mg base gb 0 f fd ps (spT K Yh):=by
 have no:∀vs H Q E,¬spT K Yh vs H Q E:=λvs H Q E ⟨_,_,_,_,_,_,_,_,h,_⟩=>nomatch h
 exact⟨λ_ _ _ _ h=>(no _ _ _ _ h).elim,λ_ _ _ _ _ _ _ _ _ _ _ _ _ h=>(no _ _ _ _ h).elim⟩
def vC(i:Nat)(f:FB):FE:=λaj C=>match aj[i]? with
 |some (some (.ce n))=>match f aj C with
  |some (.int k,_,C1)=>match C1[n]? with
   |some ns=>match gF ns k with
    |some z=>aa (.im (.int z),aj,C1)
    |none=>ao
   |none=>ao
  |_=>ao
 |_=>ao
theorem Cu(ho:PE X o (uD i))(hk:PE X k (fK X.K f))(hs:Jc k):PE X (.Subscript o k pos) (tE X.K (vC i f)):=(X7 WD ho hk hs).weak λσ H Q aY=>by
 obtain⟨Z,Θ,aj,C,r,aW,C',S,hf,q⟩:=aY
 unfold vC at hf;split at hf
 case h_2=>cases hf
 rename_i n h0;split at hf
 case h_2=>cases hf
 rename_i z e1 C1 h1;split at hf
 case h_2=>cases hf
 rename_i ns hns;split at hf
 case h_2=>cases hf
 rename_i y hy;cases hf
 obtain⟨v,ev,a,rfl,hth⟩:=S.slot i _ h0
 refine⟨_,ev,Z,Θ,aj,C,_,e1,C',S,h1,λw H1 k1 f1 S1 b1=>?_⟩
 have S2:=S.go k1 S1.cell;have ha:=S1.cell.at_ n a ns hth hns
 refine⟨a,_,z,.int y,rfl,b1,cj.of ha,?_,q _ H1 k1 (Fz.refl _) ⟨S2,rfl⟩⟩
 unfold gF at hy⊢;rw[bD];cases hj:qP ns.length z with
 |none=>rw[hj] at hy;cases hy
 |some j=>
  rw[hj] at hy
  show(ns.map V.int)[j]?=_
  rw[jC,show ns[j]?=aa y from hy];rfl
theorem Pz{C:Ce}(h:C[b]?=aa l):(C.set b l')[b]?=aa l':=by
 rw[Rw,bC rfl,bC (jZ.mp h).1]
theorem adP{C C':Ce}(h:C'.length=C.length):C'.take C.length=C':=Rm az
theorem mul_eq(h:(-18446744073709551616<i/\i<18446744073709551616)\/(-18446744073709551616<j/\j<18446744073709551616)):pX (.int i) (.int j)=aa (.im (.int (i*j))):=by
 unfold pX;exact bC h
theorem pow_eq(h0:0<=j)(h1:j<=1000000)(h2:i.natAbs<2^64):tG (.int i) (.int j)=aa (.im (.int (i^j.toNat))):=by
 unfold tG;exact bC ⟨h0,h1,h2⟩
theorem mod_eq(h:0<j):uy (.int i) (.int j)=aa (.im (.int (i%j))):=by
 unfold uy;exact bC h
theorem fdiv_eq(h:0<j)(h1:j<1073741824):FZ (.int i) (.int j)=aa (.im (.int (i / j))):=by
 unfold FZ;exact bC ⟨h,h1⟩
theorem adQ(I:Nat->En->Ce->Prop):∀{aK:List aB}{aj:En}{C:Ce}{k:Nat},I k aj C->
  (∀i d aj C,aK[i]?=aa d->I (k+i) aj C->∃e1 fl aW C',g d aj=aa e1/\body e1 C=aa (fl,aW,C')/\(fl=.nx\/fl=.ct)/\I (k+i+1) aW C')->
  ∃aW C',jW g body aK aj C=aa (.nx,aW,C')/\I (k+aK.length) aW C'
 |[],aj,C,k,h,_=>⟨aj,C,rfl,h⟩
 |d::r,aj,C,k,h,st=>by
  obtain⟨e1,fl,atq,C1,h1,h2,h3,h4⟩:=st 0 d aj C rfl h
  obtain⟨atr,C2,h5,h6⟩:=adQ I (aK:=r) (aj:=atq) (C:=C1) (k:=k+1) h4 λi d' aj C hd hi=>by
   have:=st (i+1) d' aj C (by simpa using hd) (by rw[show k+(i+1)=k+1+i by lia];exact hi);rw[show k+(i+1)+1=k+1+i+1 by lia] at this;exact this
  refine⟨atr,C2,?_,by rw[fY,show k+(r.length+1)=k+1+r.length by lia];exact h6⟩
  unfold jW;rw[h1];simp only;rw[h2];rcases h3 with rfl|rfl<;>exact h5
theorem uV(I:Nat->En->Ce->Prop)(h:I 0 aj C)
  (st:∀i d aj C,aK[i]?=aa d->I i aj C->∃e1 fl aW C',g d aj=aa e1/\body e1 C=aa (fl,aW,C')/\(fl=.nx\/fl=.ct)/\I (i+1) aW C'):
  ∃aW C',jW g body aK aj C=aa (.nx,aW,C')/\I aK.length aW C':=by
 have:=adQ I (k:=0) h λi d aj C hd hi=>by
  rw[Ml] at hi⊢;exact st i d aj C hd hi
 rw[Ml] at this;exact this
theorem zN(lo:Int)(n:Nat):(kZ lo n).length=n:=by unfold kZ;rw[bD,oK]
theorem zV{lo:Int}(h:(kZ lo n)[i]?=aa d):d=.int (lo+i)/\i<n:=by
 unfold kZ at h;rw[jC] at h;by_cases hi:i<n
 .rw[aiq hi] at h
  exact⟨(jj h).symm,hi⟩
 .rw[KQ (by rw[oK];lia)] at h;cases h
theorem UG(p:aB->Bool)(g:aB->aB):∀{aK:List aB},(∀d∈aK,∃ts,uJ T d=aa ts/\ft (cI ts++fs) C=aa (p d,C)/\(p d=aq->∃x e,fe (cI ts++fs) C=aa (x,e,C)/\still x=.im (g d)))->
  dM T ft fe fs aK C=aa ((aK.filter p).map g,C)
 |[],_=>rfl
 |d::r,h=>by
  obtain⟨ts,h1,h2,h3⟩:=h d eV
  have ih:=UG p g (aK:=r) λd m=>h d (fQ _ m)
  unfold dM;simp only[h1];rw[h2];cases hp:p d with
  |true=>
   obtain⟨x,e,h4,h5⟩:=h3 hp
   simp only[h4,h5,ih,Lh,hp,if_true,dU]
  |false=>
   simp only[ih,Lh,hp];rfl
theorem Nf(I:Nat->Ce->Prop)(R:Nat->aB->Prop):∀{aK:List aB}{C:Ce}{k:Nat},I k C->(∀i d C,aK[i]?=aa d->I (k+i) C->∃ts x e C' y,uJ T d=aa ts/\fe (cI ts++fs) C=aa (x,e,C')/\still x=.im y/\R (k+i) y/\I (k+i+1) C')->
  ∃ys C',dM T cz fe fs aK C=aa (ys,C')/\I (k+aK.length) C'/\ys.length=aK.length/\∀i y,ys[i]?=aa y->R (k+i) y
 |[],C,k,h,_=>⟨[],C,rfl,h,rfl,λi y e=>by simp at e⟩
 |d::r,C,k,h,st=>by
  obtain⟨ts,x,e,C1,y,h1,h2,h3,h4,h5⟩:=st 0 d C rfl h
  obtain⟨ys,C2,h6,h7,h8,h9⟩:=Nf I R (aK:=r) (C:=C1) (k:=k+1) h5 λi d' C hd hi=>by
   have:=st (i+1) d' C (by simpa using hd) (by rw[show k+(i+1)=k+1+i by lia];exact hi);rw[show k+(i+1)+1=k+1+i+1 by lia,show k+(i+1)=k+1+i by lia] at this;exact this
  refine⟨y::ys,C2,?_,by rw[fY,show k+(r.length+1)=k+1+r.length by lia];exact h7,by simp[h8],λi z hz=>?_⟩
  .unfold dM;simp only[h1,cz,h2,h3];rw[h6]
  .cases i with
   |zero=>simp at hz;subst hz;exact h4
   |succ i=>
    have:=h9 i z (by simpa using hz);rw[show k+(i+1)=k+1+i by lia];exact this
theorem aq9(h:f aj C=aa (r,e1,C1))(h2:dat r=aa d):aG f aj C=aa (d,e1,C1):=by
 unfold aG;simp only[h,h2,lC]
theorem ara(h1:fa aj C=aa (x,e1,C1))(h2:fb e1 C1=aa (y,e2,C2))(h3:op x y=aa r):aV op fa fb aj C=aa (r,rst r aj e2,C2):=by
 unfold aV;simp only[h1,h2,h3]
theorem Xz(h0:0<=k)(h1:k<xs.length):∃x,gF xs k=aa x/\xs[k.toNat]?=aa x:=by
 have hk:k.toNat<xs.length:=az
 refine⟨xs[k.toNat],?_,fU hk⟩
 unfold gF qP;rw[bC h0,bC h1];exact fU hk
def Kf(z:Str):Bool:=z.cps.toList.all λc=>decide (97<=c)&&decide (c<=122)
def nameB(z:Str):Bool:=decide (1<=z.length)&&decide (z.length<=8)&&Kf z
abbrev abc:Str:=bI "abcdefghijklmnopqrstuvwxyz"
theorem arb(r0:0<=r)(r1:r<26):gF abc.cps.toList r=aa (97+r.toNat):=by
 have h:∀k:Nat,k<26->gF abc.cps.toList (k:Int)=aa (97+k):=bL;have:=h r.toNat az
 rwa [aac r0] at this
theorem acf:∀(l:List Nat)(a:Array Nat),((l.map λc=>(⟨#[c]⟩:Str)).foldl (λbJ p=>bJ++(bI "").cps++p.cps) a).toList=a.toList++l
 |[],a=>by simp
 |c::r,a=>by
  simp only[dU,vV];rw[acf r];have e:(bI "").cps=#[]:=bL;rw[e];simp
theorem alA:∀(l:List Nat),(Txt.join (bI "") (l.map λc=>(⟨#[c]⟩:Str))).cps.toList=l
 |[]=>by decide +kernel
 |c::r=>by
  show(((r.map λc=>(⟨#[c]⟩:Str))).foldl (λbJ p=>bJ++(bI "").cps++p.cps) #[c]).toList=c::r
  rw[acf r];rfl
theorem aeU:∀ys:List Nat,(ys.map ((λx:Str=>x.length) ∘ λc=>(⟨#[c]⟩:Str))).sum=ys.length
 |[]=>rfl
 |c::r=>by
  rw[dU,ajV,aeU r,fY];show 1+r.length=r.length+1;lia
theorem amD{l:List Nat}(h1:1<=l.length)(h2:l.length<=8)(h3:∀c∈l,97<=c/\c<=122):nameB (Txt.join (bI "") (l.map λc=>(⟨#[c]⟩:Str)))=aq:=by
 have e:=alA l;have e2:(Txt.join (bI "") (l.map λc=>(⟨#[c]⟩:Str))).length=l.length:=by
  show(Txt.join (bI "") (l.map λc=>(⟨#[c]⟩:Str))).cps.size=_
  rw[show l.length=(Txt.join (bI "") (l.map λc=>(⟨#[c]⟩:Str))).cps.toList.length from congrArg vY e.symm];simp
 unfold nameB Kf;rw[e,e2];simp only[j0,decide_eq_true_eq,lB]
 exact⟨⟨h1,h2⟩,h3⟩
theorem agU(n:Nat):(KH ao (aa 7) 1 n).length<=7:=by
 unfold KH sliceRange;simp only[show(1:Int)>0 by decide,if_true,bD,oK];split<;>(try split)<;>(try split)<;>(try simp only[aka])<;>lia
theorem Wa(z:Str):(Txt.slice z ao (aa 7)).length<=7:=by
 unfold Txt.slice;split
 .rename_i h;have h2:(KH ao (aa 7) 1 z.length).length=z.length:=by simpa using h
  have:=agU z.length;lia
 .show(((KH ao (aa 7) 1 z.length).filterMap (z.cps[·]?)).toArray).size<=7
  rw[gK];exact kI (List.length_filterMap_le _ _) (agU _)
theorem apw(hc:c∈(Txt.slice z l u).cps.toList):c∈z.cps.toList:=by
 unfold Txt.slice at hc;split at hc
 .exact hc
 .have hc':c∈((KH l u 1 z.length).filterMap (z.cps[·]?)):=by simpa using hc
  obtain⟨i,_,e⟩:=aae.mp hc'
  have:=Array.mem_of_getElem? e;simpa using this
def oW(z:Str)(k:Nat):Str:=Txt.slice z ao (aa 7)++(⟨#[97+k]⟩:Str)
theorem Vk(z:Str)(k:Nat):(oW z k).cps.toList=(Txt.slice z ao (aa 7)).cps.toList++[97+k]:=by
 show((Txt.slice z ao (aa 7)).cps++#[97+k]).toList=_
 simp
theorem acT(h:nameB z=aq)(hk:k<26):nameB (oW z k)=aq:=by
 have hl:(oW z k).length=(Txt.slice z ao (aa 7)).length+1:=by
  show((Txt.slice z ao (aa 7)).cps++#[97+k]).size=_
  rw[Array.size_append];rfl
 have:=Wa z;unfold nameB Kf at h⊢;simp only[j0,decide_eq_true_eq,lB] at h⊢
 refine⟨⟨az,az⟩,λc hc=>?_⟩
 rw[Vk] at hc;rcases eO.mp hc with hc|hc
 .exact h.2 c (apw hc)
 .rw[gU.mp hc];lia
theorem an6(h:oW z i=oW z j):i=j:=by
 have e:(oW z i).cps.toList=(oW z j).cps.toList:=by rw[h]
 rw[Vk,Vk] at e;have:=List.append_cancel_left e;simp at this;exact this
theorem Wb[DecidableEq α]:∀{l m:List α},l.Nodup->(∀x∈l,x∈m)->l.length<=m.length
 |[],_,_,_=>j5 _
 |a::l,m,hn,hs=>by
  have hn':=mK.mp hn;have ha:=hs a eV;have ih:=Wb (m:=m.erase a) hn'.2 λx hx=>(aik (λ(e:x=a)=>hn'.1 (by rw[<-e];exact hx))).mpr (hs x (fQ _ hx))
  rw[List.length_erase_of_mem ha] at ih;have:0<m.length:=ah3 ha;rw[fY];lia
theorem an7(z:Str){zs:List Str}(h:zs.length<26):∃k,k<26/\oW z k∉zs:=by
 by_cases hx:∃k,k<26/\oW z k∉zs
 .exact hx
 .have all:∀x∈(dh 26).map (oW z),x∈zs:=λx hm=>by
   obtain⟨k,hk,rfl⟩:=cY.mp hm
   by_cases hm2:oW z k∈zs
   .exact hm2
   .exact absurd ⟨k,qZ.mp hk,hm2⟩ hx
  have nd:((dh 26).map (oW z)).Nodup:=by
   rw[acg,tZ];exact aaw (λ{a b} hab e=>hab (an6 e)) (aaK (n:=26))
  have:=Wb nd all;simp at this;lia
def Names(zs:List Str):Prop:=zs.Nodup/\∀z∈zs,nameB z=aq
theorem adR(z:Str)(zs:List Str):inD (.str z) (zs.map .str)=decide (z∈zs):=by
 unfold inD;rw[uP,abC];simp[aaL,vD,toV]
theorem Wc(h:nameB z=aq):1<=z.length/\z.length<=8/\∀c∈z.cps.toList,97<=c/\c<=122:=by
 unfold nameB Kf at h;simp only[j0,decide_eq_true_eq,lB] at h
 exact⟨h.1.1,h.1.2,h.2⟩
def Asc(z:Str):Prop:=∀c∈z.cps.toList,c<128
def zc(n:Nat)(z:Str):Prop:=Asc z/\z.length<=n
theorem zc.name(h:nameB z=aq):zc 8 z:=by
 unfold nameB Kf at h;simp only[j0,decide_eq_true_eq,lB] at h
 exact⟨λc hc=>by have:=h.2 c hc;lia,h.1.2⟩
def jV(zs:List Str)(ps:List (Str×Str)):Prop:=∀(i:Nat)(x:Str×Str),ps[i]?=aa x->zs[i]?=aa x.1/\(x.2=bI ""\/∃j,j<i/\zs[j]?=aa x.2)
def jb(ps:List (Str×Str))(z:Str):Option Str:=(ps.find? λp=>decide (p.1=z)).map (·.2)
inductive Over(f:Str->Option Str):Str->List Str->Prop
 |stop {z:Str}:f z=ao->Over f z []
 |step {z y:Str} {r:List Str}:f z=aa y->Over f y r->Over f z (z::r)
structure qT(e B:Nat)(d:aB):Prop where
 YF:d.showable=aq
 deep:d.depth<=e
 len:d.shown.length<=B
theorem apx(h0:0<=i)(h1:i<10^12):qT 0 12 (.int i):=by
 refine⟨?_,by simp[Mm],?_⟩
 .have:i.natAbs<2^40:=az;have h2:i.natAbs.log2<1920:=by
   by_cases h:i.natAbs=0
   .rw[h];decide
   .have:=(Nat.log2_lt h).mpr this;lia
  simpa[RV] using h2
 .rw[PyData.shown_int];exact avu h0 bA h1
theorem wH(h:zc 8 z):qT 0 82 (.str z):=by
 refine⟨by simp[RV],by simp[Mm],?_⟩
 rw[PyData.shown_str];refine kI (StrLaws.reprText_len z λc hc=>pQ (h.1 c hc) bA) ?_;have:=h.2;lia
theorem aeV:∀{ds:List aB},(∀d∈ds,qT e B d)->aai ds=aq/\Bb ds<=e/\((Ln ds).map (·.length)).sum<=ds.length*B
 |[],_=>⟨by simp[aai],by simp[Bb],by simp[Ln]⟩
 |d::ds,h=>by
  obtain⟨h1,h2,h3⟩:=aeV λx hx=>h x (fQ _ hx)
  have g:=h d eV
  refine⟨by simp[aai,g.YF,h1],?_,?_⟩
  .simp only[Bb];have:=g.deep;lia
  .simp only[Ln,dU,ajV,fY];have:=g.len;rw[akf];lia
theorem u9(h:∀d∈ds,qT e B d)(hc:ds.length<=C):qT (e+1) (C*(B+2)+3) (.tuple ds):=by
 obtain⟨h1,h2,h3⟩:=aeV h
 refine⟨by simpa[RV] using h1,by simp[Mm];lia,?_⟩
 simp only[HF];have:=tupleText_len_le (Ln ds);have hl:(Ln ds).length=ds.length:=PyData.shownAll_length ds;rw[hl] at this;have hm:ds.length*B<=C*B:=Nat.mul_le_mul_right B hc;rw[Nat.mul_add];lia
theorem qT.mono(h:qT e B d)(he:e<=e')(hB:B<=B'):qT e' B' d:=⟨h.YF,kI h.deep he,kI h.len hB⟩
abbrev fZ:=Int×Str×Int×Str×Int×Int
abbrev j8:=Int×Str×Str×Str×Int×Int×Int
abbrev nR:=Int×Str
abbrev cR:=Str×Int×List nR
def bV(r:fZ):aB:=.tuple [.int r.1,.str r.2.1,.int r.2.2.1,.str r.2.2.2.1,.int r.2.2.2.2.1,.int r.2.2.2.2.2]
def cX(r:j8):aB:=.tuple [.int r.1,.str r.2.1,.str r.2.2.1,.str r.2.2.2.1,.int r.2.2.2.2.1,.int r.2.2.2.2.2.1,.int r.2.2.2.2.2.2]
def gA(s:nR):aB:=.tuple [.int s.1,.str s.2]
def fJ(ss:List nR):aB:=.tuple (ss.map gA)
def bR(r:cR):aB:=.tuple [.str r.1,.int r.2.1,fJ r.2.2]
def bZ(p:Str×Str):aB:=.tuple [.str p.1,.str p.2]
structure mO where
 ps:List (Str×Str)
 ranks:List fZ
 leaves:List j8
 rules:List cR
def eE(h:mO):aB:=.tuple [.tuple (h.ps.map bZ),.tuple (h.ranks.map bV),.tuple (h.leaves.map cX),.tuple (h.rules.map bR)]
structure mD(zs own:List Str)(r:fZ):Prop where
 num:0<=r.1/\r.1<=2000
 who:r.2.1∈zs
 rank:1<=r.2.2.1/\r.2.2.1<=9
 part:r.2.2.2.1∈own
 days:0<=r.2.2.2.2.1/\r.2.2.2.2.1<=r.2.2.2.2.2/\r.2.2.2.2.2<=99999
structure mC(zs own:List Str)(r:j8):Prop where
 num:0<=r.1/\r.1<=2000
 giver:r.2.1∈zs
 taker:r.2.2.1∈zs
 ne:r.2.1≠r.2.2.1
 part:r.2.2.2.1∈own
 days:0<=r.2.2.2.2.1/\r.2.2.2.2.1<=r.2.2.2.2.2.1/\r.2.2.2.2.2.1<=99999
 most:0<=r.2.2.2.2.2.2/\r.2.2.2.2.2.2<=1000000000
def PB(own:List Str)(s:nR):Prop:=1<=s.1/\s.1<=9/\(s.2=bI ""\/s.2∈own)
structure nJ(own:List Str)(r:cR):Prop where
 part:r.1∈own
 sum:0<=r.2.1/\r.2.1<=1000000000
 many:r.2.2.length<=6
 seats:∀s∈r.2.2,PB own s
structure uX(zs:List Str)(ps:List (Str×Str))(h:mO):Prop where
 parts:h.ps.Perm ps
 p8:ps.length<=8
 r20:h.ranks.length<=20
 jq:h.leaves.length<=16
 iK:h.rules.length<=10
 ranks:∀r∈h.ranks,mD zs (ps.map (·.1)) r
 Ds:(h.ranks.map (·.1)).Pairwise (·<·)
 leaves:∀r∈h.leaves,mC zs (ps.map (·.1)) r
 lnd:(h.leaves.map (·.1)).Nodup
 rules:∀r∈h.rules,nJ (ps.map (·.1)) r
 unlike:(h.rules.map λr=>(r.1,r.2.1)).Nodup
theorem agn:zc 8 (bI ""):=by
 have e:(bI "").cps.toList=[]:=bL
 refine⟨λc hc=>?_,bL⟩
 rw[e] at hc;exact absurd hc bF
theorem amE(hz:∀z∈zs,nameB z=aq)(hp:jV zs ps)(g:uX zs ps h):qT 5 200000 (eE h):=by
 have sz:∀z∈zs,zc 8 z:=λz hm=>zc.name (hz z hm)
 have pz:∀x∈ps,zc 8 x.1/\zc 8 x.2:=λx hx=>by
  obtain⟨i,hi,rfl⟩:=tX hx
  obtain⟨e1,e2⟩:=hp i ps[i] (fU hi)
  refine⟨sz _ (lX e1),?_⟩
  rcases e2 with e2|⟨j,_,e2⟩
  .rw[e2];exact agn
  .exact sz _ (lX e2)
 have oz:∀z∈ps.map (·.1),zc 8 z:=λz hm=>by
  obtain⟨x,hx,rfl⟩:=cY.mp hm
  exact(pz x hx).1
 have int':∀{i:Int},0<=i->i<10^12->qT 0 82 (.int i):=λa b=>(apx a b).mono (bU _) bA
 have s1:qT 2 (8*(171+2)+3) (.tuple (h.ps.map bZ)):=by
  refine u9 (e:=1) (B:=171) (λd hd=>?_) (by rw[bD,g.parts.length_eq];exact g.p8)
  obtain⟨x,hx,rfl⟩:=cY.mp hd
  have:=pz x (g.parts.mem_iff.mp hx);refine u9 (e:=0) (B:=82) (C:=2) (λd hd=>?_) (bU _);simp only[cg,kE,or_false] at hd;rcases hd with rfl|rfl
  .exact wH this.1
  .exact wH this.2
 have s2:qT 2 (20*(507+2)+3) (.tuple (h.ranks.map bV)):=by
  refine u9 (e:=1) (B:=507) (λd hd=>?_) (by rw[bD];exact g.r20)
  obtain⟨x,hx,rfl⟩:=cY.mp hd
  have k:=g.ranks x hx;refine u9 (e:=0) (B:=82) (C:=6) (λd hd=>?_) (bU _);have k1:=k.num;have k3:=k.rank;have k5:=k.days;simp only[cg,kE,or_false] at hd;rcases hd with rfl|rfl|rfl|rfl|rfl|rfl
  .exact int' az az
  .exact wH (sz _ k.who)
  .exact int' az az
  .exact wH (oz _ k.part)
  .exact int' az az
  .exact int' az az
 have s3:qT 2 (16*(591+2)+3) (.tuple (h.leaves.map cX)):=by
  refine u9 (e:=1) (B:=591) (λd hd=>?_) (by rw[bD];exact g.jq)
  obtain⟨x,hx,rfl⟩:=cY.mp hd
  have k:=g.leaves x hx;refine u9 (e:=0) (B:=82) (C:=7) (λd hd=>?_) (bU _);have k1:=k.num;have k3:=k.most;have k5:=k.days;simp only[cg,kE,or_false] at hd;rcases hd with rfl|rfl|rfl|rfl|rfl|rfl|rfl
  .exact int' az az
  .exact wH (sz _ k.giver)
  .exact wH (sz _ k.taker)
  .exact wH (oz _ k.part)
  .exact int' az az
  .exact int' az az
  .exact int' az az
 have s4:qT 4 (10*(3132+2)+3) (.tuple (h.rules.map bR)):=by
  refine u9 (e:=3) (B:=3132) (λd hd=>?_) (by rw[bD];exact g.iK)
  obtain⟨x,hx,rfl⟩:=cY.mp hd
  have k:=g.rules x hx;have k2:=k.sum;have st:qT 2 (6*(171+2)+3) (fJ x.2.2):=by
   refine u9 (e:=1) (B:=171) (λd hd=>?_) (by rw[bD];exact k.many)
   obtain⟨y,hy,rfl⟩:=cY.mp hd
   obtain⟨y1,y2,y3⟩:=k.seats y hy
   refine u9 (e:=0) (B:=82) (C:=2) (λd hd=>?_) (bU _);simp only[cg,kE,or_false] at hd;rcases hd with rfl|rfl
   .exact int' az az
   .rcases y3 with y3|y3
    .rw[y3];exact wH agn
    .exact wH (oz _ y3)
  refine(u9 (e:=2) (B:=1041) (C:=3) (ds:=[.str x.1,.int x.2.1,fJ x.2.2]) (λd hd=>?_) (bU _)).mono bA bA
  simp only[cg,kE,or_false] at hd;rcases hd with rfl|rfl|rfl
  .exact(wH (oz _ k.part)).mono bA bA
  .exact(int' az az).mono bA bA
  .exact st.mono bA bA
 refine(u9 (e:=4) (B:=32000) (C:=4) (ds:=[.tuple (h.ps.map bZ),.tuple (h.ranks.map bV),.tuple (h.leaves.map cX),.tuple (h.rules.map bR)]) (λd hd=>?_) (bU _)).mono bA bA
 simp only[cg,kE,or_false] at hd;rcases hd with rfl|rfl|rfl|rfl
 .exact s1.mono bA bA
 .exact s2.mono bA bA
 .exact s3.mono bA bA
 .exact s4.mono bA bA
theorem ach(h:nameB z=aq):Tz z=aq:=by
 unfold Tz;rw[Array.all_eq_true'];intro c hc;have:=(Wc h).2.2 c (by simpa using hc);exact dW az
theorem Wd:∀{zs:List Str},(∀z∈zs,Tz z=aq)->K7 (zs.map gh)=aq/\Bb (zs.map gh)=0/\lF (zs.map gh)=aq
 |[],_=>⟨by simp[K7],by simp[Bb],rfl⟩
 |z::zs,h=>by
  obtain⟨h1,h2,h3⟩:=Wd λx hx=>h x (fQ _ hx)
  refine⟨by simp[K7,ajA,h z eV];simpa using h1,by simp only[dU,Bb,Mm,h2];rfl,?_⟩
  show(aq&&lF (zs.map gh))=aq
  rw[h3];rfl
theorem akV{zs:List Str}(h:∀z∈zs,Tz z=aq):nD (.list (zs.map gh))=aq:=by
 obtain⟨h1,h2,_⟩:=Wd h
 unfold nD;simp only[ajA,h1,Mm,h2];decide
theorem ago(a b:Int):∃lo hi:Int,oO [.list [.int a,.int b]]=aa (.ow (.list [.int lo,.int hi]))/\lo<=hi/\(lo=a\/lo=b)/\(hi=a\/hi=b):=by
 by_cases h:b<a
 .refine⟨b,a,?_,az,.inr rfl,.inl rfl⟩
  have:mQ ltI [a,b]=[b,a]:=by simp[mQ,ins,ltI,h]
  simp[oO,zM,yD,intsOf,this]
 .refine⟨a,b,?_,az,.inl rfl,.inr rfl⟩
  have:mQ ltI [a,b]=[a,b]:=by simp[mQ,ins,ltI,h]
  simp[oO,zM,yD,intsOf,this]
theorem abD:∀{l:List α}{m:List β},m.Perm (l.map f)->∃l':List α,l'.Perm l/\m=l'.map f:=λ{l m} p=>by
 generalize e:l.map f=k at p;induction p generalizing l with
 |nil=>
  cases l with
  |nil=>exact⟨[],xK _,rfl⟩
  |cons _ _=>cases e
 |@cons x m k _ ih=>
  cases l with
  |nil=>cases e
  |cons a l=>
   rw[dU,aaV] at e
   obtain⟨l',p',rfl⟩:=ih e.2
   exact⟨a::l',p'.cons a,by rw[dU,e.1]⟩
 |swap x y m=>
  cases l with
  |nil=>cases e
  |cons a l=>
   cases l with
   |nil=>cases e
   |cons b l=>
    rw[dU,dU,aaV,aaV] at e
    obtain⟨e1,e2,e3⟩:=e
    exact⟨b::a::l,Sv a b l,by rw[dU,dU,e1,e2,e3]⟩
 |trans _ _ ih1 ih2=>
  obtain⟨l2,p2,e2⟩:=ih2 e
  obtain⟨l1,p1,e1⟩:=ih1 e2.symm
  exact⟨l1,p1.trans p2,e1⟩
theorem alB(x:Str×Str)(ps:List (Str×Str))(z:Str):jb (x::ps) z=if x.1=z then aa x.2 else jb ps z:=by
 unfold jb;rw[xJ];by_cases h:x.1=z
 .rw[dW h,bC h];rfl
 .rw[jy h,bB h]
theorem sS:∀{ps:List (Str×Str)}{z w:Str},(ps.map (·.1)).Nodup->(jb ps z=aa w↔(z,w)∈ps)
 |[],z,w,_=>by simp[jb]
 |x::ps,z,w,h=>by
  rw[dU,mK] at h;rw[alB];by_cases hz:x.1=z
  .rw[bC hz,cg];constructor
   .intro e;left;rw[<-hz,<-jj e]
   .rintro(e|e)
    .rw[<-e]
    .exact absurd (cY.mpr ⟨(z,w),e,hz.symm⟩) h.1
  .rw[bB hz,sS h.2,cg];constructor
   .exact .inr
   .rintro(e|e)
    .exact absurd (by rw[<-e]) hz
    .exact e
theorem aci(p:ps'.Perm ps)(h:(ps.map (·.1)).Nodup)(z:Str):jb ps' z=jb ps z:=by
 have h':(ps'.map (·.1)).Nodup:=(p.map (·.1)).nodup_iff.mpr h;cases e:jb ps z with
 |some w=>exact(sS h').mpr (p.mem_iff.mpr ((sS h).mp e))
 |none=>
  cases e':jb ps' z with
  |none=>rfl
  |some w=>
   have:=(sS h).mpr (p.mem_iff.mp ((sS h').mp e'));rw[e] at this;cases this
theorem acj(h:jV zs ps):ps.map (·.1)=zs.take ps.length:=by
 apply aiI;intro i;rw[jC,Ro];cases e:ps[i]? with
 |none=>
  rw[bB (by have:=ZM.mp e;lia)];rfl
 |some x=>
  rw[bC (jZ.mp e).1,(h i x e).1];rfl
theorem vZ(hN:Names zs)(h:jV zs ps):(ps.map (·.1)).Nodup:=by
 rw[acj h];exact hN.1.sublist (Ru _ _)
theorem TF:nameB (bI "")=aA:=bL
theorem MT(hN:Names zs)(h:jV zs ps)(hz:z∈ps.map (·.1)):nameB z=aq:=by
 rw[acj h] at hz;exact hN.2 z (Dw hz)
theorem UJ(hN:Names zs)(h:jV zs ps):jb ps (bI "")=ao:=by
 cases e:jb ps (bI "") with
 |none=>rfl
 |some w=>
  have:=(sS (vZ hN h)).mp e;have:=MT hN h (cY.mpr ⟨_,this,rfl⟩);rw[TF] at this;cases this
def zf(f:Str->Option Str):Nat->Str->List Str
 |0,_=>[]
 |n+1,z=>match f z with
  |none=>[]
  |some y=>z::zf f n y
def up(ps:List (Str×Str))(z:Str):List Str:=zf (jb ps) (ps.length+1) z
theorem N6(h:f z=ao):∀n,zf f n z=[]
 |0=>rfl
 |n+1=>by unfold zf;rw[h]
theorem adS(h:f z=aa y)(n:Nat):zf f (n+1) z=z::zf f n y:=by
 rw[zf,h]
theorem aeW:∀n z,(zf f n z).length<=n
 |0,_=>bU 0
 |n+1,z=>by
  cases h:f z with
  |none=>rw[N6 h];exact j5 _
  |some y=>
   rw[adS h,fY];exact aaF (aeW n y)
theorem aeX(hN:Names zs)(hP:jV zs ps):∀(n i:Nat),i<n->∀x,ps[i]?=aa x->Over (jb ps) x.1 (zf (jb ps) n x.1)
 |0,_,h,_,_=>absurd h (R0 _)
 |n+1,i,h,x,hx=>by
  have e:jb ps x.1=aa x.2:=(sS (vZ hN hP)).mpr (lX hx);rw[adS e];refine .step e ?_
  rcases(hP i x hx).2 with h2|⟨j,hj,h2⟩
  .rw[h2,N6 (UJ hN hP)];exact .stop (UJ hN hP)
  .have hi:=(jZ.mp hx).1;have hjl:j<ps.length:=az;have g:=hP j ps[j] (fU hjl);have e2:ps[j].1=x.2:=by
    have:=g.1;rw[h2] at this
    exact(jj this).symm
   rw[<-e2];exact aeX hN hP n j az ps[j] (fU hjl)
theorem W5(hN:Names zs)(hP:jV zs ps)(z:Str):Over (jb ps) z (up ps z):=by
 unfold up;cases e:jb ps z with
 |none=>
  rw[N6 e];exact .stop e
 |some w=>
  obtain⟨i,hi,hx⟩:=tX ((sS (vZ hN hP)).mp e)
  have:=aeX hN hP (ps.length+1) i az _ (fU hi);rw[hx] at this;exact this
theorem Over.det:∀{z:Str}{a b:List Str},Over f z a->Over f z b->a=b
 |_,_,_,.stop _,.stop _=>rfl
 |_,_,_,.stop h,.step g _=>by rw[h] at g;cases g
 |_,_,_,.step h _,.stop g=>by rw[h] at g;cases g
 |_,_,_,.step h r,.step g s=>by
  rw[h] at g;cases g;rw[Over.det r s]
theorem apy(hN:Names zs)(hP:jV zs ps)(h:jb ps z=aa w):up ps z=z::up ps w:=(W5 hN hP z).det (.step h (W5 hN hP w))
theorem aeY(h:jb ps z=ao):up ps z=[]:=N6 h _
theorem XC(ps:List (Str×Str))(z:Str):(up ps z).length<=ps.length+1:=aeW _ _
def b8(l:List (Str×aB)):List (aB×aB):=l.map λp=>(.str p.1,p.2)
theorem BP:∀l:List (Str×aB),dO f9 (b8 l)=aa (l.map λp=>.inr p.1)
 |[]=>rfl
 |p::l=>by
  rw[show b8 (p::l)=(.str p.1,p.2)::b8 l from rfl];unfold dO;rw[BP l];simp only[f9];rfl
theorem Fw(x z:Str):(f9 (.str x)=aa (.inr z))↔x=z:=by
 simp[f9]
theorem acU(z:Str):∀l:List (Str×aB),qH f9 (.inr z) (b8 l)=(l.find? λp=>decide (p.1=z)).map (·.2)
 |[]=>rfl
 |p::l=>by
  show(if f9 (.str p.1)=aa (.inr z) then aa p.2 else qH f9 (.inr z) (b8 l))=_
  rw[xJ];by_cases h:p.1=z
  .rw[bC ((Fw _ _).mpr h),dW h];rfl
  .rw[bB (λe=>h ((Fw _ _).mp e)),jy h,acU z l]
theorem Ng(l:List (Str×aB))(z:Str):qI (b8 l) (.str z)=aa ((l.find? λp=>decide (p.1=z)).map (·.2)):=by
 show(if(dO f9 (b8 l)).isSome then aa (qH f9 (.inr z) (b8 l)) else ao)=_
 rw[BP,acU];rfl
theorem adT(h:z∉l.map (·.1)):oV f9 (.inr z) (.str z) d (b8 l)=b8 (l++[(z,d)]):=by
 unfold oV;rw[bB,b8,b8,j4]
 .rfl
 .rw[ai4,aiB];intro p hp
  obtain⟨q,hq,rfl⟩:=cY.mp hp
  have:¬(f9 (.str q.1)=aa (.inr z)):=λe=>h (cY.mpr ⟨q,hq,(Fw _ _).mp e⟩)
  simpa using this
theorem adU(h:z∉l.map (·.1)):putD (b8 l) (.str z) d=aa (b8 (l++[(z,d)])):=by
 show(if(dO f9 (b8 l)).isSome then aa (oV f9 (.inr z) (.str z) d (b8 l)) else ao)=_
 rw[BP,adT h];rfl
theorem We(ps:List (Str×Str))(g:Str×Str->α)(z:Str):((ps.map λp=>(p.1,g p)).find? λp=>decide (p.1=z)).map (·.2)=(ps.find? λp=>decide (p.1=z)).map g:=by
 rw[ajB,Sw];rfl
theorem nG(D:α->aB)(p:α->Bool)(g:α->aB):∀{l:List α},(∀a∈l,∃ts,uJ T (D a)=aa ts/\ft (cI ts++fs) C=aa (p a,C)/\(p a=aq->∃x e,fe (cI ts++fs) C=aa (x,e,C)/\still x=.im (g a)))->
  dM T ft fe fs (l.map D) C=aa ((l.filter p).map g,C)
 |[],_=>rfl
 |d::r,h=>by
  obtain⟨ts,h1,h2,h3⟩:=h d eV
  have ih:=nG D p g (l:=r) λd m=>h d (fQ _ m)
  rw[dU];unfold dM;simp only[h1];rw[h2];cases hp:p d with
  |true=>
   obtain⟨x,e,h4,h5⟩:=h3 hp
   simp only[h4,h5,ih,Lh,hp,if_true,dU]
  |false=>
   simp only[ih,Lh,hp];rfl
theorem amF(h:∀x∈l,0<=x):maxD 0 l=l.foldl max 0:=by
 cases l with
 |nil=>rfl
 |cons x l=>
  show l.foldl max x=l.foldl max (max 0 x);have:=h x eV;rw[show max 0 x=x by lia]
def wV(who:Str)(os:List Str)(bK:Int)(r:fZ):Bool:=decide (r.2.1=who)&&(decide (r.2.2.2.1∈os)&&(decide (r.2.2.2.2.1<=bK)&&decide (bK<=r.2.2.2.2.2)))
def Fx(rk:List fZ)(who:Str)(os:List Str)(bK:Int):Int:=((rk.filter (wV who os bK)).map (·.2.2.1)).foldl max 0
section
variable{prog:fV}{w:dD}{A:iz}{E:aL->aZ->Prop}{R:zX->aZ->Prop}{s:aZ}
theorem amG(h:Q (.ref s.heap.objs.size) {s with heap:=s.heap.push (nC w)}):aQ (model prog w) A (newSet (.type "set")) Q E s:=by
 unfold newSet acd
 obtain⟨h0,g0,d0,t0,o0⟩:=s
 refine aJ (aJ (Lf (bz ?_)));dsimp only;simp only[newObj];exact aJ (wpAny_alloc (bz h))
theorem amH{rest:List Comprehension}{scope:kW}{pos:Pos}{it bJ:aL}{aj:Env}(h0:lQ (model prog w) A (.compLoop (.SetComp elt (⟨target,iter,ifs,0⟩::rest) scope pos) 0 it bJ aj) R s)
  (h:aQ (model prog w) A (BZ it) (λit' s'=>lQ (model prog w) A (.compLoop (.SetComp elt (⟨target,iter,ifs,0⟩::rest) scope pos) 0 it' bJ aj) R s') (notedBy (model prog w) A aj λx s'=>R (.error x) s') s):
  lQ (model prog w) A (.compStart (.SetComp elt (⟨target,iter,ifs,0⟩::rest) scope pos) 0 it bJ aj) R s:=by
 refine aaU (show aQ _ A ((compStart (.SetComp elt (⟨target,iter,ifs,0⟩::rest) scope pos) 0 it bJ aj).onRaise (λx=>do noteFrame x aj;wF theWindowsPlace)) _ _ s from wpAny_notedAt ?_);unfold compStart
 refine(show aQ _ A (ask >>= _) _ _ s from aJ (Lf (wpAny_ite ?_)))
 split
 .first
   |exact aJ (bz (bz ⟨rfl,h0⟩))
   |exact bz ⟨rfl,h0⟩
 .first
   |exact aJ (ug (aJ (xN (aJ (uf h (λit' s' h'=>bz ⟨rfl,h'⟩) λ_ _ x=>x)))))
   |exact aJ (ug (show aQ _ _ (wF iter.pos >>= _) _ _ s from aJ (xN (aJ (uf h (λit' s' h'=>bz ⟨rfl,h'⟩) λ_ _ x=>x)))))
variable{T:Type}[DecidableEq T]{knd:Bg prog w T}
theorem akW(hk:knd.is k key=aq)(hsc:key.scannable=aq)(hS:nU knd s.heap a ks)(room:ks.length+1<qu)
  (h:∀h',zE a s.heap h'->nU knd h' a (oF ks k)->Q .none {s with heap:=h',toks:=s.toks+1}):aQ (model prog w) A (call (.builtin "set.add") [.ref a,key]) Q E s:=by
 refine oZ F.slot_set_add hS.ty F.entry_set_add ?_ (F.args_set_add_2 _ _);unfold mq.«set.add» avA;simp only[Li,bind_assoc];unfold av2 setAdd;refine aJ (bz ?_)
 try dsimp only
 refine aJ (bz ?_)
 try dsimp only
 refine aJ (nF (aJ (knd.pyHash hk ?_)));refine aeA (knd:=knd) (s:={s with toks:=s.toks+1}) hk hsc hS room λ_ h' hsb hS'=>?_
 exact(show aQ _ _ (ret j6) _ _ _ from bz ⟨_,rfl,h h' hsb hS'⟩)
end
theorem akn(elt gens scope pos):eval (.SetComp elt gens scope pos) aj=Tf (.SetComp elt gens scope pos) scope aj (firstIterPos gens pos) (newSet (.type "set")) (firstAsync gens) (firstIter gens aj):=rfl
section
variable{P:fV}{w:dD}{T0:Type}[DecidableEq T0](knd:Bg P w T0)(mk:T0->V)
abbrev SO(a:aH)(ks:List T0):HO:=.ext λh=>nU knd h a ks
def Yi(D:aH)(te:TE):TM:=λσ H Q=>te σ H λy H1=>∃ks k,H1 D=aa (SO knd D ks)/\y=mk k/\ks.length+1<qu/\Q (upd H1 D (SO knd D (oF ks k)))
theorem agp(x:nU knd h a ks):gn P w H h a (SO knd a ks):=
 ⟨x,let ⟨o,_,_,_,e,_⟩:=x;⟨o,e⟩,λ_ _ y e=>y.at e⟩
def tSC(K:bw)(wi:TI)(T:lH)(ts:Bk->TT)(te:Bk->TE)(js:List Nat):TE:=λσ H Q=>wi σ H λJ H1=>∀D,H1 D=ao->∀b,Af K T (ts b) (Yi knd mk D (te b)) (frees js σ) J (upd H1 D (SO knd D [])) (Q (.ref D))
end
section
variable{X:Cx}{T0:Type}[DecidableEq T0]{knd:Bg X.prog X.w T0}{mk:T0->V}{NT NF:List Str}{js:List Nat}{elt tg iter:Expr}{ifs:List Expr}{T:lH}{wi:TI}{ts:Bk->TT}{te:Bk->TE}{scope:kW}{pos:Pos}
theorem arc(hk:∀k v,RelV (mk k) v->knd.is k v=aq/\v.scannable=aq)(he:PE X elt t):PM X (do let v <-eval elt X.env;wF elt.pos;let _ <-call (.builtin "set.add") [.ref D,v]) (Yi knd mk D t):=by
 intro au s σ H Q I h;refine aJ (b7 (he au s σ H _ I h) λv s1 aY=>?_)
 obtain⟨y,H1,I1,r1,ks,k,hD,ey,hz,q⟩:=aY
 subst ey
 obtain⟨hS,_,_⟩:=I1.hok D _ hD
 obtain⟨k1,k2⟩:=hk _ _ r1
 refine aJ (xN (aJ (akW k1 k2 hS hz λh' same hS'=>?_)));refine bz ⟨_,?_,q⟩;exact Fj I1 (by rw[hD];exact qt) same (let ⟨o,_,_,_,e,_⟩:=hS';⟨o,e⟩) (agp knd hS')
theorem ard{σ:St}{s2:aZ}{H2:Hp}{cl:List (Str×aH)}{it:aH}{fp:List aH}{tn:Nat->cu->Prop}{J:It}{Q:Hp->Prop}{RR:aL->aH->zX->aZ->Prop}
  (hk:∀k v,RelV (mk k) v->knd.is k v=aq/\v.scannable=aq)(B:qG X NT NF js scope)(tk:p7 tg NT T)(hc:X.calm=aq)
  (hin:∀b,oX (X.bk (NT++NF) scope b) ifs (ts b)/\PE (X.bk (NT++NF) scope b) elt (te b))
  (q2:∀n c,cl.lookup n=aa c->X.env.cells.lookup n=aa c)(q3:∀y∈scope.names,y.2=.free->∃c,cl.lookup y.1=aa c)
  (I2:Inv X au σ H2 s2)(TT:Turn X.prog X.w X.K tg J fp it tn)(st2:tn 0 s2.heap)(f2:∀b∈fp,lU X au H2 b)
  (q:∀b,Af X.K T (ts b) (Yi knd mk s2.heap.objs.size (te b)) (frees js σ) J (upd H2 s2.heap.objs.size (SO knd s2.heap.objs.size [])) Q)
  (hR:∀C H' s' m,Inv X au σ H' s'->lU X au H' C->s'.heap.Ns C m->Q H'->RR (.ref s2.heap.objs.size) C (.ok .next) s'):
  aQ (model X.prog X.w) X.A (newSet (.type "set")) (λbJ s₃=>aQ (model X.prog X.w) X.A (aa4 scope X.env.globals cl [] X.env.qual ao .none (aa X.env)) (λcenv s₄=>
   lQ (model X.prog X.w) X.A (.compStart (.SetComp elt [⟨tg,iter,ifs,0⟩] scope pos) 0 (.ref it) bJ {cenv with scope:=relabel scope X.env}) (RR bJ cenv.locals) s₄) E s₃) E s2:=by
 refine amG ?_;have hD:H2 s2.heap.objs.size=ao:=I2.hok.fresh (bU _);have I3:Inv X au σ (upd H2 s2.heap.objs.size (SO knd s2.heap.objs.size [])) {s2 with heap:=s2.heap.push (nC X.w)}:=
  I2.laid (t':=s2.toks) (λb o e=>cG _ e) (bU _) (agp knd (afy (gR _ rfl)))
 have hsz:(s2.heap.push (nC X.w)).objs.size=s2.heap.objs.size+1:=sy ..;refine Z6 B.cell (by intro y hy;simp at hy) (λh₁ hns₁ hsb₁=>?_) B.kind;have uH:∀b∈fp,b<s2.heap.objs.size:=λb hb=>by
  obtain⟨o,e,_⟩:=TT.obj 0 _ st2 b hb
  exact cL e
 have f3:∀b∈fp,lU X au (upd H2 s2.heap.objs.size (SO knd s2.heap.objs.size [])) b:=λb hb=>⟨by rw[fD (gj (uH b hb))];exact(f2 b hb).1,(f2 b hb).2⟩
 have keep:∀b o,(s2.heap.push (nC X.w)).get? b=aa o->h₁.get? b=aa o:=λb o e=>hsb₁.extBut b o (gj (cL e)) (cG _ e)
 have Ak:∀b∈fp,b<(s2.heap.push (nC X.w)).objs.size:=λb hb=>by have:=uH b hb;rw[hsz];exact vQ this
 have I4:=I3.blk (s1:={s2 with heap:=h₁,toks:=s2.toks+([]:List (Str×aL)).length}) B q2 q3 f3 Ak hns₁ keep rfl I2.bare;have Al:tn 0 h₁:=TT.keep 0 _ _ st2 λb _ o e=>keep b o (cG _ e)
 obtain⟨i1,i2⟩:=hin ⟨cl,(s2.heap.push (nC X.w)).objs.size,{s2 with heap:=s2.heap.push (nC X.w)},upd H2 s2.heap.objs.size (SO knd s2.heap.objs.size []),fp⟩
 have loop:lQ (model X.prog X.w) X.A (.compLoop (.SetComp elt [⟨tg,iter,ifs,0⟩] scope pos) 0 (.ref it) (.ref s2.heap.objs.size) (Vv scope cl (s2.heap.push (nC X.w)).objs.size X.env))
   (RR (.ref s2.heap.objs.size) (s2.heap.push (nC X.w)).objs.size) {s2 with heap:=h₁,toks:=s2.toks+([]:List (Str×aL)).length}:=by
  refine Vw (X:=X.blk (NT++NF) scope cl (s2.heap.push (nC X.w)).objs.size {s2 with heap:=s2.heap.push (nC X.w)} (upd H2 s2.heap.objs.size (SO knd s2.heap.objs.size [])) fp)
   (T:=T) (fs:=frees js σ) (done:=Q) rfl (amj elt tg iter ifs scope pos _ _ _) rfl rfl rfl tk rfl B.nd hc (λx hx=>Z7 (B.tg x hx)) i1 (arc (X:=X.bk (NT++NF) scope _) (knd:=knd) hk i2) TT (λb hb=>?_) I4 Al (q _) λH' s' σ' J' qd=>?_
  .exact⟨(f3 b hb).1,gj (Ak b hb),λhb2=>by
    rcases cg.mp (I3.FJ b hb2) with z|z
    .exact(f3 b hb).2.1 z
    .exact(f3 b hb).2.2.1 z,.inl hb,λx c e=>(f3 b hb).2.2.2.2.1 x c (q2 x c e),λp hp=>(nomatch(show p∈([]:List (aH×Obj)) from hp))⟩
  .obtain⟨m,hn,_⟩:=J'.loc
   exact hR _ H' s' m (I3.Yb f3 J') (I3.wY (bU _) J'.free) hn qd
 exact amH loop (TT.self _ 0 _ _ _ Al loop)
theorem ash(hk:∀k v,RelV (mk k) v->knd.is k v=aq/\v.scannable=aq)(B:qG X NT NF js scope)(tk:p7 tg NT T)(hc:X.calm=aq)(hi:PI X tg iter wi)
  (hin:∀b,oX (X.bk (NT++NF) scope b) ifs (ts b)/\PE (X.bk (NT++NF) scope b) elt (te b))
  (hs:∀x,uN iter X.env x=pure x:=by intro _;rfl):PE X (.SetComp elt [⟨tg,iter,ifs,0⟩] scope pos) (tSC knd mk X.K wi T ts te js):=by
 intro au s σ H Q I h
 obtain⟨cl,hclos,q2,q3⟩:=Ii (aj:=X.env) (scope:=scope) λy hy e=>I.ok.has y.1 (B.free y hy e)
 rw[akn];refine KN (use:=ao) rfl hs hclos B.kind B.names (b7 (hi au s σ H _ I h) λv s1 h1=>b7 h1 λitv s2 aY=>?_)
 obtain⟨it,fp,tn,J,H2,e,I2,TT,st2,f2,q⟩:=aY
 subst e;refine ard (Q:=λH'=>Q (.ref s2.heap.objs.size) H') (RR:=λbJ C=>NB (model X.prog X.w) X.A X.xe ao (EP X au σ Q) bJ C) hk B tk hc hin q2 q3 I2 TT st2 f2 (q _ (I2.hok.fresh (bU _))) λC H' s' m I' fC hn qd=>?_
 refine⟨m,hn,λh' sb=>⟨.ref s2.heap.objs.size,H',?_,rfl,qd⟩⟩
 exact I'.turned (t':=s'.toks) (λb o hb e=>(sb.2 b hb).trans e) fC.1 fC.2.1 fC.2.2.2.1 fC.2.2.2.2.1 fC.2.2.2.2.2
end
def afQ{P:fV}{w:dD}(t:TE):TE:=λσ H Q=>t σ H λx H2=>∃D ks,x=.ref D/\H2 D=aa (SO (Ma P w) D ks)/\ks.length<64/\∀(D':aH)(ns':List Str),H2 D'=ao->ns'.Perm ks->sortedS ns'=aq->Q (.ref D') (upd H2 D' (.lst (ns'.map V.str)))
theorem an8(hc:X.calm=aq)(hl:PE X e t)(g1:Gl X "sorted")(m1:X.mg "sorted"=ao)
  (he:bM [e] X.env=(aA,eval e X.env)::bM [] X.env:=by rfl)(hpl:(iC pos1 (bM [] X.env)).any (·.1)=aA:=by rfl):PE X (.Call (.Name "sorted" p1) [e] [] pos1) (afQ (P:=X.prog) (w:=X.w) t):=by
 intro au s σ H Q I h;refine Dy (wI I g1 m1 (u:=.builtin "sorted") rfl (ZG ?_ he hpl));rw[he];show aQ _ _ (Jb ((aA,eval e X.env)::iC pos1 (bM [] X.env))) _ _ s;refine Hf (b7 (hl au s σ H _ I h) λv s1 ⟨y,H1,I1,r1,D,ks,ey,hD,h64,q⟩=>K5 ?_);subst ey;cases r1
 obtain⟨⟨o,es,ep,t,ho,ex,hd,⟨ks',ek,pk⟩,hb,hf,tb⟩,_,_⟩:=I1.hok D _ hD
 obtain⟨e1,e2⟩:=anN ek
 have few:es.size<64:=by
  rw[<-lY,ek.len,pk.length_eq];lia
 refine ace (Ok:=λout=>∃ns',StrsAre out ns'/\ns'.Perm ks/\sortedS ns'=aq) (I1.ok.hd hc) ⟨o,ho,ex,hd,hf,tb⟩ few (λus pm B s2 a n P E' ho' hp=>?_) λD h' d tk c out ok ge kk gD=>?_
 .have hS:StrsAre us (us.map strOf):=strsAre_map us λv hv=>e2 v (pm.mem_iff.mp hv)
  refine list_sort_treeK strKind_oneLt ho' hS.keysOf (λv1 v2 rest e=>keyKind_strs (by rw[<-e];exact hS)) (by rw[pm.length_eq,bD,lY];exact few) λst hp1 hp2=>?_
  obtain⟨ss',b1,b2,b3⟩:=sorted_out_str hS hp1 hp2
  exact hp _ ⟨ss',b1,b2.trans ((pm.map strOf).trans (by rw[e1];exact pk)),b3⟩
 .obtain⟨ns',a1,a2,a3⟩:=ok
  have hz:ns'.length<=cH:=by
   rw[a2.length_eq,lN];lia
  exact⟨.ref D,_,(I1.laid (o:=.lst (ns'.map V.str)) (t':=tk) kk ge ⟨by rw[bD];exact hz,out.toList,c,Vb a1,by simpa[seqObj] using gD⟩).drew d,rfl,q D ns' (I1.hok.fresh ge) a2 a3⟩
def Kg(fi:FI)(T:lH)(ft:FT)(fe:FE)(js:List Nat):FE:=λaj C=>match fi aj C with
 |some (aK,e1,C1)=>match dM T ft fe (frB js e1) aK C1 with
  |some (ys,C2)=>match N5 ys with
   |some l=>aa (.ow (.list l),aj,C2)
   |none=>ao
  |none=>ao
 |none=>ao
def YG(fe:FE):En->List Str->Ce->Option (List Str×Ce):=λaj bJ C=>(fe aj C).bind λq=>(vI (still q.1)).bind λy=>(Qx y).bind λz=>bif decide (bJ.length<64) then aa (bJ++[z],q.2.2) else ao
theorem W6:∀{aK:List aB}{ys bJ:List Str}{C:Ce},dM T ft fe fs aK C=aa (ys.map .str,C')->bJ.length+ys.length<=64->wU T ft (YG fe) fs aK bJ C=aa (bJ++ys,C')
 |[],ys,bJ,C,h,_=>by
  cases ys with
  |cons _ _=>cases h
  |nil=>
  cases h;rw[mj];rfl
 |d::r,ys,bJ,C,h,hl=>by
  unfold dM at h;unfold wU;split at h
  case h_2=>cases h
  rename_i ts ht;rw[ht,m9];split at h
  case h_3=>cases h
  .rename_i C1 hf;rw[hf,m9];exact W6 h hl
  .rename_i C1 hf;rw[hf,m9];split at h
   case h_2=>cases h
   rename_i x e2 C2 hx;split at h
   case h_2=>cases h
   rename_i y hy;split at h
   case h_2=>cases h
   rename_i zs C3 hz;cases ys with
   |nil=>cases h
   |cons w ys=>
   injection h with h
   injection h with h1 h2
   injection h1 with h1 h3
   subst h1 h2 h3;rw[fY] at hl
   show(YG fe (cI ts++fs) bJ C1).bind _=_
   unfold YG;rw[hx,m9,hy,show vI (.im (.str w))=aa (.str w) from rfl,m9,show Qx (.str w)=aa w from rfl,m9,dW az,show bJ++w::ys=(bJ++[w])++ys by rw[qX];rfl];exact W6 hz (by rw[gJ];show bJ.length+1+_<=_;lia)
theorem apz{w:dD}{K:bw}{fi:FI}{T:lH}{ft:FT}{fe:FE}:∀σ H Q,tE K (Kg fi T ft fe js) σ H Q->afQ (P:=P) (w:=w) (tSC (Ma P w) V.str K (tI K aq fi) T (λ_=>iJ K ft) (λ_=>tE K fe) js) σ H Q:=by
 rintro σ H Q ⟨Z,Θ,aj,C,res,aW,C',S,hf,q⟩;unfold Kg at hf;split at hf
 case h_2=>cases hf
 rename_i aK e1 C1 h1;split at hf
 case h_2=>cases hf
 rename_i ys C2 h2;split at hf
 case h_2=>cases hf
 rename_i l hs;cases hf;unfold N5 at hs;split at hs
 case isFalse=>cases hs
 rename_i hl;split at hs
 case h_2=>cases hs
 rename_i ns hns;cases hs;have hys:=V7 hns;subst hys;rw[bD] at hl
 refine⟨Z,Θ,aj,C,aK,e1,C1,S,h1,λJ H1 k1 f1 S1 it D hD b=>?_⟩
 have uF:D∉Θ:=λm=>(S1.cell.dom D m).ne hD
 refine V0 (a0:=[]) (Ob:=λbJ Hx=>Hx D=aa (SO (Ma P w) D (dedup bJ))) S1 it hD gV (λa Hx Hy kk r=>kk.keep _ _ r uF) (λa Hx r=>⟨_,r,λ_ z=>nomatch z⟩) ?_ (W6 (bJ:=[]) h2 (by rw[RT];lia)) λH2 ki ci r=>?_
 .intro ts bJ C2 p vs H4 Q hs S4 k4 r4 hQ
  obtain⟨w,hfe,hs⟩:=lD hs
  obtain⟨yd,vK,hs⟩:=lD hs
  obtain⟨z,hz,hs⟩:=lD hs
  have vK:=Jr vK;have hz:=apd hz;subst hz;cases hlt:decide (bJ.length<64) with
  |false=>rw[hlt] at hs;cases hs
  |true=>
  rw[hlt] at hs;cases hs
  refine⟨_,Θ,_,C2,w.1,w.2.1,w.2.2,S4,hfe,λy H5 k5 f5 R5=>?_⟩
  obtain⟨S5,r5⟩:=R5.vm vK
  have lt:=of_decide_eq_true hlt;have ld:=Eo bJ
  exact⟨dedup bJ,z,k5.keep _ _ r4 uF,r5,by unfold qu;lia,hQ _ (Xu (Hy:=H5) hD (k4.trans k5)) (NP uF S5.cell) (by rw[ab9];exact gV)⟩
 .have kk:=k1.trans ki;have ld:=Eo ns
  refine⟨D,dedup ns,rfl,r,az,λD' ns' hn p hp=>?_⟩
  rw[afO p hp];exact q _ _ (kk.trans (bG.upd hn)) (Fz.refl _) ((qy (S.go kk ci) (adF _) hn).from kk)
theorem asi{X:Cx}{NT NF:List Str}{js:List Nat}{ifs:List Expr}{T:lH}{fi:FI}{ft:FT}{fe:FE}{scope:kW}{pos p1 pos1:Pos}(B:qG X NT NF js scope)(tk:p7 tg NT T)(hc:X.calm=aq)(g1:Gl X "sorted")(m1:X.mg "sorted"=ao)(hi:PI X tg iter (tI X.K aq fi))
  (hin:∀b,oX (X.bk (NT++NF) scope b) ifs (iJ X.K ft)/\PE (X.bk (NT++NF) scope b) elt (tE X.K fe))
  (hs:∀x,uN iter X.env x=pure x:=by intro _;rfl)
  (he:bM [.SetComp elt [⟨tg,iter,ifs,0⟩] scope pos] X.env=(aA,eval (.SetComp elt [⟨tg,iter,ifs,0⟩] scope pos) X.env)::bM [] X.env:=by rfl)(hpl:(iC pos1 (bM [] X.env)).any (·.1)=aA:=by rfl):
  PE X (.Call (.Name "sorted" p1) [.SetComp elt [⟨tg,iter,ifs,0⟩] scope pos] [] pos1) (tE X.K (Kg fi T ft fe js)):=
 (an8 hc (ash (knd:=Ma X.prog X.w) (mk:=V.str) (λk v r=>by obtain⟨t,rfl⟩:=r;exact⟨PySem.strKind_is _ _ _ _,rfl⟩) B tk hc hi hin hs) g1 m1 he hpl).weak apz
theorem atu(x:α)(r:List α):gF (x::r) 0=aa x:=uq (j:=0) rfl
theorem atv(a x:α)(r:List α):gF (a::x::r) 1=aa x:=uq (j:=1) rfl
theorem atw(a b x:α)(r:List α):gF (a::b::x::r) 2=aa x:=uq (j:=2) rfl
theorem atx(a b c x:α)(r:List α):gF (a::b::c::x::r) 3=aa x:=uq (j:=3) rfl
theorem aty(a b c d x:α)(r:List α):gF (a::b::c::d::x::r) 4=aa x:=uq (j:=4) rfl
theorem atz(a b c d e x:α)(r:List α):gF (a::b::c::d::e::x::r) 5=aa x:=uq (j:=5) rfl
theorem atA(a b c d e f x:α)(r:List α):gF (a::b::c::d::e::f::x::r) 6=aa x:=uq (j:=6) rfl
theorem asj(op:aB->aB->Option Vl)(fa fb:FB)(aj:En)(C:Ce):aV op fa fb aj C=(fa aj C).bind λp=>(fb p.2.1 p.2.2).bind λq=>(op p.1 q.1).bind λr=>aa (r,rst r aj q.2.1,q.2.2):=by
 unfold aV;rcases h:fa aj C with _|⟨x,e1,C1⟩
 .rfl
 .rcases h2:fb e1 C1 with _|⟨y,e2,C2⟩
  .simp only[m9,h2];rfl
  .simp only[m9,h2];cases op x y<;>rfl
theorem asl(f:FE)(aj:En)(C:Ce):aG f aj C=(f aj C).bind λp=>(dat p.1).map λd=>(d,p.2.1,p.2.2):=by
 unfold aG;rcases h:f aj C with _|⟨x,e1,C1⟩<;>rfl
theorem atB(i:Nat)(aj:En)(C:Ce):aN i aj C=(aj[i]?).bind λo=>o.bind λx=>(dat x).map λd=>(d,aj,C):=by
 unfold aN;rcases aj[i]? with _|(_|x)<;>rfl
theorem asm(f g:FT)(aj:En)(C:Ce):tH f g aj C=(f aj C).bind λp=>if p.1 then g aj p.2 else aa (aA,p.2):=by
 unfold tH;rcases h:f aj C with _|⟨_|_,D⟩<;>rfl
theorem atD(f g:FT)(aj:En)(C:Ce):pO f g aj C=(f aj C).bind λp=>if p.1 then aa (aq,p.2) else g aj p.2:=by
 unfold pO;rcases h:f aj C with _|⟨_|_,D⟩<;>rfl
theorem asn(f:FT)(aj:En)(C:Ce):jn f aj C=(f aj C).map λp=>(!p.1,p.2):=by
 unfold jn;rcases h:f aj C with _|⟨b,D⟩<;>rfl
theorem atE(c:FT)(f g:FS)(aj:En)(C:Ce):gC c f g aj C=(c aj C).bind λp=>if p.1 then f aj p.2 else g aj p.2:=by
 unfold gC;rcases h:c aj C with _|⟨_|_,D⟩<;>rfl
theorem aso(c:FT)(f g:FE)(aj:En)(C:Ce):Dd c f g aj C=(c aj C).bind λp=>if p.1 then f aj p.2 else g aj p.2:=by
 unfold Dd;rcases h:c aj C with _|⟨_|_,D⟩<;>rfl
theorem JB(op op':aB->aB->Option Vl)(fa fb fc:FB)(h1:fa aj C=aa (x,e1,C1))(h2:fb e1 C1=aa (y,e2,C2))(h3:op x y=aa (.im (.bool a)))(h4:fc e2 C2=aa (z,e3,C2))(h5:op' y z=aa (.im (.bool b))):xg op op' fa fb fc aj C=aa (.im (.bool (a&&b)),aj,C2):=by
 unfold xg;simp only[h1,h2,h3];cases a with
 |false=>rfl
 |true=>simp only[h4,h5];rfl
theorem atF(d:aB)(e f:En):rst (.ow d) e f=f:=rfl
theorem arf(b:Bool)(e f:En):rst (.im (.bool b)) e f=e:=rfl
theorem asp(i:Int)(e f:En):rst (.im (.int i)) e f=e:=rfl
theorem asq(z:Str)(e f:En):rst (.im (.str z)) e f=e:=rfl
theorem atG(l r:List aB)(e f:En):rst (.im (.tuple (.list l::r))) e f=f:=rfl
theorem add_int(i j:Int):cD (.int i) (.int j)=aa (.im (.int (i+j))):=rfl
theorem sub_int(i j:Int):yw (.int i) (.int j)=aa (.im (.int (i-j))):=rfl
theorem le_int(i j:Int):lG (.int i) (.int j)=aa (.im (.bool (decide (i<=j)))):=rfl
theorem lt_int(i j:Int):wZ (.int i) (.int j)=aa (.im (.bool (decide (i<j)))):=rfl
theorem ge_int(i j:Int):Dc (.int i) (.int j)=aa (.im (.bool (decide (j<=i)))):=rfl
theorem gt_int(i j:Int):JL (.int i) (.int j)=aa (.im (.bool (decide (j<i)))):=rfl
theorem eq_int(i j:Int):lW (.int i) (.int j)=aa (.im (.bool (i==j))):=rfl
theorem eq_bool(a b:Bool):lW (.bool a) (.bool b)=aa (.im (.bool (a==b))):=rfl
theorem ne_bool(a b:Bool):qJ (.bool a) (.bool b)=aa (.im (.bool (!(a==b)))):=rfl
theorem ne_int(i j:Int):qJ (.int i) (.int j)=aa (.im (.bool (!(i==j)))):=rfl
theorem asr(ds:List aB):mF [.list ds]=aa (.im (.int ds.length)):=rfl
theorem ass(ds:List aB):mF [.tuple ds]=aa (.im (.int ds.length)):=rfl
theorem atH(ds:List aB)(i:Int):bQ (.tuple ds) (.int i)=(gF ds i).map .im:=rfl
theorem atJ(ds:List aB)(i:Int):bQ (.list ds) (.int i)=(gF ds i).map .im:=rfl
theorem add_l(h:xs.length+ys.length<=1000000):cD (.list xs) (.list ys)=aa (.ow (.list (xs++ys))):=bC h
theorem JC(h:xs.length+ys.length<=1000000):cD (.tuple xs) (.tuple ys)=aa (.im (.tuple (xs++ys))):=by
 unfold cD;cases xs with
 |nil=>rfl
 |cons x xs=>exact bC h
theorem wW{i:Nat}(h:ds[i]?=aa d):bQ (.tuple ds) (.int i)=aa (.im d):=by
 simp only[bQ,rQ,uq h,lC]
theorem asu(h:mO):bQ (eE h) (.int 0)=aa (.im (.tuple (h.ps.map bZ))):=wW (i:=0) rfl
theorem asv(h:mO):bQ (eE h) (.int 1)=aa (.im (.tuple (h.ranks.map bV))):=wW (i:=1) rfl
theorem asw(h:mO):bQ (eE h) (.int 2)=aa (.im (.tuple (h.leaves.map cX))):=wW (i:=2) rfl
theorem asx(h:mO):bQ (eE h) (.int 3)=aa (.im (.tuple (h.rules.map bR))):=wW (i:=3) rfl
theorem asy(r:fZ):bQ (bV r) (.int 0)=aa (.im (.int r.1)):=wW (i:=0) rfl
theorem asz(r:fZ):bQ (bV r) (.int 1)=aa (.im (.str r.2.1)):=wW (i:=1) rfl
theorem asA(r:fZ):bQ (bV r) (.int 2)=aa (.im (.int r.2.2.1)):=wW (i:=2) rfl
theorem asB(r:fZ):bQ (bV r) (.int 3)=aa (.im (.str r.2.2.2.1)):=wW (i:=3) rfl
theorem asC(r:fZ):bQ (bV r) (.int 4)=aa (.im (.int r.2.2.2.2.1)):=wW (i:=4) rfl
theorem asD(r:fZ):bQ (bV r) (.int 5)=aa (.im (.int r.2.2.2.2.2)):=wW (i:=5) rfl
theorem yO(h0:-1000000<=m)(h1:m<=1000000)(a b:α):(if -(2^62)<=m/\m<2^62 then a else b)=a:=bC az
theorem fW(en:En)(hk:xs.length=k)(he:xs.map aa++cN (n-xs.length) ao=en)(h:(body en C).map (λp=>(p.1,p.2.2))=aa (.rt r,C1))(hr:Jy C.length r=aq)(hC:C1.length=C.length):fN k n body xs C=aa (r,C1):=by
 unfold fN;rw[bC hk,he];cases hb:body en C with
 |none=>rw[hb] at h;cases h
 |some p=>
  rw[hb] at h
  obtain⟨fl,e1,C2⟩:=p
  have h:(fl,C2)=(Fl.rt r,C1):=jj h;injection h with h1 h2
  subst h1 h2;simp only[hr,if_true,adP hC]
theorem letters(k:Int)(h0:0<=k)(h1:k<26):rQ (.str abc) (.int k)=aa (.str ⟨#[97+k.toNat]⟩):=by
 have e:=arb h0 h1;have hl:abc.length<=gG:=bL;simp only[rQ];rw[bC hl,e];rfl
theorem UL:∀zs:List Str,strsOf (zs.map gh)=aa zs
 |[]=>rfl
 |z::zs=>by
  show(match strsOf (zs.map gh) with|some t=>aa (z::t)|none=>ao)=_
  rw[UL zs]
theorem UT:∀ns:List Int,intsOf (ns.map pA)=aa ns
 |[]=>rfl
 |n::ns=>by
  show(match intsOf (ns.map pA) with|some t=>aa (n::t)|none=>ao)=_
  rw[UT ns]
theorem an9:abc.cps.toList=(dh 26).map (97+·):=bL
theorem acV:chars abc=(dh 26).map λi=>.str ⟨#[97+i]⟩:=by
 unfold chars;rw[an9,fj];rfl
theorem Nh:∀zs:List Str,ji (zs.map gh)=aq
 |[]=>rfl
 |z::zs=>by
  show(aq&&ji (zs.map gh))=aq
  rw[Nh zs];rfl
theorem ack:∀cs:List Nat,ji (cs.map λc=>gh ⟨#[c]⟩)=aq
 |[]=>rfl
 |c::cs=>by
  show(aq&&ji (cs.map λc=>gh ⟨#[c]⟩))=aq
  rw[ack cs];rfl
theorem abE:∀cs:List Nat,strsOf (cs.map λc=>gh ⟨#[c]⟩)=aa (cs.map λc=>(⟨#[c]⟩:Str))
 |[]=>rfl
 |c::cs=>by
  show(match strsOf (cs.map λc=>gh ⟨#[c]⟩) with|some t=>aa (_::t)|none=>ao)=_
  rw[abE cs];rfl
theorem amI:(bI "").length=0:=bL
theorem ne_nil(zs:List Str)(hz:∀z∈zs,nameB z=aq):qJ (.list (zs.map .str)) (.list [])=aa (.im (.bool (!zs.isEmpty))):=by
 have s1:nD (.list (zs.map gh))=aq:=akV λz m=>ach (hz z m)
 have n1:pP (.list (zs.map gh))=aq:=(Wd λz m=>ach (hz z m)).2.2;have e:yX (.list (zs.map .str)) (.list [])=aa zs.isEmpty:=by
  show(if pP (.list (zs.map gh))&&pP (.list [])&&(nD (.list (zs.map gh))&&nD (.list [])) then aa (Ik (.list (zs.map .str)) (.list [])) else ao)=_
  rw[n1,s1];cases zs<;>rfl
 simp only[qJ,e,lC]
theorem apA{zs:List Str}{k:Int}(h0:0<=k)(h1:k<zs.length):∃z,z∈zs/\zs[k.toNat]?=aa z/\bQ (.list (zs.map .str)) (.int k)=aa (.im (.str z)):=by
 obtain⟨x,e1,e2⟩:=Xz (xs:=zs.map gh) h0 (by rw[bD];exact h1)
 rw[jC] at e2;cases hz:zs[k.toNat]? with
 |none=>rw[hz] at e2;cases e2
 |some z=>
  rw[hz] at e2;cases e2
  refine⟨z,lX hz,rfl,?_⟩
  simp only[bQ,rQ,e1,lC]
theorem apB:bQ (.tuple (d::r)) (.int 0)=aa (.im d):=by
 have:gF (d::r) (0:Int)=aa d:=uq (j:=0) rfl;simp only[bQ,rQ,this,lC]
theorem amJ{ps:List (Str×Str)}(he:fe=aV bQ (aN 0) (aG (aP (.int 0)))):dM .one cz fe [] (ps.map bZ) C=aa ((ps.map (·.1)).map .str,C):=by
 subst he;rw[UG (λ_=>aq) (λd=>match d with|.tuple (x::_)=>x|_=>.none) λd hd=>?_]
 .rw[tY.mpr λ_ _=>rfl,fj,fj];rfl
 .obtain⟨p,_,rfl⟩:=cY.mp hd
  exact⟨_,rfl,rfl,λ_=>⟨.im (.str p.1),_,ara (x:=bZ p) (e1:=[aa (.im (bZ p))]) (e2:=[aa (.im (bZ p))]) rfl (aq9 rfl rfl) apB,rfl⟩⟩
def mG(p:Str)(s:Int):aB:=.tuple [.str p,.int s]
def gq(rs:List cR):List (aB×aB):=rs.map λr=>(mG r.1 r.2.1,fJ r.2.2)
def Ad(p:Str)(s:Int)(q:cR):Bool:=decide (q.1=p/\q.2.1=s)
def xr(rs:List cR)(p:Str)(s:Int)(ss:List nR):List cR:=if rs.any (Ad p s) then rs.map (λq=>if Ad p s q then(q.1,q.2.1,ss) else q) else rs++[(p,s,ss)]
theorem OJ(p:Str)(s:Int):lE (mG p s)=aa [.inr p,.inl s]:=rfl
theorem W7:∀rs:List cR,dO lE (gq rs)=aa (rs.map λr=>[.inr r.1,.inl r.2.1])
 |[]=>rfl
 |r::rs=>by
  rw[show gq (r::rs)=(mG r.1 r.2.1,fJ r.2.2)::gq rs from rfl];unfold dO;rw[W7 rs];simp only[OJ];rfl
theorem aeZ(p:Str)(s:Int)(q:cR):decide (lE (mG q.1 q.2.1)=aa [.inr p,.inl s])=Ad p s q:=by
 rw[OJ,uP];unfold Ad;simp
theorem arh(rs:List cR)(p:Str)(s:Int)(ss:List nR):putD (gq rs) (mG p s) (fJ ss)=aa (gq (xr rs p s ss)):=by
 have h:putD (gq rs) (mG p s) (fJ ss)=aa (oV lE [.inr p,.inl s] (mG p s) (fJ ss) (gq rs)):=by
  show(if(dO lE (gq rs)).isSome then aa (oV lE [.inr p,.inl s] (mG p s) (fJ ss) (gq rs)) else ao)=_
  rw[W7];rfl
 rw[h];congr 1;unfold oV xr;have ha:((gq rs).any λq=>decide (lE q.1=aa [.inr p,.inl s]))=rs.any (Ad p s):=by
  unfold gq;rw[abC];congr 1;funext q;exact aeZ p s q
 rw[ha];cases hb:rs.any (Ad p s) with
 |true=>
  rw[bC rfl,bC rfl];unfold gq;rw[fj,fj];congr 1;funext q
  show(if lE (mG q.1 q.2.1)=aa [.inr p,.inl s] then(mG q.1 q.2.1,fJ ss) else(mG q.1 q.2.1,fJ q.2.2))=_
  have:=aeZ p s q;cases hs:Ad p s q with
  |true=>
   rw[hs] at this;rw[bC (of_decide_eq_true this)];simp[hs]
  |false=>
   rw[hs] at this;rw[bB (of_decide_eq_false this)];simp[hs]
 |false=>
  rw[bB bA,bB bA];unfold gq;rw[j4];rfl
abbrev kj(r:cR):Str×Int:=(r.1,r.2.1)
theorem apC(h:∀r∈rs,nJ own r)(hr:nJ own (p,s,ss))(nd:(rs.map kj).Nodup):(∀r∈xr rs p s ss,nJ own r)/\((xr rs p s ss).map kj).Nodup/\(xr rs p s ss).length<=rs.length+1:=by
 unfold xr;split
 .refine⟨λr m=>?_,?_,by rw[bD];lia⟩
  .obtain⟨q,hq,rfl⟩:=cY.mp m
   split
   .rename_i hs;have e:q.1=p/\q.2.1=s:=of_decide_eq_true hs;have:=h q hq
    exact⟨this.part,this.sum,hr.many,hr.seats⟩
   .exact h q hq
  .rw[fj];have:(kj ∘ λq:cR=>if Ad p s q=aq then(q.1,q.2.1,ss) else q)=kj:=by
    funext q;show kj (if _ then _ else _)=_;split<;>rfl
   rw[this];exact nd
 .rename_i hn
  refine⟨λr m=>?_,?_,bF⟩
  .rcases eO.mp m with m|m
   .exact h r m
   .rw[gU.mp m];exact hr
  .rw[j4,mZ]
   refine⟨nd,bF,λx hx y hy e=>?_⟩
   have hy':y=(p,s):=gU.mp hy;subst e
   obtain⟨q,hq,hqe⟩:=cY.mp hx
   refine hn (aaL.mpr ⟨q,hq,?_⟩);rw[hy'] at hqe;have h1:q.1=p:=congrArg Prod.fst hqe;have h2:q.2.1=s:=congrArg N7 hqe;exact dW ⟨h1,h2⟩
theorem Wf(r:Vl)(e:En):rst r e e=e:=by
 cases r<;>simp[rst]
theorem apD:∀(rs:List cR),rs.length<=10->∃rs':List cR,rs'.Perm rs/\oO [.dict (gq rs)]=aa (.ow (.list (rs'.map λr=>mG r.1 r.2.1)))
 |[],_=>⟨[],xK _,rfl⟩
 |r::rs,h=>by
  rw[fY] at h;have hall:((gq (r::rs)).all λp=>decide (tL p.1=aa [aA,aq]))=aq:=by
   rw[lB];intro p hp
   obtain⟨q,_,rfl⟩:=cY.mp hp
   exact dW rfl
  have e:oO [.dict (gq (r::rs))]=aa (.ow (.list (qM ((gq (r::rs)).map (·.1))))):=by
   have h2:OD [.dict (gq (r::rs))]=aa (.ow (.list (qM ((gq (r::rs)).map (·.1))))):=by
    show(if(gq rs).length<63/\((gq (r::rs)).all λp=>decide (tL p.1=aa [aA,aq]))=aq then aa (Vl.ow (.list (qM ((gq (r::rs)).map (·.1))))) else ao)=_
    exact bC ⟨by unfold gq;rw[bD];lia,hall⟩
   unfold oO;rw[show zM [.dict (gq (r::rs))]=ao from rfl,h2]
  have p:=acR (ds:=(gq (r::rs)).map (·.1)) λd hd=>by obtain⟨p,hp,rfl⟩:=cY.mp hd;obtain⟨q,_,rfl⟩:=cY.mp hp;rfl
  have em:(gq (r::rs)).map (·.1)=(r::rs).map λr=>mG r.1 r.2.1:=by
   unfold gq;rw[fj];rfl
  rw[em] at p
  obtain⟨rs',p1,p2⟩:=abD p
  exact⟨rs',p1,by rw[e,em,p2]⟩
theorem ae0:∀{rs:List cR}{r:cR},r∈rs->(rs.map kj).Nodup->qH lE [.inr r.1,.inl r.2.1] (gq rs)=aa (fJ r.2.2)
 |q::rs,r,hm,hn=>by
  rw[dU,mK] at hn
  show(if lE (mG q.1 q.2.1)=aa [.inr r.1,.inl r.2.1] then aa (fJ q.2.2) else qH lE [.inr r.1,.inl r.2.1] (gq rs))=_
  rcases cg.mp hm with rfl|hm
  .rw[bC (OJ _ _)]
  .rw[bB,ae0 hm hn.2];intro e;rw[OJ] at e;have e1:q.1=r.1:=by injection e with e;injection e with e1 e2;injection e1
   have e2:q.2.1=r.2.1:=by injection e with e;injection e with e1 e2;injection e2 with e2 _;injection e2
   exact hn.1 (cY.mpr ⟨r,hm,by show(r.1,r.2.1)=(q.1,q.2.1);rw[e1,e2]⟩)
theorem asF(hm:r∈rs)(hn:(rs.map kj).Nodup):bQ (.dict (gq rs)) (mG r.1 r.2.1)=aa (.im (fJ r.2.2)):=by
 have h:qI (gq rs) (mG r.1 r.2.1)=aa (aa (fJ r.2.2)):=by
  show(if(dO lE (gq rs)).isSome then aa (qH lE [.inr r.1,.inl r.2.1] (gq rs)) else ao)=_
  rw[W7,ae0 hm hn];rfl
 unfold bQ rQ;simp only[h,lC]
theorem Ep:∀ss:List nR,ji (ss.map gA)=aq
 |[]=>rfl
 |s::ss=>by
  show(aq&&ji (ss.map gA))=aq
  rw[Ep ss];rfl
theorem Ni:∀rs:List cR,ji (rs.map bR)=aq
 |[]=>rfl
 |r::rs=>by
  show((aq&&(aq&&(ji (r.2.2.map gA)&&aq)))&&ji (rs.map bR))=aq
  rw[Ni rs,Ep];rfl
theorem Qn(hk:xs.length=k)(he:xs.map aa++cN (n-xs.length) ao=en)(h:body en C=aa (.rt r,e1,C1))(hr:Jy C.length r=aq)(hC:C1.length=C.length):fN k n body xs C=aa (r,C1):=by
 unfold fN;rw[bC hk,he,h];simp only[hr,if_true,adP hC]
theorem Vm:∀zs:List Str,(zs.map gh).all pI=aq
 |[]=>rfl
 |z::zs=>by
  rw[dU,Td,Vm zs];rfl
theorem Jh(z:Str)(zs:List Str):qK (.str z) (.list (zs.map .str))=aa (.im (.bool (decide (z∈zs)))):=by
 have:inB (.str z) (.list (zs.map .str))=aa (inD (.str z) (zs.map .str)):=bC (by rw[Vm];rfl);unfold qK;rw[this,adR];rfl
theorem sW(x z:Str):lW (.str x) (.str z)=aa (.im (.bool (decide (x=z)))):=by
 have:(x==z)=decide (x=z):=by rw[uP];simp
 show aa (Vl.im (.bool (x==z)))=_;rw[this]
theorem W8(x z:Str):qJ (.str x) (.str z)=aa (.im (.bool (!decide (x=z)))):=by
 have:(x==z)=decide (x=z):=by rw[uP];simp
 show aa (Vl.im (.bool (!(x==z))))=_;rw[this]
def oH(ps:List (Str×Str))(q:List (Str×Str)):List (Str×aB):=q.map λp=>(p.1,.list ((up ps p.1).map .str))
theorem ae1{ps:List (Str×Str)}(nd:(ps.map (·.1)).Nodup){g:Str×Str->aB}(h:(z,w)∈ps):((ps.map λp=>(p.1,g p)).find? λp=>decide (p.1=z)).map (·.2)=aa (g (z,w)):=by
 rw[We];have e:=(sS nd).mpr h;unfold jb at e;cases hf:ps.find? (λp=>decide (p.1=z)) with
 |none=>rw[hf] at e;cases e
 |some x=>
  rw[hf] at e;have h1:x.1=z:=by simpa using List.find?_some hf
  have h2:x.2=w:=jj e;rw[show x=(z,w) by rw[<-h1,<-h2]];rfl
theorem adV{ps:List (Str×Str)}{g:Str×Str->aB}(h:z∉ps.map (·.1)):((ps.map λp=>(p.1,g p)).find? λp=>decide (p.1=z)).map (·.2)=ao:=by
 rw[We];rw[aaj.mpr λx hx e=>h (cY.mpr ⟨x,hx,of_decide_eq_true e⟩)];rfl
theorem get_eq(h1:fd aj C=aa (.dict aC,e1,C1))(h2:fk e1 C1=aa (dk,e2,C2))(h3:fx e2 C2=aa (r,e3,C3))(h4:qI aC dk=aa o)(h5:still r=.im x)(he:e3=aj):xq fd fk fx aj C=aa (.im (o.getD x),aj,C3):=by
 subst he;unfold xq;simp only[h1,h2,h3,h4];cases o with
 |none=>simp only[h5,Wf];rfl
 |some d=>simp only[Wf];rfl
def iI(q:List (Str×Str)):List (Str×aB):=q.map λp=>(p.1,.str p.2)
theorem Wg:∀q,Df (b8 (iI q))=aq
 |[]=>rfl
 |x::q=>by
  show(aq&&Df (b8 (iI q)))=aq
  rw[Wg q];rfl
theorem Wh(q:List (Str×Str))(z:Str):qI (b8 (iI q)) (.str z)=aa ((jb q z).map .str):=by
 rw[Ng];unfold iI jb;rw[We,Sw];rfl
theorem acW:∀l:List Int,ji (l.map pA)=aq
 |[]=>rfl
 |x::l=>by
  show(aq&&ji (l.map pA))=aq
  rw[acW l];rfl
theorem sU:∀(n:Nat),nq [.list (cN n (.bool aq))]=aa (.im (.bool aq))/\ji (cN n (.bool aq))=aq:=by
 intro n;have h:boolsOf (cN n (.bool aq))=aa (cN n aq)/\ji (cN n (.bool aq))=aq:=by
  induction n with
  |zero=>exact⟨rfl,rfl⟩
  |succ n ih=>
   rw[vN,vN]
   refine⟨?_,?_⟩
   .unfold boolsOf;rw[ih.1]
   .show(aq&&ji (cN n (.bool aq)))=aq
    rw[ih.2];rfl
 refine⟨?_,h.2⟩
 unfold nq;simp only[h.1,lC];congr 3;rw[lB];intro b hb
 exact(List.mem_replicate.mp hb).2
theorem apE(hN:Names zs)(hP:jV zs ps)(z:Str):∃o,qI (b8 (oH ps ps)) (.str z)=aa o/\o.getD (.list [])=.list ((up ps z).map .str):=by
 have nd:=vZ hN hP;rw[Ng];cases e:jb ps z with
 |none=>
  refine⟨ao,congrArg aa (adV λhm=>?_),by rw[aeY e];rfl⟩
  obtain⟨x,hx,hz⟩:=cY.mp hm
  have:=(sS nd (z:=z) (w:=x.2)).mpr (by rw[<-hz];exact hx);rw[e] at this;cases this
 |some w=>exact⟨_,congrArg aa (ae1 nd ((sS nd).mp e)),rfl⟩
theorem acX:∀ps:List (Str×Str),lF (ps.map bZ)=aq
 |[]=>rfl
 |p::ps=>by show(aq&&lF (ps.map bZ))=aq;rw[acX ps];rfl
theorem acY:∀ps:List fZ,lF (ps.map bV)=aq
 |[]=>rfl
 |p::ps=>by show(aq&&lF (ps.map bV))=aq;rw[acY ps];rfl
theorem acn:∀ps:List j8,lF (ps.map cX)=aq
 |[]=>rfl
 |p::ps=>by show(aq&&lF (ps.map cX))=aq;rw[acn ps];rfl
theorem acZ:∀ps:List nR,lF (ps.map gA)=aq
 |[]=>rfl
 |p::ps=>by show(aq&&lF (ps.map gA))=aq;rw[acZ ps];rfl
theorem ac0:∀rs:List cR,lF (rs.map bR)=aq
 |[]=>rfl
 |r::rs=>by
  show((aq&&(aq&&(lF (r.2.2.map gA)&&aq)))&&lF (rs.map bR))=aq
  rw[ac0 rs,acZ];rfl
theorem amK(h:mO):pP (eE h)=aq:=by
 show(lF (h.ps.map bZ)&&(lF (h.ranks.map bV)&&(lF (h.leaves.map cX)&&(lF (h.rules.map bR)&&aq))))=aq
 rw[acX,acY,acn,ac0];rfl
theorem apF(hz:∀z∈zs,nameB z=aq)(hp:jV zs ps)(g:uX zs ps h):Ge [eE h]=aa (.im (.str (eE h).shown)):=by
 have s:=amE hz hp g;unfold Ge;refine bC ?_;have h1:(eE h).depth<=60:=kI s.deep bA;have h2:(eE h).shown.length<=gG:=kI s.len (by show 200000<=1000000;decide);rw[amK,s.YF,dW h1,dW h2];rfl
theorem BR{zs:List Str}{k:Int}(h0:0<=k)(h1:k<zs.length):∃z,z∈zs/\zs[k.toNat]?=aa z/\gF (zs.map gh) k=aa (.str z):=by
 obtain⟨x,e1,e2⟩:=Xz (xs:=zs.map gh) h0 (by rw[bD];exact h1)
 rw[jC] at e2;cases hz:zs[k.toNat]? with
 |none=>rw[hz] at e2;cases e2
 |some z=>
  rw[hz] at e2;cases e2
  exact⟨z,lX hz,rfl,e1⟩
theorem ari{α:Type}{f:α->aB}{l:List α}{i:Nat}(h:(l.map f)[i]?=aa d):∃x,l[i]?=aa x/\d=f x:=by
 rw[jC] at h;cases hx:l[i]? with
 |none=>rw[hx] at h;cases h
 |some x=>rw[hx] at h;exact⟨x,rfl,(jj h).symm⟩
theorem W9(hN:Names zs)(hP:jV zs ps)(hx:ps[i]?=aa x):
  ∃o,qI (b8 (oH ps (ps.take i))) (.str x.2)=aa o/\o.getD (.list [])=.list ((up ps x.2).map .str)/\putD (b8 (oH ps (ps.take i))) (.str x.1) (.list ((up ps x.1).map .str))=aa (b8 (oH ps (ps.take (i+1))))/\up ps x.1=x.1::up ps x.2:=by
 have nd:=vZ hN hP;have hi:=(jZ.mp hx).1;have lk:jb ps x.1=aa x.2:=(sS nd).mpr (lX hx);have hu:=apy hN hP lk;have ndt:((ps.take i).map (·.1)).Nodup:=by
  rw[Tg];exact nd.sublist (Ru _ _)
 have hg:∃o,qI (b8 (oH ps (ps.take i))) (.str x.2)=aa o/\o.getD (.list [])=.list ((up ps x.2).map .str):=by
  rw[Ng]
  rcases(hP i x hx).2 with h2|⟨j,hj,h2⟩
  .refine⟨ao,?_,?_⟩
   .congr 1;refine adV λhm=>?_
    have hm':x.2∈ps.map (·.1):=by
     rw[Tg] at hm;exact Dw hm
    have:=MT hN hP hm';rw[h2,TF] at this;cases this
   .rw[h2,aeY (UJ hN hP)];rfl
  .have hjl:j<ps.length:=az;have g:=hP j ps[j] (fU hjl);have e2:ps[j].1=x.2:=by
    have:=g.1;rw[h2] at this
    exact(jj this).symm
   have hm:(x.2,ps[j].2)∈ps.take i:=by
    rw[<-e2];have:(ps.take i)[j]?=aa ps[j]:=by rw[Ro,bC hj,fU hjl]
    exact lX this
   exact⟨_,congrArg aa (ae1 ndt hm),rfl⟩
 obtain⟨o,ho1,ho2⟩:=hg
 refine⟨o,ho1,ho2,?_,hu⟩
 have ht:ps.take (i+1)=ps.take i++[x]:=by rw[List.take_add_one,hx];rfl
 rw[adU (l:=oH ps (ps.take i)) (z:=x.1) (d:=.list ((up ps x.1).map .str)),ht]
 .unfold oH;rw[j4];rfl
 .unfold oH;rw[fj];show x.1∉(ps.take i).map (·.1);intro hm
  obtain⟨y,hy,he⟩:=cY.mp hm
  obtain⟨j,hj,hjy⟩:=tX hy
  rw[lZ] at hj;rw[aiJ] at hjy;have h1:(ps.map (·.1))[j]'(by rw[bD];lia)=(ps.map (·.1))[i]'(by rw[bD];lia):=by
   rw[Ay,Ay,hjy,he,<-(jZ.mp hx).2]
  exact Aw.mp nd j i _ _ az h1
def Bf(L:Nat)(C:Ce)(b k:Nat):Prop:=C.length=L/\∃x y z:Int,C[b]?=aa [x,y,z]/\0<=x/\0<=y/\y<=3000000000/\0<=z/\z+k<=900000
theorem Bf.mono(h:Bf L C b k)(hj:j<=k):Bf L C b j:=by
 obtain⟨l,x,y,z,h1,h2,h3,h4,h5,h6⟩:=h
 exact⟨l,x,y,z,h1,h2,h3,h4,h5,az⟩
theorem Bf.eq(h:Bf L C b k)(h':Bf L C' b' k'):C'.length=C.length:=h'.1.trans h.1.symm
theorem arj(C:Ce)(h0:0<=x)(h1:0<=y)(h2:y<=3000000000):Bf (C.length+1) (C++[[x,y,0]]) C.length 800000:=by
 refine⟨bF,x,y,0,?_,h0,h1,h2,Br _,az⟩
 rw[tU (bU _),aby];rfl
theorem JD(a c:Nat)(h:i<n):a+c*(n-i)=a+c*(n-(i+1))+c:=by
 rw[show n-i=(n-(i+1))+1 by lia,Nat.mul_add,Nat.mul_one,Nat.add_assoc]
theorem afR(a:Nat)(h:i<n):a+(n-i)=a+(n-(i+1))+1:=az
theorem ark(hit:s.heap.IsTupleIter it t i)(ht:s.heap.IsTuple t aK)(hx:aK[i]?=aa x)
  (q:∀h',h'.IsTupleIter it t (i+1)->zE it s.heap h'->Q x {s with heap:=h'}):aQ (model prog w) A (Du (.ref it)) Q E s:=by
 obtain⟨o,ho,hc,hd⟩:=id hit
 obtain⟨ol,hol,_,nl,hdl⟩:=ht
 unfold Du;refine aJ (uL (name:=bI "__next__") hit.typeIs Rf (oZ Rf hit.typeIs ahL (show aQ _ _ (field (.ref it) 0 >>= _) _ _ s from aJ (rA ho hd (x:=.ref t) rfl ?_)) (ahI _)));show aQ _ _ (if(dJ t==j6)=aq then _ else _) _ _ s;rw[bB (show ¬((dJ t==j6)=aq) from jK)]
 refine(show aQ _ _ (field (.ref it) 1 >>= _) _ _ s from aJ (rA ho hd (x:=.int i 0) rfl (show aQ _ _ (Bv (.ref t) >>= _) _ _ s from aJ (rm hol hdl ?_))))
 simp only[Dz,hx];refine aJ (xM ho hd bF (bz ⟨x,rfl,bz (q _ ⟨_,vM _ ho (Z5 (Hg hd _)),(aaq ..).trans hc,?_⟩ (rW ..))⟩));rw[Hg hd];simp[jL]
theorem alC(hh:A.handled=ao)(hit:s.heap.IsTupleIter it t i)(ht:s.heap.IsTuple t aK)(hx:aK[i]?=ao)
  (q:∀h' e,Ms it s.heap h'->(∃o,h'.get? e=aa o/\o.cls=.type "StopIteration")->E (.ref e) {s with heap:=h'}):aQ (model prog w) A (Du (.ref it)) Q E s:=by
 obtain⟨o,ho,hc,hd⟩:=id hit
 obtain⟨ol,hol,_,nl,hdl⟩:=ht
 unfold Du;refine aJ (uL (name:=bI "__next__") hit.typeIs Rf (oZ Rf hit.typeIs ahL (show aQ _ _ (field (.ref it) 0 >>= _) _ _ s from aJ (rA ho hd (x:=.ref t) rfl ?_)) (ahI _)));show aQ _ _ (if(dJ t==j6)=aq then _ else _) _ _ s;rw[bB (show ¬((dJ t==j6)=aq) from jK)]
 refine(show aQ _ _ (field (.ref it) 1 >>= _) _ _ s from aJ (rA ho hd (x:=.int i 0) rfl (show aQ _ _ (Bv (.ref t) >>= _) _ _ s from aJ (rm hol hdl ?_))))
 simp only[Dz,hx];refine aJ (ug (aJ (xM ho hd bF (show aQ _ _ (Jp (.type "StopIteration") [] >>= _) _ _ _ from aJ ?_))));simp only[Jp,Vz];refine aJ (mJ (aJ (m:=Hr _ _) (HS (a:=j6) (by first|rfl|(simp only[Hr];rfl)) (mJ ?_ (by size_fits)))) (by size_fits));simp only[VB];refine aJ (abo ?_)
 first|rw[show A.in1.handled=ao from hh,] |rw[hh]
 exact aJ (bz (abO (q _ _ (((rW ..).extBut.push _).push _) ⟨_,gR _ rfl,rfl⟩)))
theorem Vn(hh:A.handled=ao)(it t:aH)(ne:t≠it)(aK:Array aL):Draws prog w A it [it,t] aK.size (λi v=>aK[i]?=aa v) (λi h=>h.IsTupleIter it t i/\h.IsTuple t aK) where
 live:=λ_ _ st=>let ⟨o,ho,_⟩:=st.1;⟨o,ho⟩
 frame:=λ_ _ _ st k=>⟨let ⟨o,e,r⟩:=st.1;⟨o,k it bF o e,r⟩,let ⟨o,e,r⟩:=st.2;⟨o,k t bF o e,r⟩⟩
 item:=λi s Q E hi st q=>ark st.1 st.2 (x:=aK[i]) (by simp[hi]) λh' a b=>q _ h' s.toks (by simp[hi]) ⟨a,st.2.extBut b.extBut ne⟩ b
 done:=λs Q E st q=>alC hh st.1 st.2 bF q
section
variable{prog:fV}{w:dD}{A:iz}{E:aL->aZ->Prop}{s:aZ}{z TI TO i1 i2 l1 l2:aH}{f1 f2:List aH}{n:Nat}{P1 P2:Nat->aL->Prop}{S1 S2:Nat->cu->Prop}
theorem apG(D:Vx z TI TO i1 i2 l1 l2)(D1:Draws prog w A.in1 i1 [i1,l1] n P1 S1)(D2:Draws prog w A.in1 i2 [i2,l2] n P2 S2)(hi:i<n)
  (hz:ux s.heap z TI TO .none)(hI:pU s.heap TI (.ref i1) (.ref i2))(hO:pU s.heap TO a b)(h1:S1 i s.heap)(h2:S2 i s.heap)
  (q:∀h' tk x y T,P1 i x->P2 i y->s.heap.objs.size<=T->ux h' z TI TO (jL T)->pU h' TO x y->S1 (i+1) h'->S2 (i+1) h'->pU h' T x y->(∀c o,c∉[z,TO,i1,i2]->s.heap.get? c=aa o->h'.get? c=aa o)->Q (aa (.ref T)) {s with heap:=h',toks:=tk}):
  aQ (model prog w) A (j7 (.ref z)) Q E s:=by
 have hT:s.TypeIs (.ref z) "zip":=⟨_,hz,rfl⟩
 have k1:∀{h h':cu}{c:aH}{j:Nat},c≠i1->c≠l1->Ms c h h'->S1 j h->S1 j h':=λ{h h' c j} e1 e2 k st=>D1.frame _ _ _ st λb hb o e=>k b o (λz=>by subst z;simp at hb;rcases hb with hb|hb;exact e1 hb;exact e2 hb) e
 have k2:∀{h h':cu}{c:aH}{j:Nat},c≠i2->c≠l2->Ms c h h'->S2 j h->S2 j h':=λ{h h' c j} e1 e2 k st=>D2.frame _ _ _ st λb hb o e=>k b o (λz=>by subst z;simp at hb;rcases hb with hb|hb;exact e1 hb;exact e2 hb) e
 unfold j7;refine aJ (Bo (uL (name:=bI "__next__") hT R8 (oZ R8 hT ajf ?_ (aiS _))))
 refine(show aQ _ _ (field (.ref z) 2 >>= _) _ _ _ from aJ (rA hz rfl (x:=.bool aA) rfl (show aQ _ _ (field (.ref z) 3 >>= _) _ _ _ from aJ (rA hz rfl (x:=.ref TI) rfl (aJ (rm hI rfl ?_))))))
 show aQ _ _ (Q7 (.ref z) >>= _) _ _ _;refine aJ ?_;unfold Q7;refine aJ (rA hz rfl (x:=.none) rfl (bz ?_));simp only[if_true];refine aJ (ug (aJ (rA hz rfl (x:=.ref TO) rfl (aJ (K1 hz bF λg1 z1 m1=>?_)))));replace z1:ux g1 z TI TO .ellipsis:=z1;refine aJ ?_;simp only[ajg,ajq,aaP,ajC];refine aJ (aJ (abp (show aQ _ _ (Du (.ref i1) >>= _) _ _ _ from aJ (D1.item i _ _ _ hi (k1 D.i1z.symm D.l1z.symm m1.extBut h1) λx g2 t2 px s2 m2=>bz ?_))));have o2:pU g2 TO a b:=m2.extBut _ _ D.TOi1 (m1.extBut _ _ D.TOz hO);refine aJ (rm o2 rfl (aJ (ail o2 λg3 o3 m3=>aJ (xQ (bz ?_)))));replace o3:pU g3 TO x b:=o3;refine aJ (aJ (abp (show aQ _ _ (Du (.ref i2) >>= _) _ _ _ from aJ (D2.item i _ _ _ hi (k2 D.TOi2 D.l2TO.symm m3.extBut (k2 D.i12 D.l2i1.symm m2.extBut (k2 D.i2z.symm D.l2z.symm m1.extBut h2))) λy g4 t4 py s4 m4=>bz ?_))));have o4:pU g4 TO x b:=m4.extBut _ _ D.TOi2 o3;refine aJ (rm o4 rfl (aJ (ail o4 λg5 o5 m5=>aJ (xQ (bz (bz ?_))))));replace o5:pU g5 TO x y:=o5;refine aJ (rm o5 rfl (aJ (wpAny_newTuple ?_)));have sz:g5.objs.size=s.heap.objs.size:=by rw[m5.1,m4.1,m3.1,m2.1,m1.1]
 have z5:ux g5 z TI TO .ellipsis:=m5.extBut _ _ D.TOz.symm (m4.extBut _ _ D.i2z.symm (m3.extBut _ _ D.TOz.symm (m2.extBut _ _ D.i1z.symm z1)));have keep:∀c o,c∉[z,TO,i1,i2]->s.heap.get? c=aa o->g5.get? c=aa o:=λc o hc e=>by
  simp only[cg,kE,or_false,not_or] at hc;exact m5.extBut _ _ hc.2.1 (m4.extBut _ _ hc.2.2.2 (m3.extBut _ _ hc.2.1 (m2.extBut _ _ hc.2.2.1 (m1.extBut _ _ hc.1 e))))
 have u1:S1 (i+1) g5:=k1 D.TOi1 D.l1TO.symm m5.extBut (k1 D.i12.symm D.l1i2.symm m4.extBut (k1 D.TOi1 D.l1TO.symm m3.extBut s2));have u2:S2 (i+1) g5:=k2 D.TOi2 D.l2TO.symm m5.extBut s4;have zl:z<g5.objs.size:=cL z5;show aQ _ _ (ahE (.ref z) (.ref g5.objs.size) >>= _) _ _ _;refine aJ ?_;unfold ahE;have z6:ux (g5.push {cls:=.type "tuple",data:=.seq #[x,y]}) z TI TO .ellipsis:=cG _ z5;refine aJ (K1 z6 bF λg7 z7 m7=>?_);replace z7:ux g7 z TI TO (jL g5.objs.size):=z7;refine K1 z7 bF λg8 z8 m8=>?_
 replace z8:ux g8 z TI TO (jL g5.objs.size):=z8;have up:Ms z g5 g8:=λc o hc e=>m8.extBut _ _ hc (m7.extBut _ _ hc (cG _ e))
 refine bz ⟨_,rfl,bz ?_⟩;refine q g8 _ x y g5.objs.size px py (akg sz.symm) z8 (up _ _ D.TOz o5) (k1 D.i1z.symm D.l1z.symm up u1) (k2 D.i2z.symm D.l2z.symm up u2) ?_ λc o hc e=>up _ _ (λz=>hc (by simp[z])) (keep c o hc e)
 exact m8.extBut _ _ (uR zl) (m7.extBut _ _ (uR zl) (gR _ rfl))
theorem arl(D:Vx z TI TO i1 i2 l1 l2)(D1:Draws prog w A.in1 i1 [i1,l1] n P1 S1)(hz:ux s.heap z TI TO .none)(hI:pU s.heap TI (.ref i1) (.ref i2))(hO:pU s.heap TO a b)(h1:S1 n s.heap)
  (q:∀h',(∀c o,c∉[z,TO,i1,i2]->s.heap.get? c=aa o->h'.get? c=aa o)->Q ao {s with heap:=h'}):aQ (model prog w) A (j7 (.ref z)) Q E s:=by
 have hT:s.TypeIs (.ref z) "zip":=⟨_,hz,rfl⟩
 unfold j7;refine aJ (Bo (uL (name:=bI "__next__") hT R8 (oZ R8 hT ajf ?_ (aiS _))))
 refine(show aQ _ _ (field (.ref z) 2 >>= _) _ _ _ from aJ (rA hz rfl (x:=.bool aA) rfl (show aQ _ _ (field (.ref z) 3 >>= _) _ _ _ from aJ (rA hz rfl (x:=.ref TI) rfl (aJ (rm hI rfl ?_))))))
 show aQ _ _ (Q7 (.ref z) >>= _) _ _ _;refine aJ ?_;unfold Q7;refine aJ (rA hz rfl (x:=.none) rfl (bz ?_));simp only[if_true];refine aJ (ug (aJ (rA hz rfl (x:=.ref TO) rfl (aJ (K1 hz bF λg1 z1 m1=>?_)))));replace z1:ux g1 z TI TO .ellipsis:=z1;refine aJ ?_;simp only[ajg,ajq,aaP,ajC];refine aJ (aJ (abp (show aQ _ _ (Du (.ref i1) >>= _) _ _ _ from aJ (D1.done _ _ _ (D1.frame _ _ _ h1 λb hb o e=>m1.extBut b o (λz=>by subst z;simp at hb;rcases hb with hb|hb;exact D.i1z hb.symm;exact D.l1z hb.symm) e) λg2 x m2 hx=>?_))))
 obtain⟨ox,e1,e2⟩:=hx
 have z2:ux g2 z TI TO .ellipsis:=m2 _ _ D.i1z.symm z1;have nz:x≠z:=λy=>by subst y;rw[z2] at e1;cases e1;simp at e2
 refine K1 z2 bF λg3 _ m3=>?_
 refine aJ (RJ (T:="StopIteration") (b:=aq) ⟨ox,m3.extBut _ _ nz e1,e2⟩ aa5 (bz (q _ λc o hc e=>?_)));simp only[cg,kE,or_false,not_or] at hc;exact m3.extBut _ _ hc.1 (m2 _ _ hc.2.2.1 (m1.extBut _ _ hc.1 e))
end
abbrev G4(h:cu)(a:aH):cu:=h.push {cls:=.type "tuple_iterator",data:=.fields #[.ref a,.int 0 0]}
abbrev Q4(h:cu)(a b:aH):cu:=G4 (G4 h a) b
abbrev Q5(h:cu)(a b:aH):cu:=(Q4 h a b).push {cls:=.type "tuple",data:=.seq #[.ref h.objs.size,.ref (G4 h a).objs.size]}
abbrev Q6(h:cu)(a b:aH):cu:=(Q5 h a b).push {cls:=.type "tuple",data:=.seq #[.none,.none]}
abbrev G5(h:cu)(a b:aH):cu:=(Q6 h a b).push {cls:=.type "zip",data:=.fields #[.none,.bool aA,.bool aA,.ref (Q4 h a b).objs.size,.ref (Q5 h a b).objs.size]}
theorem arn(a b:aH)(xs ys:Array aL):Meets (mq.«zip.__new__» ⟨[.type "zip",.ref a,.ref b],[]⟩) (λ_ R s=>s.heap.IsTuple a xs/\s.heap.IsTuple b ys/\R (.ok (.ret (.ref (Q6 s.heap a b).objs.size))) {s with heap:=G5 s.heap a b}):=
 .of_wp λprog w A R s h=>by
  obtain⟨hp,g,d,tk,os⟩:=s;obtain⟨h1,h2,q⟩:=h
  have sub:=sub_zip;have t1:ako (akX ⟨hp,g,d,tk,os⟩) a xs:=h1;have t2:ako (akX ⟨G4 hp a,g,d,tk,os⟩) b ys:=av9 h2 _;wp_walk using aad t1,aad t2
  exact⟨_,rfl,q⟩
theorem amL(h1:s.heap.IsTuple a xs)(h2:s.heap.IsTuple b ys)
  (q:∀h',ux h' (s.heap.objs.size+4) (s.heap.objs.size+2) (s.heap.objs.size+3) .none->pU h' (s.heap.objs.size+2) (.ref s.heap.objs.size) (.ref (s.heap.objs.size+1))->pU h' (s.heap.objs.size+3) .none .none->h'.IsTupleIter s.heap.objs.size a 0->h'.IsTupleIter (s.heap.objs.size+1) b 0->
   (∀c o,s.heap.get? c=aa o->h'.get? c=aa o)->Q (.ref (s.heap.objs.size+4)) {s with heap:=h'}):aQ (model prog w) A (call (.type "zip") [.ref a,.ref b]) Q E s:=by
 refine callType_new F.called_zip bA (F.typeCall_zip_2 _ _) (F.newCall_zip_2 _ _) (λobj=>F.args_object_init_3 obj _ _) F.entry_zip_new (arn a b xs ys) ⟨h1,h2,?_⟩;have z1:(G4 s.heap a).objs.size=s.heap.objs.size+1:=sy ..;have z2:(Q4 s.heap a b).objs.size=s.heap.objs.size+2:=(sy ..).trans (by rw[z1]);have z3:(Q5 s.heap a b).objs.size=s.heap.objs.size+3:=(sy ..).trans (by rw[z2]);have z4:(Q6 s.heap a b).objs.size=s.heap.objs.size+4:=(sy ..).trans (by rw[z3]);have g5:(G5 s.heap a b).get? (Q6 s.heap a b).objs.size=aa _:=gR _ rfl;have g4:(G5 s.heap a b).get? (Q5 s.heap a b).objs.size=aa _:=cG _ (gR _ rfl);have g3:(G5 s.heap a b).get? (Q4 s.heap a b).objs.size=aa _:=cG _ (cG _ (gR _ rfl));have g2:(G5 s.heap a b).get? (G4 s.heap a).objs.size=aa _:=cG _ (cG _ (cG _ (gR _ rfl)));have g1:(G5 s.heap a b).get? s.heap.objs.size=aa _:=cG _ (cG _ (cG _ (cG _ (gR _ rfl))));rw[z2,z3,z4] at g5;rw[z1,z2] at g3;rw[z3] at g4;rw[z1] at g2;show _/\_;rw[z4]
 exact⟨⟨_,g5,rfl⟩,q _ g5 g3 g4 ⟨_,g1,rfl,rfl⟩ ⟨_,g2,rfl,rfl⟩ λc o e=>cG _ (cG _ (cG _ (cG _ (cG _ e))))⟩
def YH(K:bw)(a b:aH):It:=⟨λi H=>∃xs ys,dg K H a xs/\dg K H b ys/\xs.length=ys.length/\i<xs.length,
 λi H v H'=>∃p x y,H p=ao/\v=.ref p/\H'=upd H p (.tup [x,y])/\∀xs ys,dg K H a xs->dg K H b ys->xs[i]?=aa x/\ys[i]?=aa y,
 λi H=>∃xs ys,dg K H a xs/\dg K H b ys/\xs.length=ys.length/\i=xs.length⟩
theorem amM{P:fV}{w:dD}{K:bw}{es:List Expr}{k:Nat}{ps:Pos}{a b z TI TO i1 i2:aH}(D:Vx z TI TO i1 i2 a b):
  Turn P w K (.Tuple es k ps) (YH K a b) [z,TI,TO,i1,i2] z (λi h=>ux h z TI TO .none/\pU h TI (.ref i1) (.ref i2)/\(∃c d,pU h TO c d)/\h.IsTupleIter i1 a i/\h.IsTupleIter i2 b i) where
 mem:=bF
 obj:=λi h st c hc=>by
  obtain⟨h1,h2,⟨_,_,h3⟩,⟨o4,e4,_,d4⟩,⟨o5,e5,_,d5⟩⟩:=st
  simp only[cg,kE,or_false] at hc;rcases hc with rfl|rfl|rfl|rfl|rfl
  .exact⟨_,h1,λv q=>by cases q⟩
  .exact⟨_,h2,λv q=>by cases q⟩
  .exact⟨_,h3,λv q=>by cases q⟩
  .exact⟨_,e4,λv q=>by rw[d4] at q;cases q⟩
  .exact⟨_,e5,λv q=>by rw[d5] at q;cases q⟩
 keep:=λi h h' st kk=>by
  obtain⟨h1,h2,⟨c,d,h3⟩,⟨o4,e4,r4⟩,⟨o5,e5,r5⟩⟩:=st
  exact⟨kk z bF _ h1,kk TI bF _ h2,⟨c,d,kk TO bF _ h3⟩,⟨o4,kk i1 bF _ e4,r4⟩,⟨o5,kk i2 bF _ e5,r5⟩⟩
 item:=by
  intro X hP hw hK hc i au s σ H E I hf st hg;subst hP hw hK
  obtain⟨xs,ys,ha,hb,hn,hi⟩:=hg
  obtain⟨aK,r1,p1,_⟩:=I.tuple ha
  obtain⟨its2,r2,p2,_⟩:=I.tuple hb
  have l1:=r1.length;have l2:=r2.length;have hh:X.A.in1.handled=ao:=by simp[I.ok.hd hc]
  have D1:=Vn (prog:=X.prog) (w:=X.w) hh i1 a D.l1i1 aK.toArray;have D2:Draws X.prog X.w X.A.in1 i2 [i2,b] aK.toArray.size (λi v=>its2.toArray[i]?=aa v) (λi h=>h.IsTupleIter i2 b i/\h.IsTuple b its2.toArray):=by
   have:=Vn (prog:=X.prog) (w:=X.w) hh i2 b D.l2i2 its2.toArray;rw[show aK.toArray.size=its2.toArray.size by simp;lia];exact this
  obtain⟨s1,s2,⟨c3,d3,s3⟩,s4,s5⟩:=st
  refine apG D D1 D2 (by simp;lia) s1 s2 s3 ⟨s4,p1⟩ ⟨s5,p2⟩ λh' tk x y T px py hT a1 a2 a3 a4 a5 kk=>⟨_,rfl,wpAny_letOwnedTupleGo_zip a1 λh2 z2 m2=>?_⟩
  have ltz:z<T:=pQ (cL s1) hT;have ex:xs[i]?=aa (xs.getD i .non):=by
   have:i<xs.length:=hi;simp[pR,this]
  have ey:ys[i]?=aa (ys.getD i .non):=by
   have:i<ys.length:=az;simp[pR,this]
  obtain⟨u1,hu1,q1⟩:=r1.get ex
  obtain⟨u2,hu2,q2⟩:=r2.get ey
  have e1:u1=x:=by
   have:aK[i]?=aa x:=by simpa using px
   rw[hu1] at this;exact jj this
  have e2:u2=y:=by
   have:its2[i]?=aa y:=by simpa using py
   rw[hu2] at this;exact jj this
  subst e1 e2;have wf:∀c,c∈[z,TO,i1,i2]->lU X au H c:=λc hc=>hf c (by simp at hc⊢;rcases hc with rfl|rfl|rfl|rfl<;>simp)
  have J5:H T=ao:=I.hok.fresh hT;have kT:pU h2 T u1 u2:=m2.extBut _ _ (uR ltz) a5
  refine⟨.ref T,upd H T (.tup [xs.getD i .non,ys.getD i .non]),I.Og (t':=tk) (λc o hc e=>m2.extBut _ _ (λz=>hc (by simp[z])) (kk c o hc e)) wf (cO.upd J5) (λc o e n=>?_) (λc u e=>?_),rfl,⟨T,_,_,J5,rfl,rfl,λxs' ys' h1 h2=>?_⟩,?_,λc hc=>?_⟩
  .rw[fD]
   .exact n
   .intro z;subst z;exact absurd (cL e) (Ij.mpr hT)
  .by_cases J6:c=T
   .subst J6;rw[gV] at e;cases e;exact .inr ⟨by show 2<=cH;decide,[u1,u2],.cons q1 (.cons q2 .nil),_,kT,rfl,_,rfl⟩
   .rw[fD J6] at e;exact .inl e
  .rw[I.U5 h1 ha,I.U5 h2 hb]
   exact⟨ex,ey⟩
  .have ltI:TI≠z:=D.TIz
   refine⟨z2,m2.extBut _ _ D.TIz (kk _ _ ?_ s2),⟨_,_,m2.extBut _ _ D.TOz a2⟩,a3.1.extBut m2.extBut D.i1z,a4.1.extBut m2.extBut D.i2z⟩
   simp only[cg,kE,or_false,not_or]
   exact⟨D.TIz,D.TITO,D.TIi1,D.TIi2⟩
  .rw[fD]
   .exact(hf c hc).1
   .intro e;subst e;have:c<s.heap.objs.size:=by
     simp only[cg,kE,or_false] at hc
     obtain⟨o4,e4,_⟩:=s4
     obtain⟨o5,e5,_⟩:=s5
     rcases hc with rfl|rfl|rfl|rfl|rfl
     .exact cL s1
     .exact cL s2
     .exact cL s3
     .exact cL e4
     .exact cL e5
    exact absurd this (Ij.mpr hT)
 done:=by
  intro X hP hw hK hc i au s σ H E I hf st hg;subst hP hw hK
  obtain⟨xs,ys,ha,hb,hn,hi⟩:=hg
  obtain⟨aK,r1,p1,_⟩:=I.tuple ha
  have l1:=r1.length;have hh:X.A.in1.handled=ao:=by simp[I.ok.hd hc]
  have D1:=Vn (prog:=X.prog) (w:=X.w) hh i1 a D.l1i1 aK.toArray
  obtain⟨s1,s2,⟨c3,d3,s3⟩,s4,s5⟩:=st
  have e:i=aK.toArray.size:=by simp;lia
  subst e;have wf:∀c,c∈[z,TO,i1,i2]->lU X au H c:=λc hc=>hf c (by simp at hc⊢;rcases hc with rfl|rfl|rfl|rfl<;>simp)
  exact arl D D1 s1 s2 s3 ⟨s4,p1⟩ λh' kk=>⟨rfl,I.Og (t':=s.toks) kk wf (cO.refl H) (λ_ _ _ n=>n) λ_ _ e=>.inl e⟩
 self:=λ_ _ _ _ _ st h=>RG st.1 h
def asG(K:bw)(t:TA):TI:=λσ H R=>t σ H λvs H1=>∃a b xs ys,vs=[.ref a,.ref b]/\dg K H1 a xs/\dg K H1 b ys/\R (YH K a b) H1
theorem apH{X:Cx}{es:List Expr}{k:Nat}{ps:Pos}{t:TA}{p pos:Pos}(hg:Gl X "zip")(hm:X.mg "zip"=ao)(ha:PA X [x,y] t)(hs:bM [x,y] X.env=[(aA,eval x X.env),(aA,eval y X.env)]:=by rfl)(hs2:bM [y] X.env=[(aA,eval y X.env)]:=by rfl):
  PI X (.Tuple es k ps) (.Call (.Name "zip" p) [x,y] [] pos) (asG X.K t):=by
 intro au s σ H R I h;refine Call_ (wI I hg hm ah7 (KD (b7 (ha pos au s σ H _ I h) λus s1 aY=>?_) (by rw[hs,hs2]) (by rw[hs2];rfl)))
 obtain⟨vs,H1,I1,r1,a,b,xs,ys,e,h1,h2,q⟩:=aY
 subst e;cases r1 with
 |cons r rr=>
  cases rr with
  |cons r' rr=>
   cases rr;cases r;cases r'
   obtain⟨aK,v1,p1,_⟩:=I1.tuple h1
   obtain⟨its2,v2,p2,_⟩:=I1.tuple h2
   have Zd:a<s1.heap.objs.size:=by obtain⟨_,e,_⟩:=p1;exact cL e
   have uH:b<s1.heap.objs.size:=by obtain⟨_,e,_⟩:=p2;exact cL e
   refine amL p1 p2 λh' g1 g2 g3 g4 g5 kk=>RG g1 ?_
   have I2:Inv X au σ H1 {s1 with heap:=h'}:=I1.kept (t':=s1.toks) kk
   refine⟨s1.heap.objs.size+4,[s1.heap.objs.size+4,s1.heap.objs.size+2,s1.heap.objs.size+3,s1.heap.objs.size,s1.heap.objs.size+1],_,_,H1,rfl,I2,amM (zipApart_new Zd uH),⟨g1,g2,⟨_,_,g3⟩,g4,g5⟩,λc hc=>?_,q⟩
   refine I1.wY ?_ (I1.hok.fresh ?_)
   all_goals
    simp only[cg,kE,or_false] at hc;rcases hc with rfl|rfl|rfl|rfl|rfl<;>lia
theorem apI{K:bw}{H:Hp}{a b:aH}{vs ws:List V}(ha:er P H a=aa (.tup vs))(hb:er P H b=aa (.tup ws))(r1:cM (er P H) ds vs)(r2:cM (er P H) es ws)(hl:ds.length=es.length):yM P T H (YH K a b) (mU ds es):=λi H2 P2 s1 s2 n=>by
 have h2:dg K H2 a vs:=dg.of (jt (s1 _ _ ha));have h3:dg K H2 b ws:=dg.of (jt (s1 _ _ hb));have l1:=jU r1;have l2:=jU r2
 refine⟨λd hd=>?_,λhi=>⟨vs,ws,h2,h3,az,by rw[hi,V9];lia⟩⟩
 obtain⟨x,y,e1,e2,rfl⟩:=W3 hd
 obtain⟨v,ev,rv⟩:=uv r1 e1
 obtain⟨w,ew,rw'⟩:=uv r2 e2
 refine⟨⟨vs,ws,h2,h3,az,(jZ.mp ev).1⟩,λz H3 yl=>?_⟩
 obtain⟨p,v',w',hp,rfl,rfl,hh⟩:=yl
 obtain⟨g1,g2⟩:=hh vs ws h2 h3
 rw[ev] at g1;rw[ew] at g2;cases g1;cases g2;have sp:cO H2 (upd H2 p (.tup [v,w])):=cO.upd hp
 refine⟨sp,p,[v,w],rfl,?_,v,[w],rfl,rv.same (s1.trans (Oj sp)),w,[],rfl,rw'.same (s1.trans (Oj sp)),rfl⟩
 unfold er;rw[bB (λm=>n p m hp),gV]
def zL:aB->Option (Bool×List aB)
 |.list xs=>aa (aq,xs)
 |.tuple xs=>aa (aA,xs)
 |_=>ao
def QG:List aB->Option (List aB)
 |[x,y]=>(zL x).bind λp=>(zL y).bind λq=>if p.1=q.1/\(p.1=aq\/p.2.length=q.2.length) then aa (mU p.2 q.2) else ao
 |_=>ao
theorem ae2(xs ys:List aB):QG [.list xs,.list ys]=aa (mU xs ys):=bC (c:=aq=aq/\(aq=aq\/xs.length=ys.length)) (e:=ao) ⟨rfl,.inl rfl⟩
theorem apJ(h:xs.length=ys.length):QG [.tuple xs,.tuple ys]=aa (mU xs ys):=bC (c:=aA=aA/\(aA=aq\/xs.length=ys.length)) (e:=ao) ⟨rfl,.inr h⟩
theorem agq(h:zL x=aa (b,xs)):x=cond b (.list xs) (.tuple xs):=by
 cases x<;>first|(cases h;rfl)|cases h
theorem apK(h:QG ds=aa l):∃xs ys,(ds=[.list xs,.list ys]\/ds=[.tuple xs,.tuple ys]/\xs.length=ys.length)/\l=mU xs ys:=by
 match ds,h with
 |[x,y],h=>
  obtain⟨⟨b,xs⟩,hx,h⟩:=qU.mp h
  obtain⟨⟨c,ys⟩,hy,h⟩:=qU.mp h
  rw[agq hx,agq hy];split at h
  .rename_i hc
   obtain⟨h1,h2⟩:=hc
   cases h
   cases(show b=c from h1)
   refine⟨xs,ys,?_,rfl⟩
   cases b with
   |true=>exact .inl rfl
   |false=>exact .inr ⟨rfl,h2.resolve_left jK⟩
  .cases h
def GD(f:Am):FI:=λaj C=>(f aj C).bind λp=>(QG p.1).map λl=>(l,p.2)
theorem ae3(hg:Gl X "zip")(hm:X.mg "zip"=ao)(ha:PA X [x,y] (yW X.K f))(hs:bM [x,y] X.env=[(aA,eval x X.env),(aA,eval y X.env)]:=by rfl)(hs2:bM [y] X.env=[(aA,eval y X.env)]:=by rfl):
  PI X (.Tuple es k ps) (.Call (.Name "zip" p) [x,y] [] pos) (tI X.K aq (GD f)):=((aqP hg hm ha hs hs2).or (apH hg hm ha hs hs2)).weak λσ H R aY=>by
 obtain⟨Z,Θ,aj,C,aK,aW,C',S,hf,q⟩:=aY
 refine hide λGG gg=>?_
 obtain⟨⟨ds,e1,C1⟩,h1,h2⟩:=qU.mp hf
 obtain⟨l,h3,h4⟩:=Ax.mp h2
 cases h4
 obtain⟨xs,ys,hd,rfl⟩:=apK h3
 rcases hd with rfl|⟨rfl,hl⟩
 .refine gg (.inl ⟨Z,Θ,aj,C,_,aW,C',S,h1,λvs H1 k f S1 b1=>?_⟩);refine hide λG2 g2=>?_
  obtain⟨_,_,rfl,b1,b2⟩:=Qi b1
  obtain⟨a,vs1,rfl,ha,r1⟩:=b1
  obtain⟨b,vs2,rfl,hb,r2⟩:=b2
  exact g2 ⟨a,b,vs1,vs2,rfl,cj.of (jt ha),cj.of (jt hb),q _ H1 k f S1 (aq8 ha hb r1 r2)⟩
 .refine gg (.inr ⟨Z,Θ,aj,C,_,aW,C',S,h1,λvs H1 k f S1 b1=>?_⟩);refine hide λG2 g2=>?_
  obtain⟨_,_,rfl,b1,b2⟩:=Qi b1
  obtain⟨a,vs1,rfl,ha,r1⟩:=b1
  obtain⟨b,vs2,rfl,hb,r2⟩:=b2
  exact g2 ⟨a,b,vs1,vs2,rfl,dg.of (jt ha),dg.of (jt hb),q _ H1 k f S1 (apI ha hb r1 r2 hl)⟩
theorem ae4(h:cM H ds vs):∀n,cM H (cN n ds).flatten (cN n vs).flatten
 |0=>rfl
 |n+1=>by
  rw[vN,vN,Hh,Hh];exact BW h (ae4 h n)
section
variable{X:Cx}
end
def n1(f s:Int)(k:Nat):Str:=⟨#[97+((f+s*k)%26).toNat]⟩
def v2(f s:Int)(k:Nat):Int:=(f+s*k)%676
def two(v:Int):Str:=(⟨#[97+(v / 26).toNat]⟩:Str)++(⟨#[97+(v%26).toNat]⟩:Str)
def n2(hd tl:Str)(f s:Int)(q:Nat->Int)(k:Nat):Str:=hd++two (v2 f s k)++Txt.slice tl ao (aa (q k))
def sl(z:Str)(n k:Nat):Str:=Txt.slice z (aa (k:Int)) (aa ((k:Int)+(n:Int)))
def sb(z:Str)(n:Nat):List Str:=(dh (8-n)).map (sl z (n+1))
end L2
namespace L2
section
variable{β:Type}[DecidableEq β]{ws:List (Int×β×β)}{s:β}
def gQ(st:List (β×Int))(p:β):Option Int:=(st.find? λx=>decide (x.1=p)).map (·.2)
theorem Ja{p:β}:gQ st p=ao↔p∉st.map (·.1):=by
 unfold gQ;rw[ah4,aaj];simp only[cY,not_exists,not_and,decide_eq_true_eq]
theorem apL(st:List (β×Int))(new:List β)(k:Int)(p:β):gQ (st++new.map λg=>(g,k)) p=if p∈st.map (·.1) then gQ st p else if p∈new then aa k else ao:=by
 unfold gQ;rw[List.find?_append];by_cases h:p∈st.map (·.1)
 .rw[bC h]
  obtain⟨x,hx,rfl⟩:=cY.mp h
  cases e:st.find? λy=>decide (y.1=x.1) with
  |none=>exact absurd (dW rfl) (aaj.mp e x hx)
  |some y=>rfl
 .rw[bB h,(ah4.mp (Ja.mpr h):st.find? _=ao),Option.none_or];induction new with
  |nil=>rfl
  |cons g new ih=>
   rw[dU,xJ];by_cases e:g=p
   .subst e;rw[dW rfl,bC eV];rfl
   .rw[jy e,ih];have:p∈g::new↔p∈new:=by rw[cg];exact⟨λz=>z.resolve_left λz=>e z.symm,.inr⟩
    simp only[this]
theorem adW(x:β×Int)(l:List (β×Int))(p:β):gQ (x::l) p=if x.1=p then aa x.2 else gQ l p:=by
 unfold gQ;rw[xJ];by_cases h:x.1=p
 .rw[dW h,bC h];rfl
 .rw[jy h,bB h]
theorem ac1:∀{l m:List β},l.Nodup->m.Nodup->(∀x,x∈l↔x∈m)->l.Perm m
 |[],m,_,_,h=>by
  cases m with
  |nil=>exact .refl _
  |cons x _=>exact absurd ((h x).mpr eV) kE
 |a::l,m,hl,hm,h=>by
  have ha:=(h a).mp eV
  refine((ac1 (m:=m.erase a) (mK.mp hl).2 (hm.erase a) λx=>?_).cons a).trans (List.perm_cons_erase ha).symm
  constructor
  .intro hx;have ne:x≠a:=λz=>(mK.mp hl).1 (z▸hx)
   exact(aik ne).mpr ((h x).mp (fQ _ hx))
  .intro hx;have hx':=(h x).mpr (List.mem_of_mem_erase hx);rcases cg.mp hx' with rfl|hx'
   .exact absurd hx (List.Nodup.not_mem_erase hm)
   .exact hx'
end
end L2
namespace L2
open PySem PySem.Spec PyProof.Rows PySem.W
def Dg:Option (Option Vl)->Option (List aB)
 |some (some (.ow (.list ds)))=>aa ds
 |_=>ao
theorem O1(h:Dg x=aa ds):x=aa (aa (.ow (.list ds))):=by
 unfold Dg at h;split at h
 .cases h;rfl
 .cases h
def Yj(i j:Nat)(f:FB):FS:=λaj C=>(Dg aj[i]?).bind λ_=>(Dg aj[j]?).bind λ_=>(f aj C).bind λp=>(Dg p.2.1[i]?).bind λds=>(Dg p.2.1[j]?).bind λes=>(intD p.1).bind λk=>(if 0<=k/\k<gG then es[k.toNat]? else ao).bind λy=>if ds.length<gG/\i≠j then aa (.nx,(p.2.1.set j (aa (.ow (.list (es.eraseIdx k.toNat))))).set i (aa (.ow (.list (ds++[y])))),p.2.2) else ao
theorem ac2:∀{ds:List aB}{vs:List V}(n:Nat),cM H ds vs->cM H (ds.eraseIdx n) (vs.eraseIdx n)
 |[],vs,n,r=>by
  have:vs=[]:=r;subst this;exact r
 |x::ds,vs,0,r=>by
  obtain⟨v,r',rfl,_,w⟩:=r
  exact w
 |x::ds,vs,n+1,r=>by
  obtain⟨v,r',rfl,q,w⟩:=r
  exact⟨v,_,rfl,q,ac2 n w⟩
theorem apM(ho:PE X o (uD i))(ho2:PE X o2 (uD j))(he:PE X e (fK X.K f))
  (hs0:wu (.Call (.Attribute o "append" apos) [.Call (.Attribute o2 "pop" Gp) [e] [] yF] [] cpos) ao pos.line X.env=pure aA:=by rfl)
  (hbase:Hw o "append" X.env (eval o X.env)=eval o X.env:=by rfl)
  (hfew:((iC cpos (bM [.Call (.Attribute o2 "pop" Gp) [e] [] yF] X.env)).all (λx=>!x.1)&&(Iz cpos (HR [] X.env)).all (λx=>x.1.isSome)
   &&decide (([.Call (.Attribute o2 "pop" Gp) [e] [] yF]:List Expr).length+([]:List uZ).length+(if([]:List uZ).isEmpty then 0 else 1)<30))=aq:=by rfl)
  (hline:(apos.endLine==cpos.line)=aq:=by rfl)(hs:bM [.Call (.Attribute o2 "pop" Gp) [e] [] yF] X.env=(aA,eval (.Call (.Attribute o2 "pop" Gp) [e] [] yF) X.env)::bM [] X.env:=by rfl)(hplain:(iC cpos (bM [] X.env)).any (·.1)=aA:=by rfl)
  (aro:Hw o2 "pop" X.env (eval o2 X.env)=eval o2 X.env:=by rfl)
  (asH:((iC yF (bM [e] X.env)).all (λx=>!x.1)&&(Iz yF (HR [] X.env)).all (λx=>x.1.isSome)
   &&decide (([e]:List Expr).length+([]:List uZ).length+(if([]:List uZ).isEmpty then 0 else 1)<30))=aq:=by rfl)
  (arp:(Gp.endLine==yF.line)=aq:=by rfl)(hs2:bM [e] X.env=(aA,eval e X.env)::bM [] X.env:=by rfl)(apO:(iC yF (bM [] X.env)).any (·.1)=aA:=by rfl):
  PS X (.Expr (.Call (.Attribute o "append" apos) [.Call (.Attribute o2 "pop" Gp) [e] [] yF] [] cpos) pos) (tS X.K (Yj i j f)):=
 (ael (Qd ZX aaf ahU (yS.r Va) ho
  (qx (Qd ZX ajk PySem.F.type_list_pop (yS.r anq) ho2 (qx he ur hs2) aro asH arp hs2 apO) ur hs) hbase hfew hline hs hplain) hs0).weak λD σ H aY=>by
  obtain⟨Z,Θ,aj,C,fl,aW,C',S,hf,q⟩:=aY
  obtain⟨_,g1,hf⟩:=qU.mp hf
  obtain⟨_,g2,hf⟩:=qU.mp hf
  obtain⟨p,g3,hf⟩:=qU.mp hf
  obtain⟨ds,g4,hf⟩:=qU.mp hf
  obtain⟨es,g5,hf⟩:=qU.mp hf
  obtain⟨k,g6,hf⟩:=qU.mp hf
  obtain⟨y,g7,hf⟩:=qU.mp hf
  split at hf
  case isFalse=>cases hf
  rename_i g8;split at g7
  case isFalse=>cases g7
  rename_i g9;cases hf
  obtain⟨v0,Ao,a,rfl,Zm,ha0,r0⟩:=S.slot i _ (O1 g1)
  obtain⟨v1,ev1,b,rfl,vs1,ha1,r1⟩:=S.slot j _ (O1 g2)
  refine⟨_,Ao,.inl ⟨rfl,Zm,cj.of ha0⟩,_,ev1,.inl ⟨rfl,vs1,cj.of ha1⟩,Z,Θ,aj,C,p.1,p.2.1,p.2.2,S,g3,λv H1 kk ff S1 bb=>?_⟩
  rw[Oo g6] at bb;have bb:v=.int k:=bb;subst bb;have g4:=O1 g4;have g5:=O1 g5
  obtain⟨w0,ew0,a',ea,ws0,hw0,s0⟩:=S1.slot i _ g4
  obtain⟨w1,ew1,b',eb,Kh,hw1,s1⟩:=S1.slot j _ g5
  subst ea eb;rw[Ao] at ew0;rw[ev1] at ew1;cases ew0;cases ew1
  obtain⟨yv,hy,ry⟩:=uv s1 g7
  have hk:k.toNat<Kh.length:=(jZ.mp hy).1;have g9:0<=k/\k<1000000:=g9;have six:U9 k Kh.length=aa k.toNat:=by
   exact avv g9.1 az
  refine⟨b,Kh,k,k.toNat,yv,rfl,rfl,hw1,az,az,six,hy,?_⟩
  have w1:gH X.K Z Θ p.2.1 σ H1 Θ (p.2.1.set j (aa (.ow (.list (es.eraseIdx k.toNat))))) p.2.2 σ (upd H1 b (.lst (Kh.eraseIdx k.toNat))):=S1.write g5 ev1 ⟨_,gV,ac2 _ s1⟩
  obtain⟨x0,ex0,a',ea,xs0,hx0,t0⟩:=w1.sm.slot i _ (show(p.2.1.set j (aa (.ow (.list (es.eraseIdx k.toNat)))))[i]?=_ by rw[Dv (λz=>g8.2 z.symm)];exact g4)
  subst ea;rw[Ao] at ex0;cases ex0
  refine⟨a,xs0,yv,rfl,rfl,hx0,by rw[jU t0,lN];have:ds.length<1000000:=g8.1;lia,?_⟩
  have ep:bH Z Θ (p.2.1.set j (aa (.ow (.list (es.eraseIdx k.toNat))))) σ=bH Z Θ p.2.1 σ:=by show _++(_++_)=_;rw[VV g5]
  have mp:b∈bH Z Θ p.2.1 σ:=lO.mpr (.inr (.inr (pD.mpr ⟨j,_,g5,ev1⟩)));have ry':RZ (er (bH Z Θ (p.2.1.set j (aa (.ow (.list (es.eraseIdx k.toNat))))) σ) (upd H1 b (.lst (Kh.eraseIdx k.toNat)))) y yv:=by rw[ep,Pj mp];exact ry
  have w2:=w1.sm.write (o:=.lst (xs0++[yv])) (d':=.list (ds++[y])) (show(p.2.1.set j (aa (.ow (.list (es.eraseIdx k.toNat)))))[i]?=_ by rw[Dv (λz=>g8.2 z.symm)];exact g4) Ao ⟨_,gV,BW t0 ⟨yv,[],rfl,ry',rfl⟩⟩;exact q Θ σ _ (((gH.vJ kk ff S1).trans w1).trans w2)
def asI(i j k:Nat)(ta:TA):TS:=λD σ H=>ta σ H λvs H1=>vs.length=3/\(∀v w z,vs=[v,w,z]->D.nx (((σ.set i (aa v)).set j (aa w)).set k (aa z)) H1)
theorem apP{kt k2 qO}(hc:X.calm=aq)(hN:X.N.Nodup)(hi:X.N[i]?=aa x)(hj:X.N[j]?=aa y)(hk:X.N[k]?=aa z)(hij:i≠j)(hik:i≠k)(hjk:j≠k)
  (hx:X.env.scope.names.lookup x=aa .local)(hy:X.env.scope.names.lookup y=aa .local)(hz:X.env.scope.names.lookup z=aa .local)(ha:PA X [a,b,c] ta)
  (hw:Bl [.Tuple [.Name x px,.Name y py,.Name z pz] kt pt] (.Tuple [a,b,c] k2 qO) X.env=pure (aa [x,y,z]))
  (hs:Bj [.Tuple [.Name x px,.Name y py,.Name z pz] kt pt] (.Tuple [a,b,c] k2 qO) pos.line X.env=pure aA:=by rfl):
  PS X (.Assign [.Tuple [.Name x px,.Name y py,.Name z pz] kt pt] (.Tuple [a,b,c] k2 qO) pos) (asI i j k ta):=by
 intro au s σ H D I h;rw[exec_Assign_arm];refine aJ (xN ?_);rw[hs];refine aJ (bz ?_);rw[bB bA];refine aJ (Tuple_ (b7 (ha _ au s σ H _ I h) λus s1 aY=>?_))
 obtain⟨vs,H1,I1,r1,l1,q1⟩:=aY
 cases r1 with
 |nil=>cases l1
 |cons rv r1=>
 cases r1 with
 |nil=>cases l1
 |cons rw' r1=>
 cases r1 with
 |nil=>cases l1
 |cons rz r1=>
 cases r1 with
 |cons _ _=>cases l1
 |nil=>
 rename_i v u1 w u2 zz u3;refine mJ ?_ (by show 3<=cH;decide);have I2:Inv X au σ H1 {s1 with heap:=s1.heap.push {cls:=.type "tuple",data:=.seq [u1,u2,u3].toArray}}:=I1.kept (t':=s1.toks) λb o e=>cG _ e
 rw[hw];refine aJ (bz ?_);show aQ (model X.prog X.w) X.A (do rule "assign.swapped-stores";let items <-unpackItems (.ref s1.heap.objs.size) 3 ao;Hu [λv=>xX X.env z v,λv=>xX X.env y v,λv=>xX X.env x v] items.reverse;pure U6) _ _ _;refine aJ (ug (aJ (unpackItems_tuple (items:=#[u1,u2,u3]) (I.ok.hd hc) (IsTup.new s1.heap _) λh' hx'=>?_)));have I3:=I2.kept (h':=h') (t':=s1.toks) λb o e=>hx' b o (gj (cL e)) e
 show aQ _ _ (Hu [λv=>xX X.env z v,λv=>xX X.env y v,λv=>xX X.env x v] [u3,u2,u1] >>= λ_=>pure U6) _ _ _;refine aJ (assignInOrder_cons (Lr (xW I3 hN hk (.inl hz) rz (λs2 I4=>?_) (.inr hz))));refine assignInOrder_cons (Lr (xW I4 hN hj (.inl hy) rw' (λs3 I5=>?_) (.inr hy)));refine assignInOrder_cons (Lr (xW I5 hN hi (.inl hx) rv (λs4 I6=>assignInOrder_nil (bz ?_)) (.inr hx)));rw[Tc _ _ (kJ hij),Tc _ _ (kJ hik),Tc _ _ (kJ hjk)] at I6
 exact⟨_,H1,I6,q1 _ _ _ rfl⟩
theorem apQ{kt k2 qO}(hc:X.calm=aq)(hN:X.N.Nodup)(hi:X.N[i]?=aa x)(hj:X.N[j]?=aa y)(hk:X.N[k]?=aa z)(hij:i≠j)(hik:i≠k)(hjk:j≠k)
  (hx:X.env.scope.names.lookup x=aa .local)(hy:X.env.scope.names.lookup y=aa .local)(hz:X.env.scope.names.lookup z=aa .local)(ha:PA X [a,b,c] (An X.K g))
  (hw:Bl [.Tuple [.Name x px,.Name y py,.Name z pz] kt pt] (.Tuple [a,b,c] k2 qO) X.env=pure (aa [x,y,z]))
  (hs:Bj [.Tuple [.Name x px,.Name y py,.Name z pz] kt pt] (.Tuple [a,b,c] k2 qO) pos.line X.env=pure aA:=by rfl):
  PS X (.Assign [.Tuple [.Name x px,.Name y py,.Name z pz] kt pt] (.Tuple [a,b,c] k2 qO) pos) (tS X.K (rM [i,j,k] g)):=(apP hc hN hi hj hk hij hik hjk hx hy hz ha hw hs).weak λD σ H aY=>by
 obtain⟨Z,Θ,aj,C,fl,aW,C',S,hf,q⟩:=aY
 unfold rM at hf;split at hf
 case h_2=>cases hf
 rename_i xs e1 C1 h1;split at hf
 case isFalse=>cases hf
 rename_i hl;cases hf
 refine⟨Z,Θ,aj,C,xs,e1,C',S,h1,λvs as H1 k1 f1 n1 S1 a1=>⟨by rw[Ot a1,<-hl.1];rfl,λv w zz e=>?_⟩⟩
 obtain⟨S2,o2⟩:=WW a1 hl.1 (cO.refl _) S1
 subst e;refine q Θ _ H1 ⟨n6.refl _ _,zT k1,λb m=>?_,S2⟩;rcases o2 b m with m|m
 .exact .inl (f1.own.subset m)
 .exact .inr (n1 b m)
inductive gZ(K:bw)(x:Str)(st:eX):Prop
 |mk {f:aH} {oc:aL} {od an:Option aH} {osl:Array (Option aL)} {kV doc pm cdv ct:aL} (a:lM K iw x=aa (aa (.ref f))) (l:K.lookup f=aa ⟨oc,od,.func (Bp x x (Fp st) (zR st) (cC st) .none kV doc pm an cdv ct),osl⟩) (c:Ss K cdv x=aq) (k:Bc K (.ref f)=aq):gZ K x st
abbrev XD(x:Str)(st:eX)(ps:List Str):Prop:=∀(kV doc pm:aL)(an:Option aH)(cdv ct:aL)(us:List aL),us.length=ps.length->bindArgs (Bp x x (Fp st) (zR st) (cC st) .none kV doc pm an cdv ct) ⟨us,[]⟩=pure (ps.zip us)
section
variable{P:fV}{w:dD}{K:bw}{x:Str}{st:eX}{k:Nat}{ps:List Str}{sp:Sp}
theorem gZ.has(d:gZ K x st)(X:K.In h)(G:h.Ns iw mg)(o:∀f fd,gr K x x st f fd->fX P w K mg base gb k f fd ps sp)(hb:XD x st ps):dz P w K mg base x k ps sp:=by
 obtain⟨a,l,c,kp⟩:=d
 have F:=Xp l c kp
 exact⟨_,_,vX X G a,kp,F.binds hb,o _ _ F⟩
theorem gZ.atL(d:gZ K x st)(X:K.In h)(G:h.Ns iw mg)(o:∀f fd,mg x=aa (.ref f)->Bc K (.ref f)=aq->Binds K fd ps []->gr K x x st f fd->dz P w K mg base x k ps sp)(hb:XD x st ps):dz P w K mg base x k ps sp:=by
 obtain⟨a,l,c,kp⟩:=d
 have F:=Xp l c kp;exact o _ _ (vX X G a) kp (F.binds hb) F
theorem gZ.law{y:Str}(d:gZ K x st)(X:K.In h)(G:h.Ns iw mg)(hfa:mg x=aa (.ref fa))(o:∀base f fd,gr K x x st f fd->fX P w K mg base gb k f fd [y] sp)(hb:XD x st [y]):
  ∃fd:wC,(∀(s:aZ)(v:aL),Fg s fd ⟨[v],[]⟩ [(y,v)])/\∀base:cu,K.In base->base.Ns iw mg->fX P w K mg base gb k fa fd [y] sp:=by
 obtain⟨a,l,c,kp⟩:=d
 have e:=hfa.symm.trans (vX X G a);cases e
 exact⟨_,λs v=>.of_eq (hb _ _ _ _ _ _ [v] rfl),λbase _ _=>o base _ _ (Xp l c kp)⟩
theorem jB{B:List aL->Prop}(h:B []):∀us:List aL,us.length=0->B us
 |[],_=>h
theorem cP{B:List aL->Prop}(h:∀a,∀us:List aL,us.length=n->B (a::us)):∀us:List aL,us.length=n+1->B us
 |a::us,e=>h a us (Nat.succ.inj e)
end
section
open PySem.SeqAt
open PySem.AutoSeq1 (wpAny_loadPart')
open PySem.MeetsSeq PySem.MeetsSeq2 PySem.MeetsSeq3
end
theorem asJ(h:er P H a=aa o):H a=aa o:=by
 unfold er at h;split at h
 .cases h
 .exact h
section
variable{X:Cx}{e es:Expr}{p2 pos:Pos}
def PJ:aB->aB->Option Vl
 |.bool a,.bool b=>aa (.im (.bool (a != b)))
 |_,_=>ao
theorem apR{K:bw}:ie K (λx y H Q=>∃a b,x=.bl a/\y=.bl b/\Q (.bl (a != b)) H) PJ:=by
 intro Z Θ aj C σ H x y dx dy res S bx fG e Q q;unfold PJ at e;split at e
 .cases e
  exact⟨_,_,bx,fG,q _ _ (bG.refl _ _) (jT S rfl rfl)⟩
 .cases e
end
def pairsOf:List aB->Option (List (aB×aB))
 |[]=>aa []
 |.tuple [k,v]::r=>(pairsOf r).map λt=>(k,v)::t
 |_=>ao
theorem asK(d:aB):JN (.im d)=aA:=rfl
theorem asL(d:aB):JN (.ow d)=aA:=rfl
theorem asM(n:Nat):JN (.ce n)=aA:=rfl
end L2
namespace HT
open PySem PySem.Spec PyProof.Rows
open Sem (wp)
open Builtin
theorem alD(l:aH)(dd:Option aH)(items:Array aL)(n:Nat)(ss:Array (Option aL))(u:Tok)(hc:items.isEmpty=aA):
  Meets (mq.«tuple.__mul__» ⟨[.ref l,.int 0 u],[]⟩) (λ_ R s=>s.heap.get? l=aa {cls:=.type "tuple",dict:=dd,data:=.seq items n,slots:=ss}/\R (.ok (.ret (dJ s.heap.objs.size))) {s with heap:=s.heap.push {cls:=xT "tuple",data:=adl #[] 0}}):=
 .of_wp λprog w A R s h=>by obtain⟨hp,g,d,tk,os⟩:=s;obtain⟨hl,h⟩:=h;wp_walk;exact⟨_,rfl,h⟩
theorem alE(l:aH)(dd:Option aH)(items:Array aL)(n:Nat)(ss:Array (Option aL))(u:Tok):
  Meets (mq.«tuple.__mul__» ⟨[.ref l,.int 1 u],[]⟩) (λ_ R s=>s.heap.get? l=aa {cls:=.type "tuple",dict:=dd,data:=.seq items n,slots:=ss}/\R (.ok (.ret (dJ l))) s):=
 .of_wp λprog w A R s h=>by obtain⟨hp,g,d,tk,os⟩:=s;obtain⟨hl,h⟩:=h;wp_walk;exact⟨_,rfl,h⟩
end HT
namespace L2
open PySem PySem.Spec PyProof.Rows PySem.W
section
variable{X:Cx}
def Qo(K:bw):R2:=λx y H Q=>∃a xs k,x=.ref a/\y=.int k/\dg K H a xs/\xs≠[]/\((k=0/\∀p,H p=ao->Q (.ref p) (upd H p (.tup [])))\/(k=1/\Q x H))
theorem apS:dR X (pC .Mult) (Qo X.K):=by
 intro au s σ H x y v u Q I rx ry h
 obtain⟨l,xs,k,rfl,rfl,hH,h0,h⟩:=h
 cases rx
 obtain⟨t,rfl⟩:=ry
 obtain⟨aK,r,ht,_⟩:=I.tuple hH
 obtain⟨⟨cls,dd,data,sl⟩,ho,hc,n,hd⟩:=id ht
 simp only at hc hd;subst hc hd;have he:aK.toArray.isEmpty=aA:=by
  cases aK with
  |nil=>cases r;exact absurd rfl h0
  |cons _ _=>rfl
 rcases h with⟨rfl,q⟩|⟨rfl,q⟩
 .exact ZL (T:="tuple") (U:="int") bA ⟨_,ho,rfl⟩ (λs'=>Ei s' 0 t) HT.RK aaT Ho HT.Tw F.slot_int_index.lookup
   (Bs Ho (Ei s 0 t) aaG (aar _ _) (HT.Rk 0 t l dd aK.toArray n sl)
    ⟨ho,rfl,⟨_,ho,rfl⟩,Bs aaH ⟨_,ho,rfl⟩ aas (aah _ _) (HT.alD l dd aK.toArray n sl t he) ⟨ho,.ref s.heap.objs.size,_,I.laid (t':=s.toks) (o:=.tup []) (λb ob q=>cG _ q) (bU _) ⟨j5 _,[],.nil,IsTup.new _ _⟩,rfl,q _ (I.hok.fresh (bU _))⟩⟩)
 .exact ZL (T:="tuple") (U:="int") bA ⟨_,ho,rfl⟩ (λs'=>Ei s' 1 t) HT.RK aaT Ho HT.Tw F.slot_int_index.lookup
   (Bs Ho (Ei s 1 t) aaG (aar _ _) (HT.Rk 1 t l dd aK.toArray n sl)
    ⟨ho,rfl,⟨_,ho,rfl⟩,Bs aaH ⟨_,ho,rfl⟩ aas (aah _ _) (HT.alE l dd aK.toArray n sl t) ⟨ho,.ref l,H,I,rfl,q⟩⟩)
def XF:aB->aB->Option Vl
 |.tuple (d::ds),.int k=>if k=0 then aa (.im (.tuple [])) else if k=1 then aa (.im (.tuple (d::ds))) else ao
 |_,_=>ao
theorem apT{K:bw}:ie K (Qo K) XF:=by
 intro Z Θ aj C σ H x y dx dy res S bx fG e Q q;unfold XF at e;split at e
 case h_2=>cases e
 rename_i d ds k;cases fG.int;have bx:RZ (er (bH Z Θ aj σ) H) (.tuple (d::ds)) x:=bx
 obtain⟨a,vs,rfl,ha,r⟩:=id bx
 refine⟨a,vs,k,rfl,rfl,dg.of (jt ha),(λz=>by subst z;obtain⟨_,_,z,_⟩:=r;cases z),?_⟩
 by_cases h0:k=0
 .rw[bC h0] at e;cases e;exact .inl ⟨h0,λp hp=>q _ _ (bG.upd hp) (Fv S rfl hp)⟩
 .rw[bB h0] at e;by_cases h1:k=1
  .rw[bC h1] at e;cases e;exact .inr ⟨h1,q _ _ (bG.refl _ _) ⟨S,bx⟩⟩
  .rw[bB h1] at e;cases e
end
section
variable{X:Cx}
end
end L2
namespace HT
open PySem PySem.Spec PyProof.Rows
open Sem (wp)
open Builtin
theorem aoa(A:iz)(s:aZ)(a:Int)(t:Tok)(c:Int)(u:Tok)(prog:fV)(w:dD)(E:aL->aZ->Prop)(Q:aL->aZ->Prop)(h:Q (.bool (decide (a>c))) s):aQ (model prog w) A (Ed .Gt (.int a t) (.int c u)) Q E s:=gt_int h
theorem amN(l b:aH)(i j:Int)(t u:Tok)(r1 r2:List aL)(n n2:Nat)(dd dd2:Option aH)(sl sl2:Array (Option aL))(hne:i≠j):
  Meets (mq.«tuple.__gt__» ⟨[.ref l,.ref b],[]⟩)
   (λ_ R s=>s.heap.get? l=aa {cls:=.type "tuple",dict:=dd,data:=.seq (.int i t::r1).toArray n,slots:=sl}/\s.heap.get? b=aa {cls:=.type "tuple",dict:=dd2,data:=.seq (.int j u::r2).toArray n2,slots:=sl2}/\R (.ok (.ret (.bool (decide (i>j))))) s):=
 .of_wp λprog w A R s h=>by
  obtain⟨hp,g,d,tk,os⟩:=s;obtain⟨hl,hb,h⟩:=h
  have f2:=ahT;wp_walk using RW hl,RW hb,ai8 _ (λrest b s'=>b.1=ao/\s'=⟨hp,g,d,tk,os⟩/\rest=(zJ i t::r1).zip (zJ j u::r2)) _
  case turn=>
   rintro⟨y,x⟩ rest b s' ⟨hb',rfl,hz⟩
   rw[aag] at hz;injection hz with hyx hrest
   injection hyx with hy hx
   subst hy hx
   obtain⟨e,he,hiff⟩:=anm A.in1 ⟨hp,g,d,tk,os⟩ i t j u
   refine aJ (he prog w _ _ ?_);cases e with
   |true=>exact absurd (hiff.mp rfl) hne
   |false=>
    have Ze:=aoa A.in1 ⟨hp,g,d,tk,os⟩ i t j u prog w;wp_walk using Ze
    exact⟨_,rfl,by simpa using h⟩
  case fin=>
   rintro⟨b1,b2⟩ s' ⟨hb',rfl,hz⟩
   cases hz
  case h=>exact⟨rfl,rfl,rfl⟩
end HT
namespace L2
open PySem PySem.Spec PyProof.Rows PySem.W
theorem XH(bt:Nat->Nat->Bool):∀k,jk bt k<=k
 |0=>bU _
 |k+1=>by
  rw[jk];split
  .exact bU _
  .exact Nat.le_succ_of_le (XH bt k)
section
variable{prog:fV}{w:dD}{A:iz}{s:aZ}{I S:aH}{fp wr:List aH}{n:Nat}{St:Nat->cu->Prop}{bt:Nat->Nat->Bool}{HK:cu->Prop}
theorem aob(W:yu prog w A.in1 I fp wr n Pv St)(cmp:∀(i j:Nat)(vi vj:aL)(s:aZ)(Q:aL->aZ->Prop)(E:aL->aZ->Prop),j<i->HK s.heap->Pv i vi->Pv j vj->Q (.bool (bt i j)) s->aQ (model prog w) A.in1 (Ed .Gt vi vj) Q E s)
  (hk:∀h h',HK h->(∀b o,b∉wr->b≠S->h.get? b=aa o->h'.get? b=aa o)->HK h')(out:S∉fp):∀(m j:Nat)(s:aZ)(vb:aL)(c:Nat),n-(j+1)=m->j+1<=n->St (j+1) s.heap->HK s.heap->Pv (jk bt j) vb->s.heap.get? S=aa (agb vb c)->
  (∀v h' tk,Pv (jk bt (n-1)) v->(∀b o,b∉wr->b≠S->s.heap.get? b=aa o->h'.get? b=aa o)->R (.ok (.ret v)) {s with heap:=h',toks:=tk})->lQ (model prog w) A (.builtin "max.loop" ⟨[.ref I,.none,.ref S],[]⟩) R s:=by
 have uE:S∉wr:=λz=>out (W.sub _ z)
 have nm:(toString "max"++toString ".loop":String)="max.loop":=bA;intro m;induction m with
 |zero=>
  intro j s vb c hm hj st kp pb hS hR;have last:j+1=n:=az;refine rZ G8 ?_;rw[tW rT _];show aQ _ A.in1 (Bv (.ref S) >>= _) _ _ s;refine aJ (rm hS rfl ?_);show aQ _ A.in1 (tryCatch (j7 (.ref I)) _ >>= _) _ _ s;refine aJ (zA (W.done s _ _ (last▸st) λh' tk kk=>?_));have g:=kk S _ uE hS;show aQ _ A.in1 (Iv S (λ_=>#[]) >>= _) _ _ _;refine aJ (Ba g rfl (aJ (xQ (bz ?_))));exact hR vb _ tk (by rw[<-last];exact pb) λb o hb hbS e=>(qi _ _ (kJ hbS)).trans (kk b o hb e)
 |succ m ih=>
  intro j s vb c hm hj st kp pb hS hR;have lt:j+1<n:=az;refine rZ G8 ?_;rw[tW rT _];show aQ _ A.in1 (Bv (.ref S) >>= _) _ _ s;refine aJ (rm hS rfl ?_);show aQ _ A.in1 (tryCatch (j7 (.ref I)) _ >>= _) _ _ s;refine aJ (zA (W.item (j+1) s _ _ lt st λv h' tk pv st' kk=>?_));have g:=kk S _ uE hS;have Kl:HK h':=hk _ _ kp λb o hb _ e=>kk b o hb e
  show aQ _ A.in1 (tryCatch (rD [v,v] (Ed .Gt v vb >>= _)) _ >>= _) _ _ _;refine aJ (zA (nF (aJ (cmp (j+1) (jk bt j) v vb _ _ _ (Nat.lt_succ_of_le (XH bt j)) Kl pv pb ?_))));refine aJ (nF (vP (aJ (xQ (bz ?_)))));cases hb:bt (j+1) (jk bt j) with
  |true=>
   simp only[if_true];refine aJ (Ba g rfl (aJ (xQ ?_)));rw[nm];refine bz ⟨sH rT _,ih (j+1) _ v _ az lt (W.frame _ _ _ st' λb hbf o e=>(qi _ _ λz:S=b=>out (z▸hbf)).trans e) (hk _ _ Kl λb o _ hbS e=>(qi _ _ (kJ hbS)).trans e) (by simp only[jk,hb,if_true];exact pv) (vM _ g rfl) λv' h2 tk2 vH rO=>?_⟩;exact hR v' h2 tk2 vH λb o hb' hbS e=>rO b o hb' hbS ((qi _ _ (kJ hbS)).trans (kk b o hb' e))
  |false=>
   simp only[qj,if_false];refine aJ (xQ ?_);rw[nm];refine bz ⟨sH rT _,ih (j+1) _ vb c az lt st' Kl (by simp only[jk,hb,qj,if_false];exact pb) g λv' h2 tk2 vH rO=>?_⟩;exact hR v' h2 tk2 vH λb o hb' hbS e=>rO b o hb' hbS (kk b o hb' e)
theorem aoc(W:yu prog w A.in1 I fp wr n Pv St)(cmp:∀(i j:Nat)(vi vj:aL)(s:aZ)(Q:aL->aZ->Prop)(E:aL->aZ->Prop),j<i->HK s.heap->Pv i vi->Pv j vj->Q (.bool (bt i j)) s->aQ (model prog w) A.in1 (Ed .Gt vi vj) Q E s)
  (hk:∀h h',HK h->(∀b o,b∉wr->b≠S->h.get? b=aa o->h'.get? b=aa o)->HK h')(out:S∉fp)(pos:0<n)(st:St 0 s.heap)(kp:HK s.heap)(hS:s.heap.get? S=aa {cls:=.type "list",dict:=ao,data:=.seq #[] c,slots:=#[]})
  (hR:∀v h' tk,Pv (jk bt (n-1)) v->(∀b o,b∉wr->b≠S->s.heap.get? b=aa o->h'.get? b=aa o)->R (.ok (.ret v)) {s with heap:=h',toks:=tk}):lQ (model prog w) A (.builtin "max.loop" ⟨[.ref I,.none,.ref S],[]⟩) R s:=by
 have uE:S∉wr:=λz=>out (W.sub _ z)
 have nm:(toString "max"++toString ".loop":String)="max.loop":=bA;refine rZ G8 ?_;rw[tW rT _];show aQ _ A.in1 (Bv (.ref S) >>= _) _ _ s;refine aJ (rm hS rfl ?_);show aQ _ A.in1 (tryCatch (j7 (.ref I)) _ >>= _) _ _ s;refine aJ (zA (W.item 0 s _ _ pos st λv h' tk pv st' kk=>?_));have g:=kk S _ uE hS;have Kl:HK h':=hk _ _ kp λb o hb _ e=>kk b o hb e
 show aQ _ A.in1 (Iv S (λ_=>#[v,v]) >>= _) _ _ _;refine aJ (Ba g rfl ?_);rw[nm];refine bz ⟨sH rT _,aob W cmp hk out _ 0 _ v _ rfl pos (W.frame _ _ _ st' λb hbf o e=>(qi _ _ λz:S=b=>out (z▸hbf)).trans e) (hk _ _ Kl λb o _ hbS e=>(qi _ _ (kJ hbS)).trans e) pv (vM _ g rfl) λv' h2 tk2 vH rO=>?_⟩;exact hR v' h2 tk2 vH λb o hb' hbS e=>rO b o hb' hbS ((qi _ _ (kJ hbS)).trans (kk b o hb' e))
theorem aod(hh:A.handled=ao)(hl:s.heap.IsList l items)(pos:0<items.size)
  (cmp:∀(i j:Nat)(vi vj:aL)(s':aZ)(Q:aL->aZ->Prop)(E:aL->aZ->Prop),j<i->(∀b o,s.heap.get? b=aa o->s'.heap.get? b=aa o)->items[i]?=aa vi->items[j]?=aa vj->Q (.bool (bt i j)) s'->aQ (model prog w) A.in1 (Ed .Gt vi vj) Q E s')
  (h:∀(v:aL)(h':cu)(tk:Nat),items[jk bt (items.size-1)]?=aa v->(∀b o,s.heap.get? b=aa o->h'.get? b=aa o)->Q v {s with heap:=h',toks:=tk}):aQ (model prog w) A (call (.builtin "max") [.ref l]) Q E s:=by
 have nm:(toString "max"++toString ".loop":String)="max.loop":=bA;have J9:l<s.heap.objs.size:=by obtain⟨o,ho,_⟩:=hl;exact cL ho
 refine abA ajc aiO aiP (PySem.F.args_max1 _) ?_;show aQ _ A.in1 (Rc "max" ["key","default"] 0 ⟨[],[]⟩ >>= _) _ _ s;refine aJ (HS (show Rc "max" ["key","default"] 0 ⟨[],[]⟩=pure [ao,ao] from rfl) ?_);refine aJ (bz ?_);refine aJ (K4 hl (aJ (mJ ?_)));rw[nm];have vG:(s.heap.push {cls:=.type "list_iterator",data:=.fields #[.ref l,.int 0 0]}).objs.size=s.heap.objs.size+1:=sy ..;have W:=Uv (prog:=prog) (w:=w) (A:=A.in1) (by simp[hh]) s.heap.objs.size l (gj J9) items;refine bz ⟨sH rT _,?_⟩;show lQ (model prog w) A (.builtin "max.loop" ⟨[.ref s.heap.objs.size,.none,.ref (s.heap.push {cls:=.type "list_iterator",data:=.fields #[.ref l,.int 0 0]}).objs.size],[]⟩) _ {s with heap:=(s.heap.push {cls:=.type "list_iterator",data:=.fields #[.ref l,.int 0 0]}).push {cls:=.type "list",data:=.seq #[]}};have ol:∀b o,s.heap.get? b=aa o->b∉[s.heap.objs.size]:=λb o e=>by
  simp only[cg,kE,or_false];exact gj (cL e)
 have ol2:∀b o,s.heap.get? b=aa o->b≠(s.heap.push {cls:=.type "list_iterator",data:=.fields #[.ref l,.int 0 0]}).objs.size:=λb o e=>by
  rw[vG];exact gj (vQ (cL e))
 refine aoc (HK:=λh=>∀b o,s.heap.get? b=aa o->h.get? b=aa o) W cmp (λh h' k kk b o e=>kk b o (ol b o e) (ol2 b o e) (k b o e)) ?_ pos ⟨⟨_,cG _ (gR _ rfl),rfl,rfl⟩,(hl.push _).push _⟩ (λb o e=>cG _ (cG _ e)) (gR _ rfl) λv h' tk hv kk=>?_
 .rw[vG];simp only[cg,kE,or_false,not_or]
  exact⟨uR (Lg _),uR (vQ J9)⟩
 .exact h v h' tk hv λb o e=>kk b o (ol b o e) (ol2 b o e) (cG _ (cG _ e))
end
section
variable{X:Cx}
theorem apU(hl:IsTup s.heap l (.int i t::r1).toArray)(hb:IsTup s.heap b (.int j u::r2).toArray)(hne:i≠j)(hu:A.units<iG)(h:Q (.bool (decide (i>j))) s):aQ (model prog w) A (gM .Gt (.ref l) (.ref b)) Q E s:=by
 obtain⟨⟨cls,dd,data,sl⟩,ho,hc,n,hd⟩:=id hl
 obtain⟨⟨cls2,dd2,data2,sl2⟩,ho2,hc2,n2,hd2⟩:=id hb
 simp only at hc hd hc2 hd2;subst hc hd hc2 hd2;exact ah1 (op:=.Gt) ⟨_,ho,rfl⟩ ⟨_,ho2,rfl⟩ PySem.F.slot_tuple_gt PySem.F.entry_tuple_gt (PySem.F.args_tuple_gt_2 _ _) (HT.amN l b i j t u r1 r2 n n2 dd dd2 sl sl2 hne)
  ⟨ho,ho2,show uU (decide (i>j))≠Z8/\Q (.bool (decide (i>j))) s from⟨(λx=>nomatch x),h⟩⟩ hu
abbrev Pr:=aH×Int×List V
def tM(aM:List Pr)(i j:Nat):Bool:=match aM[i]?,aM[j]? with
 |some a,some b=>decide (a.2.1>b.2.1)
 |_,_=>aA
theorem ajD(hc:X.calm=aq)(hu:X.A.units+1<iG):jm X (.builtin "max") (λxs H Q=>∃(p:aH)(aM:List Pr),xs=[.ref p]/\cj X.K H p (aM.map λr=>V.ref r.1)/\0<aM.length/\(∀r∈aM,H r.1=aa (.tup (.int r.2.1::r.2.2)))/\(aM.map λr=>r.2.1).Nodup/\
  ∀r,aM[jk (tM aM) (aM.length-1)]?=aa r->Q (.ref r.1) H):=by
 intro au s σ H xs us Q I r h
 obtain⟨p,aM,rfl,hp,pos,ha,nd,q⟩:=h
 obtain⟨u,rfl,ru⟩:=vals1 r
 cases ru
 obtain⟨aK,r',pl,hz⟩:=I.list hp
 have ei:aK=aM.map λr=>dJ r.1:=by
  clear pos ha q pl hz hp nd;induction aM generalizing aK with
  |nil=>cases r';rfl
  |cons a aM ih=>
   cases r' with
   |cons h t=>
    cases h;rw[ih _ t];rfl
 subst ei;have tu:∀r∈aM,∃t rs,IsTup s.heap r.1 (.int r.2.1 t::rs).toArray:=λr hr=>by
  obtain⟨_,aK,v,t⟩:=(show gn X.prog X.w H s.heap r.1 (.tup (.int r.2.1::r.2.2)) from I.hok r.1 _ (ha r hr))
  cases v with
  |cons h v=>
   obtain⟨tk,rfl⟩:=h
   exact⟨tk,_,t⟩
 refine aod (bt:=tM aM) (I.ok.hd hc) pl.isList (by simpa using pos) (λi j vi vj s' Q E lt k hi hj q=>?_) λv h' tk hv k=>?_
 .have hi':(aM.map λr=>dJ r.1)[i]?=aa vi:=by simpa using hi
  have hj':(aM.map λr=>dJ r.1)[j]?=aa vj:=by simpa using hj
  rw[jC] at hi' hj';cases ri:aM[i]? with
  |none=>rw[ri] at hi';cases hi'
  |some a=>
   cases rj:aM[j]? with
   |none=>rw[rj] at hj';cases hj'
   |some b=>
    rw[ri] at hi';rw[rj] at hj';cases hi';cases hj'
    obtain⟨t1,rs1,o1,g1,c1⟩:=tu a (lX ri)
    obtain⟨t2,rs2,o2,g2,c2⟩:=tu b (lX rj)
    have ne:a.2.1≠b.2.1:=by
     obtain⟨l1,e1⟩:=jZ.mp ri
     obtain⟨l2,e2⟩:=jZ.mp rj
     have:=Aw.mp nd j i (by rw[bD];exact l2) (by rw[bD];exact l1) lt;simp only[Ay,e1,e2] at this;exact λz=>this z.symm
    refine apU (t:=t1) (u:=t2) ⟨o1,k _ _ g1,c1⟩ ⟨o2,k _ _ g2,c2⟩ ne hu ?_;have e:tM aM i j=decide (a.2.1>b.2.1):=by
     unfold tM;rw[ri,rj]
    rw[<-e];exact q
 .have hv':(aM.map λr=>dJ r.1)[jk (tM aM) (aM.length-1)]?=aa v:=by simpa using hv
  rw[jC] at hv';cases rv:aM[jk (tM aM) (aM.length-1)]? with
  |none=>rw[rv] at hv';cases hv'
  |some a=>
   rw[rv] at hv';cases hv'
   exact⟨.ref a.1,H,I.kept (t':=tk) k,rfl,q a rv⟩
end
def pairD:aB->Option (Int×List aB)
 |.tuple (.int k::r)=>aa (k,r)
 |_=>ao
def Gf:List aB->Option (List (Int×List aB))
 |[]=>aa []
 |d::r=>(pairD d).bind λx=>(Gf r).map λl=>x::l
def yG{α:Type}:List (Int×α)->Option (Int×α)
 |[]=>ao
 |x::r=>match yG r with
  |none=>aa x
  |some y=>if x.1<y.1 then aa y else aa x
def PK:List aB->Option Vl
 |[.list ds]=>(Gf ds).bind λl=>if(l.map (·.1)).Nodup then(yG l).map λx=>.im (.tuple (.int x.1::x.2)) else ao
 |_=>ao
theorem adX:∀{l:List (Int×α)}{x:Int×α},yG l=aa x->x∈l/\∀y∈l,y.1<=x.1
 |[],x,h=>by cases h
 |a::r,x,h=>by
  rw[yG] at h;cases e:yG r with
  |none=>
   rw[e] at h;cases h;cases r with
   |nil=>exact⟨eV,λy hy=>by rw[gU.mp hy];exact Br _⟩
   |cons b r=>
    rw[yG] at e;split at e
    .cases e
    .split at e<;>cases e
  |some y=>
   rw[e] at h
   obtain⟨m,g⟩:=adX e
   have h:(if a.1<y.1 then aa y else aa a)=aa x:=h;by_cases c:a.1<y.1
   .rw[bC c] at h;cases h
    refine⟨fQ _ m,λz hz=>?_⟩
    rcases cg.mp hz with rfl|hz
    .exact Int.le_of_lt c
    .exact g z hz
   .rw[bB c] at h;cases h
    refine⟨eV,λz hz=>?_⟩
    rcases cg.mp hz with rfl|hz
    .exact Br _
    .have:=g z hz;lia
theorem afS{bt:Nat->Nat->Bool}{val:Nat->Int}(h:∀i j,i<n->j<n->bt i j=decide (val i>val j)):∀k,k<n->∀i,i<=k->val i<=val (jk bt k)
 |0,_,i,hi=>by
  have:i=0:=az;subst this;exact Br _
 |k+1,hk,i,hi=>by
  have ih:=afS h k az;have al:=XH bt k;have b:=h (k+1) (jk bt k) hk az;rw[jk];cases c:bt (k+1) (jk bt k) with
  |true=>
   rw[c] at b;have b:=of_decide_eq_true b.symm;rw[bC rfl];by_cases e:i=k+1
   .rw[e];exact Br _
   .have:=ih i az;lia
  |false=>
   rw[c] at b;have b:=of_decide_eq_false b.symm;rw[bB jK];by_cases e:i=k+1
   .rw[e];lia
   .exact ih i az
theorem ac3:∀{ds:List aB}{l:List (Int×List aB)}{vs:List V},Gf ds=aa l->cM E ds vs->∃aM:List Pr,vs=aM.map (λr=>V.ref r.1)/\aM.map (λr=>r.2.1)=l.map (·.1)/\(∀r∈aM,E r.1=aa (.tup (.int r.2.1::r.2.2)))/\∀(i:Nat)(r:Pr)(x:Int×List aB),aM[i]?=aa r->l[i]?=aa x->RZ E (.tuple (.int x.1::x.2)) (.ref r.1)
 |[],l,vs,h,r=>by
  cases h
  cases(show vs=[] from r)
  exact⟨[],rfl,rfl,(λ_ m=>nomatch m),λi r x e=>by simp at e⟩
 |d::ds,l,vs,h,r=>by
  obtain⟨x,hx,h⟩:=qU.mp h
  obtain⟨l',hl,rfl⟩:=Ax.mp h
  obtain⟨v,t,rfl,rv,rt⟩:=r
  obtain⟨aM,e1,e2,e3,e4⟩:=ac3 hl rt
  have hd:d=.tuple (.int x.1::x.2):=by
   cases d<;>first|cases hx|skip
   rename_i ys;cases ys with
   |nil=>cases hx
   |cons y ys=>cases y<;>first|(cases hx;rfl)|cases hx
  subst hd
  obtain⟨c,ws,rfl,hc,rw'⟩:=id rv
  obtain⟨w,ws',rfl,hw,_⟩:=rw'
  cases(show w=.int x.1 from hw)
  refine⟨(c,x.1,ws')::aM,by rw[e1];rfl,by rw[dU,e2];rfl,λr hr=>?_,λi r y hi hy=>?_⟩
  .rcases cg.mp hr with rfl|hr
   .exact hc
   .exact e3 r hr
  .cases i with
   |zero=>cases hi;cases hy;exact rv
   |succ i=>exact e4 i r y (by simpa using hi) (by simpa using hy)
theorem apV{K:bw}:mH K (λxs H Q=>∃(p:aH)(aM:List Pr),xs=[.ref p]/\cj K H p (aM.map λr=>V.ref r.1)/\0<aM.length/\(∀r∈aM,H r.1=aa (.tup (.int r.2.1::r.2.2)))/\(aM.map λr=>r.2.1).Nodup/\
  ∀r,aM[jk (tM aM) (aM.length-1)]?=aa r->Q (.ref r.1) H) PK:=by
 intro Z Θ aj C σ H xs ds res S b e Q q;refine hide λGG gg=>?_
 unfold PK at e;split at e
 case h_2=>cases e
 rename_i ds
 obtain⟨l,hl,e⟩:=qU.mp e
 by_cases nd:(l.map (·.1)).Nodup
 case neg=>rw[bB nd] at e;cases e
 rw[bC nd] at e
 obtain⟨x,hx,rfl⟩:=Ax.mp e
 obtain⟨mx,gx⟩:=adX hx
 obtain⟨v,rfl,bb⟩:=pZ b
 obtain⟨a,vs,rfl,ha,r⟩:=bb.lst
 obtain⟨aM,rfl,e2,e3,e4⟩:=ac3 hl r
 have len:aM.length=l.length:=by have:=congrArg vY e2;simpa using this
 have pos:0<aM.length:=by rw[len];exact ah3 mx
 refine gg ⟨a,aM,rfl,cj.of ha,pos,λr m=>jt (e3 r m),by rw[e2];exact nd,λr hr=>?_⟩;have val:∀i (hi:i<aM.length),(aM[i]).2.1=(l[i]'az).1:=λi hi=>by
  have:=congrArg (λz=>z[i]?) e2;simp only[jC,fU hi,fU (show i<l.length by lia),lC] at this;exact jj this
 have ge:=afS (bt:=tM aM) (val:=λi=>((aM[i]?).map λr=>r.2.1).getD 0) (n:=aM.length) (λi j hi hj=>by
  unfold tM;rw[fU hi,fU hj];rfl) (aM.length-1) az
 obtain⟨lt,er⟩:=jZ.mp hr
 obtain⟨k,hk,ek⟩:=tX mx
 have g1:=ge k az;simp only[fU (show k<aM.length by lia),hr,lC,Hl] at g1;rw[val k az,ek] at g1;have g2:=gx _ (vR (show jk (tM aM) (aM.length-1)<l.length by lia));have v2:=val _ lt;rw[er] at v2;have eqv:(l[jk (tM aM) (aM.length-1)]'az).1=x.1:=az;have ei:jk (tM aM) (aM.length-1)=k:=by
  rw[<-ek] at eqv;rcases aiR (jk (tM aM) (aM.length-1)) k with c|c|c
  .have:=Aw.mp nd _ k (by rw[bD];lia) (by rw[bD];exact hk) c;simp only[Ay] at this;exact absurd eqv this
  .exact c
  .have:=Aw.mp nd k _ (by rw[bD];exact hk) (by rw[bD];lia) c;simp only[Ay] at this;exact absurd eqv.symm this
 refine q _ H (bG.refl _ _) ⟨S,e4 _ r x hr ?_⟩;rw[ei,fU hk,ek]
theorem ae5(hs:∀k∈ks,k.map cA=sh):(pM ks).Pairwise λa b=>eF b a=aA:=by
 by_cases h2:ks.length<2
 .have l:=(acL ks).length_eq
  match h:pM ks with
  |[]=>exact .nil
  |[a]=>exact ZZ _ _
  |a::b::r=>rw[h] at l;simp at l;lia
 .have h0:0<ks.length:=az
  let f:Nat->List Key:=λi=>ks.getD i (ks.headD [])
  have fm:∀i,(f i).map cA=sh:=λi=>by
   show(ks.getD i (ks.headD [])).map cA=sh
   by_cases hi:i<ks.length
   .rw[zj,fU hi];exact hs _ (vR hi)
   .rw[zj,KQ az];cases ks with
    |nil=>cases h0
    |cons a r=>exact hs a eV
  have O:Ord λi j=>eF (f i) (f j):=⟨λa b h=>aew h,λa b c h1 h2=>by
   cases e:eF (f c) (f a) with
   |false=>rfl
   |true=>
    rcases afw ((fm c).trans (fm b).symm) ((fm b).trans (fm a).symm) e with h|h
    .exact ajh (h.symm.trans h2)
    .exact ajh (h.symm.trans h1)⟩
  obtain⟨hp,hu⟩:=(eU.run (ao1 O h0)).2
  unfold pM nA;rw[bB h2,Aw];intro i j hi hj hij;rw[bD,lY] at hi hj;have sz:=KP.size hp;have hu:=hu i j hij (by rw[<-sz];exact hj);rw[yo,yo,mY hi,mY hj] at hu;rw[Ay,Ay,aim,aim];exact hu
abbrev yP:=aH×List Key×aH
theorem eq_self(h:Q aq s):aQ (model prog w) A (eqBool (.ref a) (.ref a)) Q E s:=by
 unfold eqBool;refine nF ?_;rw[bC bF];exact aJ (ug (bz h))
theorem ac4:∀{ks js:List Key}{us vs:List aL}{a b:aH}{i:Nat},Vals (ks.map kV) us->Vals (js.map kV) vs->ks.map cA=js.map cA->(ks=js->a=b)->Q (eF ks js) s->KatLex prog w A aq aA Q ((us++[dJ a]).zip (vs++[dJ b])) i s
 |[],[],_,_,_,_,_,ra,rb,_,hab,h=>by
  cases ra;cases rb;cases hab rfl;exact kat_cons (eq_self (kat_yes (kat_nil h)))
 |[],_::_,_,_,_,_,_,_,_,e,_,_=>by cases e
 |_::_,[],_,_,_,_,_,_,_,e,_,_=>by cases e
 |a::ks,b::js,us,vs,x,y,i,ra,rb,e,hxy,h=>by
  cases ra with
  |cons r1 ra=>
   cases rb with
   |cons r2 rb=>
    have e1:cA a=cA b:=(sG e).1;have e2:=(sG e).2;refine kat_cons (Pb r1 r2 (Ey a) (Ey b) prog w _ _ ?_);rw[WL e1];unfold eF at h;by_cases hab:a=b
    .rw[bC hab] at h;rw[dW hab];exact kat_yes (ac4 ra rb e2 (λz=>hxy (by rw[hab,z])) h)
    .rw[bB hab] at h;rw[jy hab];exact kat_no (adn r1 r2 e1 h)
def Cv(h:cu)(r:yP):Prop:=∃aK,Vals (r.2.1.map kV) aK/\IsTup h r.1 (aK++[dJ r.2.2]).toArray
theorem Cv.keep(t:Cv h r)(k:∀b o,h.get? b=aa o->h'.get? b=aa o):Cv h' r:=by
 obtain⟨aK,v,o,e,c⟩:=t
 exact⟨aK,v,o,k _ _ e,c⟩
theorem adY:∀{aM:List yP},(∀r∈aM,Cv h r/\r.2.1.map cA=b::sh)->∃fs,KatTups h (aM.map λr=>dJ r.1) fs/\fs.length=aM.length/\∀f∈fs,∃k,RelV (kV k) f/\cA k=b
 |[],_=>⟨[],KatTups.nil,rfl,bF⟩
 |r::aM,ha=>by
  obtain⟨fs,t,l,g⟩:=adY (aM:=aM) λq hq=>ha q (fQ _ hq)
  obtain⟨⟨aK,v,o,e,c,n,d⟩,s⟩:=ha r eV
  obtain⟨a,ks,x⟩:=r
  cases ks with
  |nil=>cases s
  |cons k ks=>
   cases v with
   |@cons _ u _ us v1 v2=>
    refine⟨u::fs,KatTups.cons e c d bF t,by simp[l],λf hf=>?_⟩
    rcases cg.mp hf with rfl|hf
    .exact⟨k,v1,(sG s).1⟩
    .exact g f hf
theorem alF{w:dD}{A:iz}{s':aZ}{aM:List yP}{b:Bool}(ha:∀r∈aM,Cv s'.heap r/\r.2.1.map cA=b::sh)(h0:0<aM.length)(Q:SortKind->aZ->Prop)(q:Q (tuples' aq) s'):
  aQ (model prog w) A (keyKind' (aM.map λr=>dJ r.1).toArray) Q (λ_ _=>False) s':=by
 obtain⟨fs,t,l,g⟩:=adY ha
 refine kat_kind (T:=if b=aq then .type "int" else .type "str") t az (λv hv=>?_) (by cases b<;>rfl) (by cases b<;>exact q)
 obtain⟨k,r,e⟩:=g v hv
 exact acI r e
def uK(aM:List yP):List Row:=aM.map λr=>(r.1,r.2.1)
theorem aoe(ha:∀r∈aM,Cv s'.heap r/\r.2.1.map cA=sh)(nd:(aM.map (·.2.1)).Nodup)(hi:i<aM.length)(hj:j<aM.length)(C:Bool->aZ->Prop)(q:C (vh (uK aM) i j) s'):
  kas_ask prog w A (tuples' aq) (aM.map λr=>dJ r.1) i j C s':=by
 obtain⟨⟨aK,v,o,e,c,n,d⟩,s1⟩:=ha aM[i] (vR hi)
 obtain⟨⟨its2,v2,o2,e2,c2,n2,d2⟩,s2⟩:=ha aM[j] (vR hj)
 unfold kas_ask;have g:∀k (hk:k<aM.length),(aM.map λr=>dJ r.1).getD k j6=.ref aM[k].1:=λk hk=>by simp[pR,hk]
 rw[g i hi,g j hj];have l1:=v.length;have l2:=v2.length;have l3:aM[i].2.1.length=aM[j].2.1.length:=by
  have:=congrArg vY (s1.trans s2.symm);simpa using this
 refine kat_lt e d e2 d2 ?_;rw[bD] at l1 l2;have ez:decide ((aK++[dJ aM[i].2.2]).toArray.size<(its2++[dJ aM[j].2.2]).toArray.size)=aA:=by
  rw[jy];simp only[gK,gJ,fY,RT];lia
 rw[ez];have eo:∀k (hk:k<aM.length),wR (uK aM) k=aM[k].2.1:=λk hk=>by simp[wR,uK,pR,hk]
 unfold vh at q;rw[eo i hi,eo j hj] at q;refine ac4 (by simpa using v) (by simpa using v2) (s1.trans s2.symm) (λz=>?_) q;have:i=j:=by
  have hi':i<(aM.map (·.2.1)).length:=by simpa using hi
  have hj':j<(aM.map (·.2.1)).length:=by simpa using hj
  refine(List.getElem?_inj hi' nd).mp ?_
  rw[jC,jC,fU hi,fU hj];exact congrArg aa z
 subst this;rfl
theorem aco:∀{xs ys:List V}{us:List aL},Vals (xs++ys) us->∃a b,us=a++b/\Vals xs a/\Vals ys b
 |[],ys,us,h=>⟨[],us,rfl,.nil,h⟩
 |x::xs,ys,us,h=>by
  cases h with
  |cons r t=>
   obtain⟨a,b,rfl,h1,h2⟩:=aco t
   exact⟨_::a,b,rfl,.cons r h1,h2⟩
abbrev PL(K:bw):List V->Hp->VK->Prop:=λxs H Q=>∃(p:aH)(aM:List yP)(b:Bool)(sh:List Bool),xs=[.ref p]/\cj K H p (aM.map λr=>V.ref r.1)/\aM.length<64/\(∀r∈aM,H r.1=aa (.tup (r.2.1.map kV++[.ref r.2.2]))/\r.2.1.map cA=b::sh)/\(aM.map (·.2.1)).Nodup/\
  ∀l:aH,H l=ao->Q (.ref l) (upd H l (.lst ((nA (aM.map (·.2.1))).map λi=>(aM.map λr=>V.ref r.1).getD i .non)))
theorem adZ(aM:List yP):(uK aM).map (·.2)=aM.map (·.2.1):=by
 unfold uK;rw[fj];rfl
theorem aof(aM:List yP):(uK aM).map (λr=>dJ r.1)=aM.map λr=>dJ r.1:=by
 unfold uK;rw[fj];rfl
theorem arq(aM:List yP):(uK aM).map (λr=>V.ref r.1)=aM.map λr=>V.ref r.1:=by
 unfold uK;rw[fj];rfl
theorem aiT:jm X (.builtin "sorted") (PL X.K):=by
 intro au s σ H xs us Q I r h
 obtain⟨p,aM,b,sh,rfl,hp,h64,ha,nd,q⟩:=h
 obtain⟨u,rfl,ru⟩:=vals1 r
 cases ru
 obtain⟨aK,rv,pl,_⟩:=I.list hp
 rw[<-arq] at rv;have e0:=WM rv;subst e0;rw[aof] at pl;have tu:∀r∈aM,Cv s.heap r/\r.2.1.map cA=b::sh:=λr hr=>by
  obtain⟨_,aK,v,t⟩:=(show gn X.prog X.w H s.heap r.1 (.tup (r.2.1.map kV++[.ref r.2.2])) from I.hok r.1 _ (ha r hr).1)
  obtain⟨i1,i2,e,v1,v2⟩:=aco v
  obtain⟨w,rfl,ew⟩:=vals1 v2
  cases ew;subst e
  exact⟨⟨i1,v1,t⟩,(ha r hr).2⟩
 refine Ud (κ:=tuples' aq) (lt:=vh (uK aM)) (vs:=aM.map λr=>dJ r.1) (Rl:=λp=>p=nA (aM.map (·.2.1))) (by simpa using h64) (λh2=>by rw[<-adZ];exact Ve (by rw[bD,uK,bD]) h2) (λh2=>by rw[<-adZ];exact Ux (by rw[bD,uK,bD]) h2) (λR hR=>?_) (λh2 s' k Q' q'=>alF (λr hr=>⟨(tu r hr).1.keep k,(tu r hr).2⟩) (by rw[bD] at h2;lia) Q' q')
  (λh2 s' k i j hi hj C q'=>aoe (sh:=b::sh) (λr hr=>⟨(tu r hr).1.keep k,(tu r hr).2⟩) nd (by simpa using hi) (by simpa using hj) C q') λp D h' c tk hp' hrl hD k e=>?_
 .refine collect_list pl.isList (hR _ _ s.toks ?_ (λb o e=>?_) rfl)
  .rw[ai9,size_push'];lia
  .have hlt:b≠s.heap.objs.size:=gj (cL e);rw[aio _ _ _ _ hlt];exact cG _ e
 .subst hrl;have vv:∀p:List Nat,(∀i∈p,i<aM.length)->Vals (p.map λi=>(aM.map λr=>V.ref r.1).getD i .non) (p.map λi=>(aM.map λr=>dJ r.1).getD i j6):=λp=>by
   induction p with
   |nil=>exact λ_=>.nil
   |cons i p ih=>
    intro hp;refine .cons ?_ (ih λj hj=>hp j (fQ _ hj));have hi:=hp i eV;simp[pR,hi];rfl
  have hlt:∀i∈nA (aM.map (·.2.1)),i<aM.length:=λi hi=>by
   have:=qZ.mp (hp'.mem_iff.mp hi);simpa using this
  refine⟨.ref D,_,I.laid (o:=.lst ((nA (aM.map (·.2.1))).map λi=>(aM.map λr=>V.ref r.1).getD i .non)) k hD ⟨?_,_,c,vv _ hlt,by simpa[seqObj] using e⟩,rfl,q D (I.hok.fresh hD)⟩
  rw[bD,hp'.length_eq,oK,bD,lN];lia
def YJ:aB->Option (List Key)
 |.tuple ds=>match ds.getLast? with
  |some (.tuple _)=>keysOf ds.dropLast
  |_=>ao
 |_=>ao
def Dh:List aB->Option (List (List Key))
 |[]=>aa []
 |d::r=>(YJ d).bind λk=>(Dh r).map λt=>k::t
def QH(ks:List (List Key))(ds:List aB):List aB:=(nA ks).map λi=>ds.getD i .none
def O2:List aB->Option Vl
 |[.list ds]=>(Dh ds).bind λks=>match ks with
  |(b::sh)::r=>if(r.length<63/\r.all (λk=>decide (k.map cA=(b::sh).map cA))=aq)/\((b::sh)::r).Nodup then aa (.ow (.list (QH ((b::sh)::r) ds))) else ao
  |_=>ao
 |_=>ao
theorem ad0:∀{ds:List aB}{ks:List (List Key)},Dh ds=aa ks->ks.length=ds.length
 |[],ks,h=>by cases h;rfl
 |d::ds,ks,h=>by
  obtain⟨k,h1,h⟩:=qU.mp h
  obtain⟨t,h2,rfl⟩:=Ax.mp h
  rw[fY,fY,ad0 h2]
theorem afT:∀{ds:List aB}{ks:List (List Key)}{vs:List V},Dh ds=aa ks->cM E ds vs->∃aM:List yP,vs=aM.map (λr=>V.ref r.1)/\(∀r∈aM,E r.1=aa (.tup (r.2.1.map kV++[.ref r.2.2])))/\aM.map (·.2.1)=ks
 |[],ks,vs,h,r=>by
  cases h;cases(show vs=[] from r)
  exact⟨[],rfl,λ_ h=>(nomatch h),rfl⟩
 |d::ds,ks,vs,h,r=>by
  obtain⟨k,h1,h⟩:=qU.mp h
  obtain⟨t,h2,rfl⟩:=Ax.mp h
  obtain⟨v,vs',rfl,rv,rs⟩:=r
  obtain⟨aM,rfl,hr,rfl⟩:=afT h2 rs
  unfold YJ at h1;split at h1
  case h_2=>cases h1
  rename_i xs;split at h1
  case h_2=>cases h1
  rename_i ys hl
  obtain⟨a,us,rfl,ha,ru⟩:=rv
  have ex:xs=xs.dropLast++[.tuple ys]:=by
   obtain⟨zs,rfl⟩:=List.getLast?_eq_some_iff.mp hl
   simp
  rw[ex] at ru
  obtain⟨u1,u2,rfl,r1,r2⟩:=acO ru
  cases Bw h1 r1
  obtain⟨w,t,rfl,⟨b,ws,rfl,_⟩,rn⟩:=r2
  cases(show t=[] from rn)
  refine⟨(a,k,b)::aM,rfl,λr hr'=>?_,rfl⟩
  rcases cg.mp hr' with rfl|hr'
  .exact ha
  .exact hr r hr'
theorem ad1(r:cM E ds vs):∀(p:List Nat),(∀i∈p,i<ds.length)->cM E (p.map λi=>ds.getD i .none) (p.map λi=>vs.getD i .non)
 |[],_=>rfl
 |i::p,h=>by
  have hi:=h i eV
  obtain⟨v,e,rv⟩:=uv r (fU hi)
  refine⟨v,_,?_,?_,ad1 r p λj hj=>h j (fQ _ hj)⟩
  .rw[dU,zj,e];rfl
  .show RZ E (ds.getD i .none) v;rw[zj,fU hi];exact rv
theorem aog{K:bw}:mH K (PL K) O2:=by
 intro Z Θ aj C σ H xs ds res S b e Q q;unfold O2 at e;split at e
 case h_2=>cases e
 rename_i ds
 obtain⟨ks,h1,e⟩:=qU.mp e
 split at e
 case h_2=>cases e
 rename_i k0 sh rr;split at e
 case isFalse=>cases e
 rename_i hc;cases e
 obtain⟨⟨h64,hall⟩,nd⟩:=hc
 obtain⟨v,rfl,bb⟩:=pZ b
 obtain⟨a,vs,rfl,ha,r⟩:=bb.lst
 obtain⟨aM,rfl,hr,ek⟩:=afT h1 r
 have lk:=ad0 h1;have lr:aM.length=ds.length:=by
  have:=jU r;simpa using this
 refine⟨a,aM,cA k0,sh.map cA,rfl,cj.of ha,?_,λr hr'=>⟨asJ (hr r hr'),?_⟩,by rw[ek];exact nd,λl hl=>q _ _ (bG.upd hl) ?_⟩
 .rw[lr,<-lk,fY];lia
 .have m:r.2.1∈(k0::sh)::rr:=by rw[<-ek];exact cY.mpr ⟨r,hr',rfl⟩
  rcases cg.mp m with e|m
  .rw[e];rfl
  .exact of_decide_eq_true (lB.mp hall _ m)
 .rw[ek];refine qy S (ad1 r _ λi hi=>?_) hl;have:=qZ.mp ((M8 _).mem_iff.mp hi);rw[<-lk];exact this
def Zx(a:aH)(aC:List (Key×V))(ep:Nat):It:=
 ⟨λi H=>H a=aa (.dK aC ep)/\i<aC.length,λi H x H'=>H'=H/\∃kv,aC[i]?=aa kv/\x=kV kv.1,λi H=>H a=aa (.dK aC ep)/\aC.length<=i⟩
theorem amO:∀{l:List Iu}{vs:List (Key×aL)}{aC:List (Key×V)},Pairs (ou P w) l vs->KV aC vs->∀(i:Nat)(e:Iu),l[i]?=aa e->∃kv,aC[i]?=aa kv/\RelV (kV kv.1) e.key:=by
 intro l vs aC p;induction p generalizing aC with
 |nil=>intro _ i e h;simp at h
 |cons h1 h2 h3 ih=>
  intro r i e h;cases r with
  |@cons a b as bs hr t=>
   cases i with
   |zero=>
    simp at h;subst h
    refine⟨a,rfl,?_⟩
    rw[hr.1];rcases uT h1 with⟨i,t,e3,e4⟩|⟨y,t,e3,e4⟩
    .rw[e3,e4];exact⟨t,rfl⟩
    .rw[e3,e4];exact⟨t,rfl⟩
   |succ i=>
    obtain⟨kv,g1,g2⟩:=ih t i e (by simpa using h)
    exact⟨kv,by simpa using g1,g2⟩
theorem amP{P:fV}{w:dD}{K:bw}{tg:Expr}{J:It}{a it:aH}{n ep:Nat}
  (hgo:∀(X:Cx)(au:List (aH×Obj))(σ:St)(H:Hp)(s:aZ),X.prog=P->X.w=w->Inv X au σ H s->∀i,J.go i H->∃es,vA s.heap a es ep/\es.size=n/\∃(e:Iu)(x:V),es[i]?=aa e/\RelV x e.key/\J.J1 i H x H)
  (hst:∀(X:Cx)(au:List (aH×Obj))(σ:St)(H:Hp)(s:aZ),X.prog=P->X.w=w->Inv X au σ H s->∀i,J.stop i H->∃es,vA s.heap a es ep/\es.size=n/\n<=i):
  Turn P w K tg J [it] it (λi h=>h.IsKeyIter it a i n ep) where
 mem:=bF
 obj:=λi h st b hb=>by
  have e:b=it:=by simpa using hb
  subst e
  obtain⟨o,e,c,d⟩:=st
  exact⟨o,e,λv z=>by rw[d] at z;cases z⟩
 keep:=λi h h' st k=>st.at λo e=>k it bF o e
 item:=by
  intro X hP hw hK hc i au s σ H E I hf st hg
  obtain⟨es,raw,hn,e,x,he,rx,y⟩:=hgo X au σ H s hP hw I i hg
  subst hP hw hK hn
  obtain⟨f0,f1,f2,f3,f4,f5⟩:=hf it bF
  obtain⟨hlt,e1⟩:=ahP.mp he
  refine adq st raw hlt λh' st' sb=>?_
  have I1:Inv X au σ H {s with heap:=h'}:=I.turned (t':=s.toks) (λb o hb e=>(sb.2 b hb).trans e) f0 f1 f3 f4 f5
  obtain⟨o,e0,c,d⟩:=id st'
  exact⟨_,rfl,P0 (s:={s with heap:=h'}) e0 c d bA ⟨x,H,I1,by rw[e1];exact rx,y,st',λb hb=>(hf b hb).1⟩⟩
 done:=by
  intro X hP hw hK hc i au s σ H E I hf st hg
  obtain⟨es,raw,hn,he⟩:=hst X au σ H s hP hw I i hg
  subst hP hw hK hn
  obtain⟨f0,f1,f2,f3,f4,f5⟩:=hf it bF
  exact aeu (I.ok.hd hc) st raw he λh' eb=>⟨rfl,I.turned (t':=s.toks) (λb o hb e=>eb b o hb e) f0 f1 f3 f4 f5⟩
 self:=λ_ _ _ _ _ st h=>aie st h
theorem XJ{X:Cx}{σ:St}{H:Hp}{a:aH}{ep:Nat}(I:Inv X au σ H s)(h:H a=aa (.dK aC ep)):
  (a==sO)=aA/\∃es,vA s.heap a es ep/\es.size=aC.length/\∀(i:Nat)(e:Iu),es[i]?=aa e->∃kv,aC[i]?=aa kv/\RelV (kV kv.1) e.key:=by
 obtain⟨z,lo,vs,rel,o,es,h1,h2,h3,h4,h5,h6⟩:=(show gn X.prog X.w H s.heap a (.dK aC ep) from I.hok a _ h)
 have l1:=h5.length;have l2:=Paired.length rel
 refine⟨lo,es,⟨o,h1,h2,h3⟩,?_,λi e he=>amO h5 rel i e (by rw[G9];exact he)⟩
 rw[<-lY,l1,l2]
theorem apW{K:bw}{tg:Expr}(a it:aH)(aC:List (Key×V))(ep:Nat):Turn P w K tg (Zx a aC ep) [it] it (λi h=>h.IsKeyIter it a i aC.length ep):=
 amP (λX au σ H s _ _ I i hg=>by
  obtain⟨lo,es,raw,hn,hk⟩:=XJ I hg.1
  have hi:i<es.size:=by rw[hn];exact hg.2
  obtain⟨kv,e1,e2⟩:=hk i es[i] (mY hi)
  exact⟨es,raw,hn,es[i],kV kv.1,mY hi,e2,rfl,kv,e1,rfl⟩) λX au σ H s _ _ I i hg=>by
  obtain⟨lo,es,raw,hn,hk⟩:=XJ I hg.1
  exact⟨es,raw,hn,hg.2⟩
def atM(tl:TE):TI:=λσ H R=>tl σ H λx H1=>∃a aC ep,x=.ref a/\H1 a=aa (.dK aC ep)/\R (Zx a aC ep) H1
theorem apY(hl:PE X l tl):PI X tg l (atM tl):=by
 intro au s σ H R I h;refine b7 (hl au s σ H _ I h) λv s1 aY=>?_
 obtain⟨x,H1,I1,r1,a,aC,ep,e,ha,q⟩:=aY
 subst e;cases r1
 obtain⟨lo,es,raw,hn,hk⟩:=XJ I1 ha
 refine adp lo raw ?_
 refine⟨s1.heap.objs.size,[s1.heap.objs.size],_,_,H1,rfl,I1.kept (t':=s1.toks) λb o e=>cG _ e,apW a _ aC ep,⟨_,gR _ rfl,rfl,by rw[<-hn];rfl⟩,λb hb=>?_,q⟩
 have e:b=s1.heap.objs.size:=by simpa using hb
 subst e;exact I1.wY (bU _) (I1.hok.fresh (bU _))
def Km:aB->Option (List aB)
 |.dict aC=>if(dO f9 aC).isSome then aa (aC.map (·.1)) else ao
 |_=>ao
theorem ars(h:Km d=aa aK):∃aC ks,d=.dict aC/\dO f9 aC=aa ks/\aK=aC.map (·.1):=by
 unfold Km at h;split at h
 .split at h
  .rename_i hs;cases h
   obtain⟨ks,hk⟩:=zm.mp hs
   exact⟨_,ks,rfl,hk,rfl⟩
  .cases h
 .cases h
theorem xG.keyd(da:xG H a aC vs)(hk:dO f9 aC=aa ks):∃ep,H a=aa (.dK (ks.zip vs) ep):=by
 rcases da with⟨ks',h1,h2⟩|⟨ks',⟨ne,h1⟩,h2⟩
 .rw[hk] at h1;cases h1;exact h2
 .exact absurd (zK hk h1) ne
theorem asN(ha:er T H a=aa (.dK (ks.zip vs) ep))(hk:dO f9 aC=aa ks)(hl:vs.length=aC.length):yM P T H (Zx a (ks.zip vs) ep) (aC.map (·.1)):=λi H2 P2 s1 s2 n=>by
 have h2:H2 a=aa (.dK (ks.zip vs) ep):=jt (s2 _ _ ha);have l1:=xY hk;have l2:(ks.zip vs).length=aC.length:=by rw[Lj,l1,hl,akl]
 refine⟨λd hd=>?_,λhi=>⟨h2,by rw[l2,hi,bD];exact bU _⟩⟩
 have hi:i<aC.length:=by
  obtain⟨h,_⟩:=jZ.mp hd
  simpa using h
 refine⟨⟨h2,by rw[l2];exact hi⟩,λx H3 y=>?_⟩
 obtain⟨rfl,kv,e1,rfl⟩:=y
 obtain⟨v,e2,r⟩:=uv (V8 (E:=er P2 H3) hk (by rw[l1,hl])) hd
 rw[jC,e1] at e2;cases e2
 exact⟨cO.refl _,r⟩
def Ko(f:FB):FI:=λaj C=>(f aj C).bind λp=>(Km p.1).map λaK=>(aK,p.2)
theorem agr(h:PE X e (fK X.K f)):PI X tg e (tI X.K aq (Ko f)):=(apY h).weak λσ H R aY=>by
 obtain⟨Z,Θ,aj,C,aK,aW,C',S,hf,q⟩:=aY
 obtain⟨p,h1,hf⟩:=lD hf
 obtain⟨its',h2,hf⟩:=Ax.mp hf
 obtain⟨d,e1,C1⟩:=p
 cases hf
 obtain⟨aC,ks,rfl,hk,rfl⟩:=ars h2
 refine⟨Z,Θ,aj,C,_,aW,C',S,h1,λv H1 k f S1 b=>?_⟩
 obtain⟨a,vs,rfl,da,r⟩:=b
 obtain⟨ep,ha⟩:=da.keyd hk
 exact⟨a,_,ep,rfl,jt ha,q _ H1 k f S1 (asN ha hk (Ft r))⟩
def XM:aB->aB->Option Vl
 |.tuple (d::ds),.int k=>if 2<=k/\(d::ds).length*k.toNat<=gG then aa (.im (.tuple (cN k.toNat (d::ds)).flatten)) else ao
 |_,_=>ao
theorem apZ{K:bw}:ie K (Qe K) XM:=by
 intro Z Θ aj C σ H x y dx dy res S bx fG e Q q;unfold XM at e;split at e
 case h_2=>cases e
 rename_i d ds k;split at e
 case isFalse=>cases e
 rename_i hk;cases e;cases fG.int;have bx:RZ (er (bH Z Θ aj σ) H) (.tuple (d::ds)) x:=bx
 obtain⟨a,vs,rfl,ha,r⟩:=id bx
 refine⟨a,vs,k,rfl,rfl,dg.of (jt ha),(λz=>by subst z;obtain⟨_,_,z,_⟩:=r;cases z),hk.1,?_,λp hp=>q _ _ (bG.upd hp) (Fv S (ae4 r _) hp)⟩
 rw[jU r];exact rB hk.2
def XN(x y:aB):Option Vl:=match XF x y with
 |some z=>aa z
 |none=>XM x y
theorem ap0:dR X (pC .Mult) (λx y H Q=>Qo X.K x y H Q\/Qe X.K x y H Q):=apS.or ao3
theorem ap1{K:bw}:ie K (λx y H Q=>Qo K x y H Q\/Qe K x y H Q) XN:=ie.or apT apZ
def Cw:aB->aB->Option Vl
 |.str z,.int n=>if 2<=n/\1<=z.length/\z.length*n.toNat<=gG/\(Ag z n.toNat).length<=gG then aa (.im (.str (Ag z n.toNat))) else ao
 |_,_=>ao
theorem Xa{K:bw}:ie K (λx y H Q=>∃z n,x=.str z/\y=.int n/\2<=n/\1<=z.length/\z.length*n.toNat<=cH/\(Ag z n.toNat).length<=cH/\Q (.str (Ag z n.toNat)) H) Cw:=by
 intro Z Θ aj C σ H x y dx dy res S bx fG e Q q;unfold Cw at e;split at e
 case h_2=>cases e
 split at e
 case isFalse=>cases e
 rename_i h;cases e;cases bx.str;cases fG.int
 exact⟨_,_,rfl,rfl,h.1,h.2.1,rB h.2.2.1,rB h.2.2.2,q _ _ (bG.refl _ _) (jT S rfl rfl)⟩
def O3(ds:List aB):Option Vl:=match O2 ds with
 |some z=>aa z
 |none=>oO ds
theorem aoh{K:bw}:mH K (λxs H Q=>PL K xs H Q\/Py K xs H Q) O3:=Xy aog (Ez (K:=K))
theorem alG(hc:X.calm=aq):jm X (.builtin "sorted") (λxs H Q=>PL X.K xs H Q\/Py X.K xs H Q):=aiT.or (Ek (X:=X) hc)
def Gq:aB->aB->Option Vl
 |.bool a,.bool b=>aa (.im (.bool (a==b)))
 |_,_=>ao
theorem afU{K:bw}:ie K (λx y H Q=>∃a b,x=.bl a/\y=.bl b/\Q (.bl (a==b)) H) Gq:=by
 intro Z Θ aj C σ H x y dx dy res S bx fG e Q q;unfold Gq at e;split at e
 case h_2=>cases e
 cases e
 exact⟨_,_,bx,fG,q _ _ (bG.refl _ _) (jT S rfl rfl)⟩
theorem aO(i:Nat)(hN:X.N[i]?=aa x:=by rfl)(hv:JW X.env.scope x:=by first|exact Cd rfl|exact ym (Cd rfl)|exact ym (ym rfl))(hd:(x==("__debug__":Str))=aA:=by decide)(hcd:(x==("__classdict__":Str))=aA:=by decide):PE X (.Name x pos) (fK X.K (aN i)):=aqT (Xi hN hv hd hcd)
theorem bf(i:Nat)(hN:X.N[i]?=aa x:=by rfl)(hv:JW X.env.scope x:=by first|exact Cd rfl|exact ym (Cd rfl)|exact ym (ym rfl))(hd:(x==("__debug__":Str))=aA:=by decide)(hcd:(x==("__classdict__":Str))=aA:=by decide):PE X (.Name x pos) (tE X.K (aX i)):=aqS (Xi hN hv hd hcd)
theorem dI:PE X (.Constant (.int i) j pos) (tE X.K (aP (.int i))):=dB aqm
theorem bN:PE X (.Constant (.int i) j pos) (fK X.K (aG (aP (.int i)))):=aR dI
theorem fM(ha:PE X a (fK X.K fa))(hb:PE X b (fK X.K fb)):PE X (.BinOp a .Add b pos) (tE X.K (aV cD fa fb)):=jw apf aqU ha hb
theorem dX(hr:kY k X.A)(ha:PE X a (fK X.K fa))(hb:PE X b (fK X.K fb))(hs:Jc b:=by exact λ_ _=>rfl):PE X (.Subscript a b pos) (tE X.K (aV bQ fa fb)):=ar9 (aqY hr.mL) asb ha hb hs
theorem cB(F:dz X.prog X.w X.K X.mg X.base x k ps (spT X.K f))(hr:kY n X.A)(ha:PA X (e::es) (za X.K g))(hk:k<=n:=by decide)(hg:Gl X x:=by rfl)(hdb:(x==("__debug__":Str))=aA:=by decide)
  (he:bM (e::es) X.env=(aA,eval e X.env)::bM es X.env:=by rfl)(hpl:(iC pos (bM es X.env)).any (·.1)=aA:=by rfl):PE X (.Call (.Name x p) (e::es) [] pos) (tE X.K (bW f g)):=agj F (hr.mono hk) hg ha hdb he hpl
theorem dG(i:Nat)(hN:X.N.Nodup)(hi:X.N[i]?=aa x:=by rfl)(hx:Loc X.env.scope x:=by first|exact .inl rfl|exact .inr rfl)(hf:X.fn x=aq\/X.env.scope.names.lookup x=aa .local:=by first|exact .inl rfl|exact .inr rfl|assumption):PG X (.Name x pos) (yr i):=aoI hN hi hx hf
theorem jc(i:Nat)(hN:X.N.Nodup)(he:PE X e (tE X.K f))(hi:X.N[i]?=aa x:=by rfl)(hx:Loc X.env.scope x:=by first|exact .inl rfl|exact .inr rfl)(hs:wu e (aa (.Name x pos')) pos.line X.env=pure aA:=by rfl)(hf:X.fn x=aq\/X.env.scope.names.lookup x=aa .local:=by first|exact .inl rfl|exact .inr rfl|assumption):
  PS X (.Assign [.Name x pos'] e pos) (tS X.K (eN i f)):=aq2 hN hi hx he hs hf
theorem dH(h:PE X e (tE X.K f)):lg X [.Return (aa e) pos] (tS X.K (di f)):=lR (aq1 h)
theorem iH(hc:jm X (.builtin bid) r)(L:mH X.K r op)(hm:X.mg x=ao)(ha:PA X (e::es) (yW X.K g))(hg:Gl X x:=by rfl)(hv:uQ x=aa (.builtin bid):=by decide +kernel)(hn:x≠"__name__":=by decide)(hdb:(x==("__debug__":Str))=aA:=by decide)
  (he:bM (e::es) X.env=(aA,eval e X.env)::bM es X.env:=by rfl)(hpl:(iC pos (bM es X.env)).any (·.1)=aA:=by rfl):PE X (.Call (.Name x p) (e::es) [] pos) (tE X.K (dY op g)):=anQ hc L hg hm hv ha hn hdb he hpl
theorem jA(h:iy N P sc:=by exact⟨rfl,rfl,rfl,bL,rfl,bL,bL⟩):iy N P sc:=h
end L2
namespace Zy
open PySem L2
abbrev zaa:List Str:=["thing"]
abbrev zab:List Str:=["thing","parts","ranks","leaves","rules","names"]
abbrev zac:List Str:=["thing","names","outer"]
abbrev zad:List Str:=["outer","name"]
abbrev zae:List Str:=["thing","names"]
abbrev zaf:List Str:=["row","names"]
abbrev zag:List Str:=["row","names","part","bound","seats"]
abbrev zah:List Str:=["thing","many"]
abbrev zai:List Str:=["thing","many","most"]
abbrev zaj:List Str:=["keys"]
abbrev zak:List Str:=["first","last"]
abbrev zal:List Str:=["house","part","outer","over"]
abbrev zam:List Str:=["house","part"]
abbrev zan:List Str:=["house","person","part","day","over","held"]
abbrev zao:List Str:=["house","person","part","day"]
abbrev zap:List Str:=["house","rank","part","day","people"]
abbrev zaq:List Str:=["house","rank","part","day"]
abbrev zar:List Str:=["house","part","amount","fitting","bound","seats"]
abbrev zas:List Str:=["house","part","amount"]
abbrev zat:List Str:=["house","part","name","found"]
abbrev zau:List Str:=["_law_script","_law_k"]
abbrev zav:List Str:=["_law_box_here","_law_many"]
abbrev zaw:List Str:=["_law_box_here","_law_many","_law_letters","_law_found","_law_k","_law_size","_law_name"]
abbrev zax:List Str:=["_law_found","_law_due"]
abbrev zay:List Str:=["_law_box_here","_law_names_here","_law_row","_law_order","_law_left","_law_k","_law_parts","_law_ranks","_law_leaves","_law_rules","_law_days","_law_held","_law_at","_law_who","_law_where","_law_seats"]
abbrev zaz:List Str:=["_law_box_here","_law_names_here"]
abbrev za0:List Str:=["_law_parts","_law_ranks","_law_leaves","_law_rules"]
abbrev za1:List Str:=["_law_house_here","_law_parts","_law_ranks","_law_names_here","_law_over","_law_days","_law_part","_law_within","_law_row","_law_day","_law_due","_law_number","_law_person","_law_rank","_law_where","_law_first","_law_last","_law_some"]
abbrev za2:List Str:=["_law_house_here","_law_parts","_law_ranks","_law_names_here"]
abbrev za3:List Str:=["_law_house_here","_law_parts","_law_rules","_law_part","_law_total","_law_seats","_law_due","_law_less_here"]
abbrev za4:List Str:=["_law_house_here","_law_parts","_law_rules"]
abbrev za5:List Str:=["_law_parts","_law_ranks","_law_leaves","_law_rules","_law_part","_law_far","_law_spare","_law_seven","_law_some","_law_rows"]
abbrev za6:List Str:=["_law_box_here","_law_parts","_law_ranks","_law_leaves","_law_rules","_law_a","_law_b","_law_c","_law_part","_law_total","_law_seats","_law_some"]
abbrev za7:List Str:=["_law_box_here","_law_parts","_law_ranks","_law_leaves","_law_rules"]
abbrev za8:List Str:=["_law_script","_law_k","_law_box_here","_law_names_here","_law_parts","_law_ranks","_law_leaves","_law_rules","_law_house_here","_law_kept"]
abbrev za9:List Str:=["_law_script"]
abbrev zba:List Str:=["name","within"]
abbrev zbb:List Str:=["name"]
abbrev zbc:List Str:=["rank","where"]
abbrev zbd:List Str:=["row"]
abbrev zbe:List Str:=["names"]
abbrev zbf:List Str:=["_law_one"]
abbrev zbg:List Str:=["_law_person"]
abbrev zbh:List Str:=["_law_part"]
def top(i:Nat):eX:=PySem.Challenge.pw_rankseals_k10_houses_at_their_bounds.main.body.getD i (.Pass ⟨0,0,0,0⟩)
abbrev Nj:eX:=top 2
theorem alH:iy zaa zaa (cC Nj):=jA
abbrev Ue:eX:=top 3
theorem akp:iy zaa zaa (cC Ue):=jA
abbrev M3:eX:=top 12
theorem Ef:iy zab zaa (cC M3):=jA
abbrev zG:eX:=top 13
theorem TJ:iy zac zaa (cC zG):=jA
abbrev Rx:eX:=top 14
theorem Rp:iy (["outer","name","step"]:List Str) zad (cC Rx):=jA
abbrev HW:eX:=top 15
theorem akq:iy zae zae (cC HW):=jA
abbrev Th:eX:=top 16
theorem Be:iy (["row","names","number","person","rank","part","first","last"]:List Str) zaf (cC Th):=jA
abbrev HJ:eX:=top 17
theorem ajW:iy zae zae (cC HJ):=jA
abbrev Sx:eX:=top 18
theorem zy:iy (["row","names","number","giver","taker","part","first","last","most"]:List Str) zaf (cC Sx):=jA
abbrev HX:eX:=top 19
theorem akr:iy zae zae (cC HX):=jA
abbrev Mf:eX:=top 20
theorem Lw:iy zag zaf (cC Mf):=jA
abbrev Ti:eX:=top 21
theorem ajE:iy zah zah (cC Ti):=jA
abbrev Lp:eX:=top 22
theorem aji:iy zai zai (cC Lp):=jA
abbrev Mu:eX:=top 23
theorem aks:iy zaj zaj (cC Mu):=jA
abbrev RL:eX:=top 24
theorem aiU:iy zaa zaa (cC RL):=jA
abbrev Vo:eX:=top 25
theorem alI:iy zaa zaa (cC Vo):=jA
abbrev UW:eX:=top 26
theorem akY:iy zak zak (cC UW):=jA
abbrev Mp:eX:=top 28
theorem Mg:iy zal zam (cC Mp):=jA
abbrev Nk:eX:=top 30
theorem U0:iy zan zao (cC Nk):=jA
abbrev HN:eX:=top 31
theorem abq:iy zap zaq (cC HN):=jA
abbrev Il:eX:=top 33
theorem Mv:iy zar zas (cC Il):=jA
abbrev Mw:eX:=top 34
theorem TQ:iy zat zam (cC Mw):=jA
abbrev XQ:eX:=top 36
theorem Xb:iy (["_law_script","_law_k","_law_cell"]:List Str) zau (cC XQ):=jA
abbrev Xc:eX:=top 37
theorem Wi:iy (["_law_box_here","_law_many","_law_found","_law_once"]:List Str) zav (cC Xc):=jA
abbrev EY:eX:=top 38
theorem Bx:iy zaw zav (cC EY):=jA
abbrev Ji:eX:=top 39
theorem aoi:iy zax zax (cC Ji):=jA
abbrev Fb:eX:=top 40
theorem pB:iy zay zaz (cC Fb):=jA
abbrev Wj:eX:=top 41
theorem amQ:iy za0 za0 (cC Wj):=jA
abbrev DX:eX:=top 42
theorem oM:iy za1 za2 (cC DX):=jA
abbrev Hs:eX:=top 43
theorem DQ:iy za3 za4 (cC Hs):=jA
abbrev By:eX:=top 44
theorem uh:iy za5 za0 (cC By):=jA
abbrev O4:eX:=top 45
theorem zO:iy za6 za7 (cC O4):=jA
abbrev JF:eX:=top 46
theorem wQ:iy za8 za9 (cC JF):=jA
structure Txt(K:bw)(mg:Str->Option aL)(iM iR iT iQ iU iW iY iZ:Tok):Prop where
 Qp:mg "abs"=ao
 pJ:mg "all"=ao
 Gg:mg "bool"=ao
 JG:mg "int"=ao
 oN:mg "isinstance"=ao
 rJ:mg "len"=ao
 Gh:mg "list"=ao
 Gs:mg "max"=ao
 Yk:mg "min"=ao
 sX:mg "range"=ao
 PN:mg "repr"=ao
 Yl:mg "set"=ao
 wD:mg "sorted"=ao
 JH:mg "str"=ao
 rG:mg "tuple"=ao
 Qq:mg "zip"=ao
 ajF:mg "HIGHEST_RANK"=aa (.int 9 iM)
 ajX:mg "LOWEST_RANK"=aa (.int 1 iR)
 ajY:mg "MOST_LEAVES"=aa (.int 16 iT)
 ajG:mg "MOST_LETTERS"=aa (.int 8 iQ)
 akt:mg "MOST_PARTS"=aa (.int 8 iU)
 aku:mg "MOST_RANKS"=aa (.int 20 iW)
 akv:mg "MOST_RULES"=aa (.int 10 iY)
 akx:mg "MOST_SEATS"=aa (.int 6 iZ)
abbrev aaW:FT:=(gP (aV qK (aN 1) (aN 2)))
abbrev aaX:FS:=(bO (xm 3 (aX 1)) (eN 1 (aV bQ (aN 2) (aN 1))))
abbrev R9:FE:=(aX 0)
abbrev Sd:FE:=(aX 1)
abbrev TV:FS:=(bO (eN 2 (Aq (qR (aG (aV bQ (aN 0) (aG (aP (.int 0)))))) (.many 2) cz R9 Sd [])) (bO (eN 3 (dj aU)) (bO (Zo aaW aaX) (CQ 3))))
def zF:FN:=fN 2 4 TV
abbrev aba:FT:=(gP (aV lW (aN 0) (aN 3)))
abbrev abb:FE:=(eZ (aD (aX 1) (aD (aX 2) aU)))
abbrev abd:FS:=(bO (eN 3 (gk (qR (aG (aV bQ (aN 0) (aG (aP (.int 3)))))) (.many 3) aba abb [2])) (gC (je (aN 3)) (CQ 3) gY))
abbrev Mx:FS:=(bO (jX (iV (bW zF (aD (aX 0) (aD (aX 1) aU)))) (bY 2) abd) (di (dj aU)))
def My:FN:=fN 2 4 Mx
abbrev Tj:FE:=(eZ (aD (aX 0) (aD (Dd (gP (aV lW (aN 1) (aG (aP (.str (bI "")))))) (aX 2) (aX 1)) aU)))
abbrev abr:FT:=(gP (aV lG (aN 0) (aN 2)))
abbrev abt:FE:=(eZ (aD (aX 0) (aD (aX 1) aU)))
abbrev M4:FS:=(bO (eN 3 (gk (qR (aG (bW My (aD (aX 0) (aD (aX 1) aU))))) (.many 2) abr abt [2])) (bO (gC (jn (je (aN 3))) (di (eZ aU)) gY) (bO (xj (dY PK (dF (aN 3) eG)) (oG 2 (cZ (bY 4) (cZ (bY 5) oE)))) (di (dY rF (dF (aG (gk (qR (aN 5)) (.many 2) cz Tj [1])) eG))))))
def Im:FN:=fN 3 6 M4
abbrev TX:FE:=(xg lG lG (aG (aP (.str (bI "a")))) (aN 0) (aG (aP (.str (bI "z")))))
abbrev Nm:FS:=(bO (gC (pO (jn (je (aG (j9 "str" (aN 0))))) (jn (gP (xg lG lG (aG (aP (.int 1))) (aG (dY mF (dF (aN 0) eG))) (aG (aP (.int 8))))))) (di (aP (.bool aA))) gY) (di (dY nq (dF (aG (gk (iB (aN 0)) .one cz TX [])) eG))))
def uo:FN:=fN 1 1 Nm
abbrev Ug:FS:=(di (gO (j9 "int" (aN 0)) (CP (j9 "bool" (aN 0)))))
def Eg:FN:=fN 1 1 Ug
abbrev Tn:FS:=(di (gO (j9 "tuple" (aN 0)) (aV lW (aG (dY mF (dF (aN 0) eG))) (aN 1))))
def zB:FN:=fN 2 2 Tn
abbrev aak:FE:=(bW zB (aD (aX 0) (aD (aX 1) aU)))
abbrev Lq:FS:=(bO (gC (pO (jn (je (aG (j9 "tuple" (aN 0))))) (gP (aV JL (aG (dY mF (dF (aN 0) eG))) (aN 2)))) (di (aP (.bool aA))) gY) (di (dY nq (dF (aG (gk (iB (aN 0)) .one cz aak [1])) eG))))
def su:FN:=fN 3 3 Lq
abbrev Lx:FE:=(aV wZ (aN 0) (aN 1))
abbrev Uh:FS:=(di (dY nq (dF (aG (gk (GD (dF (aN 0) (dF (aG (jO (aN 0) (jN (aG (aP (.int 1)))) jQ)) eG))) (.many 2) cz Lx [])) eG)))
def wg:FN:=fN 1 1 Uh
abbrev RM:FS:=(di (gO (bW Eg (aD (aX 0) aU)) (aV Dc (aN 0) (aG (aP (.int 0))))))
def uc:FN:=fN 1 1 RM
abbrev Vp:FS:=(di (gO (bW Eg (aD (aX 0) aU)) (xg lG lG (aG (aP (.int 1))) (aN 0) (aG (aP (.int 9))))))
def Er:FN:=fN 1 1 Vp
abbrev U3:FS:=(di (gO (bW uc (aD (aX 0) aU)) (gO (bW uc (aD (aX 1) aU)) (aV lG (aN 0) (aN 1)))))
def El:FN:=fN 2 2 U3
abbrev Z9:FS:=(bO (eN 1 (aV bQ (aN 0) (aN 1))) (gC (gP (aV lW (aN 1) (aG (aP (.str (bI "")))))) (di (aP (.bool aq))) gY))
abbrev Ry:FS:=(bO (jX (oh (aG (dY mF (dF (aN 0) eG)))) (bY 2) Z9) (di (aP (.bool aA))))
def K8:FN:=fN 2 3 Ry
abbrev Sy:FE:=(bW K8 (aD (aX 1) (aD (aX 0) aU)))
abbrev abe:FE:=(aX 0)
abbrev abf:FE:=(aX 1)
abbrev abg:FE:=(Ah (aV lW (aN 1) (aG (aP (.str (bI ""))))) (aV qK (aN 1) (aN 2)))
abbrev Lz:FE:=(bW uo (aD (aX 0) aU))
abbrev SJ:FE:=(aX 0)
abbrev HY:FS:=(bO (gC (jn (je (aG (bW su (aD (aX 0) (aD (aP (.int 2)) (aD (aP (.int 8)) aU))))))) (di (aP (.bool aA))) gY) (bO (eN 1 (gk (qR (aN 0)) (.many 2) cz SJ [])) (bO (gC (pO (jn (je (aG (dY nq (dF (aG (gk (iB (aN 1)) .one cz Lz [])) eG))))) (jn (je (aG (bW wg (aD (aX 1) aU)))))) (di (aP (.bool aA))) gY) (bO (gC (jn (je (aG (dY nq (dF (aG (gk (qR (aN 0)) (.many 2) cz abg [1])) eG))))) (di (aP (.bool aA))) gY) (bO (eN 2 (Aq (qR (aN 0)) (.many 2) cz abe abf [])) (di (dY nq (dF (aG (gk (iB (aN 1)) .one cz Sy [2])) eG))))))))
def H9:FN:=fN 1 3 HY
abbrev Mh:FS:=(bO (xj (aX 0) (oG 6 (cZ (bY 2) (cZ (bY 3) (cZ (bY 4) (cZ (bY 5) (cZ (bY 6) (cZ (bY 7) oE)))))))) (bO (gC (pO (jn (je (aG (bW uc (aD (aX 2) aU))))) (pO (jn (je (aG (bW uo (aD (aX 3) aU))))) (jn (je (aG (bW Er (aD (aX 4) aU))))))) (di (aP (.bool aA))) gY) (di (gO (aV qK (aN 5) (aN 1)) (bW El (aD (aX 6) (aD (aX 7) aU)))))))
def HB:FN:=fN 2 8 Mh
abbrev abh:FE:=(aV bQ (aN 0) (aG (aP (.int 0))))
abbrev SM:FE:=(bW HB (aD (aX 0) (aD (aX 1) aU)))
abbrev Ia:FS:=(bO (gC (jn (je (aG (bW su (aD (aX 0) (aD (aP (.int 6)) (aD (aP (.int 20)) aU))))))) (di (aP (.bool aA))) gY) (di (gO (dY nq (dF (aG (gk (iB (aN 0)) .one cz SM [1])) eG)) (bW wg (aD (gk (iB (aN 0)) .one cz abh []) aU)))))
def xR:FN:=fN 2 2 Ia
abbrev LC:FS:=(bO (xj (aX 0) (oG 7 (cZ (bY 2) (cZ (bY 3) (cZ (bY 4) (cZ (bY 5) (cZ (bY 6) (cZ (bY 7) (cZ (bY 8) oE))))))))) (bO (gC (pO (jn (je (aG (bW uc (aD (aX 2) aU))))) (jn (je (aG (bW uc (aD (aX 8) aU)))))) (di (aP (.bool aA))) gY) (bO (gC (pO (jn (je (aG (bW uo (aD (aX 3) aU))))) (pO (jn (je (aG (bW uo (aD (aX 4) aU))))) (gP (aV lW (aN 3) (aN 4))))) (di (aP (.bool aA))) gY) (di (gO (aV qK (aN 5) (aN 1)) (bW El (aD (aX 6) (aD (aX 7) aU))))))))
def Ht:FN:=fN 2 9 LC
abbrev aaY:FE:=(aV bQ (aN 0) (aG (aP (.int 0))))
abbrev Sg:FE:=(bW Ht (aD (aX 0) (aD (aX 1) aU)))
abbrev HQ:FS:=(bO (gC (jn (je (aG (bW su (aD (aX 0) (aD (aP (.int 7)) (aD (aP (.int 16)) aU))))))) (di (aP (.bool aA))) gY) (di (gO (dY nq (dF (aG (gk (iB (aN 0)) .one cz Sg [1])) eG)) (bW wg (aD (gk (iB (aN 0)) .one cz aaY []) aU)))))
def Bq:FN:=fN 2 2 HQ
abbrev aaM:FE:=(gO (bW Er (aD (aX 0) aU)) (Ah (aV lW (aN 1) (aG (aP (.str (bI ""))))) (aV qK (aN 1) (aN 2))))
abbrev Mi:FS:=(bO (xj (aX 0) (oG 3 (cZ (bY 2) (cZ (bY 3) (cZ (bY 4) oE))))) (bO (gC (pO (gP (aV u5 (aN 2) (aN 1))) (jn (je (aG (bW uc (aD (aX 3) aU)))))) (di (aP (.bool aA))) gY) (bO (gC (jn (je (aG (bW su (aD (aX 4) (aD (aP (.int 2)) (aD (aP (.int 6)) aU))))))) (di (aP (.bool aA))) gY) (di (dY nq (dF (aG (gk (qR (aN 4)) (.many 2) cz aaM [1])) eG))))))
def HD:FN:=fN 2 5 Mi
abbrev abi:FE:=(eZ (aD (aX 0) (aD (aX 1) aU)))
abbrev SN:FE:=(bW HD (aD (aX 0) (aD (aX 1) aU)))
abbrev Ib:FS:=(bO (gC (jn (je (aG (bW su (aD (aX 0) (aD (aP (.int 3)) (aD (aP (.int 10)) aU))))))) (di (aP (.bool aA))) gY) (bO (gC (jn (je (aG (dY nq (dF (aG (gk (iB (aN 0)) .one cz SN [1])) eG))))) (di (aP (.bool aA))) gY) (di (bW wg (aD (gk (qR (aN 0)) (.many 3) cz abi []) aU)))))
def zH:FN:=fN 2 2 Ib
abbrev Tp:FE:=(aX 0)
abbrev Bt:FS:=(bO (gC (jn (je (aG (bW zB (aD (aX 0) (aD (aP (.int 4)) aU)))))) (di (aP (.bool aA))) gY) (bO (xj (aX 0) (oG 4 (cZ (bY 1) (cZ (bY 2) (cZ (bY 3) (cZ (bY 4) oE)))))) (bO (gC (jn (je (aG (bW H9 (aD (aX 1) aU))))) (di (aP (.bool aA))) gY) (bO (eN 5 (gk (qR (aN 1)) (.many 2) cz Tp [])) (di (gO (bW xR (aD (aX 2) (aD (aX 5) aU))) (gO (bW Bq (aD (aX 3) (aD (aX 5) aU))) (bW zH (aD (aX 4) (aD (aX 5) aU))))))))))
def um:FN:=fN 1 6 Bt
abbrev TY:FT:=(tH (gP (aV lW (aN 1) (aN 6))) (tH (gP (aV qK (aN 3) (aN 7))) (gP (xg lG lG (aN 4) (aN 8) (aN 5)))))
abbrev T3:FE:=(aX 2)
abbrev Vq:FS:=(bO (eN 4 (bW zF (aD (aX 0) (aD (aX 2) aU)))) (bO (eN 5 (gk (qR (aG (aV bQ (aN 0) (aG (aP (.int 1)))))) (.many 6) TY T3 [1,4,3])) (di (Ql (aN 5) (aG (aP (.int 0)))))))
def Es:FN:=fN 4 6 Vq
abbrev aaZ:FT:=(gP (aV Dc (aG (bW Es (aD (aX 1) (aD (aX 0) (aD (aX 2) (aD (aX 3) aU)))))) (aN 4)))
abbrev aa0:FE:=(aX 0)
abbrev Sh:FE:=(aV bQ (aN 0) (aG (aP (.int 1))))
abbrev T4:FS:=(bO (eN 4 (Kg (iB (aG (aV bQ (aN 0) (aG (aP (.int 1)))))) .one cz Sh [])) (di (gk (iB (aN 4)) .one aaZ aa0 [0,2,3,1])))
def Mq:FN:=fN 4 5 T4
abbrev XR:FS:=(bO (eN 2 (aP (.int 0))) (bO (gC (gP (aV wZ (aN 1) (aG (Ac 0)))) (eN 2 (JR 0 (aN 1))) gY) (di (dj (aD (aV pX (aG (dY Jz (dF (aN 2) eG))) (aG (dY Qj (dF (aG (aV Dc (aG (dY Jz (dF (aN 2) eG))) (aG (aV tG (aG (aP (.int 10))) (aG (aP (.int 18))))))) eG)))) (aD (aV cD (aG (aV cD (aG (aV uy (aN 2) (aG (aP (.int 2147483629))))) (aG (aV pX (aG (aP (.int 7919))) (aN 1))))) (aG (aP (.int 11)))) (aD (aP (.int 0)) aU)))))))
def PX:FN:=fN 2 3 XR
abbrev O5:FS:=(bO (gC (gP (aV JL (aG (vC 0 (aG (aP (.int 0))))) (aG (aP (.int 0))))) (bO (eN 2 (aV uy (aG (vC 0 (aG (aP (.int 0))))) (aN 1))) (bO (vB 0 (aG (aP (.int 0))) (aV FZ (aG (vC 0 (aG (aP (.int 0))))) (aN 1))) (CQ 2))) gY) (bO (vB 0 (aG (aP (.int 2))) (aV cD (aG (vC 0 (aG (aP (.int 2))))) (aG (aP (.int 1))))) (bO (eN 3 (aV uy (aG (aV tG (aG (aV cD (aG (vC 0 (aG (aP (.int 1))))) (aG (aV pX (aG (aP (.int 39373))) (aG (vC 0 (aG (aP (.int 2))))))))) (aG (aP (.int 5))))) (aG (aP (.int 2147483647))))) (di (aV uy (aG (aV FZ (aG (aV uy (aG (aV cD (aG (aV pX (aN 3) (aG (aV cD (aG (aV uy (aN 3) (aG (aP (.int 40009))))) (aG (aP (.int 7))))))) (aG (aV pX (aG (vC 0 (aG (aP (.int 2))))) (aG (aP (.int 7919))))))) (aG (aP (.int 2147483629))))) (aG (aP (.int 64))))) (aN 1))))))
def jl:FN:=fN 2 4 O5
abbrev abQ:FE:=(aV cD (aG (jO (aN 1) jQ (jN (aG (aP (.int 7)))))) (aN 0))
abbrev abR:FT:=(gP (aV u5 (aN 0) (aN 1)))
abbrev abS:FE:=(aX 0)
abbrev Ui:FE:=(aV bQ (aN 1) (aG (bW jl (aD (aX 2) (aD (aP (.int 26)) aU)))))
abbrev Mz:FS:=(bO (eN 5 (aV bQ (aG (dj (aD (aP (.int 1)) (aD (aP (.int 8)) (aD (aP (.int 2)) aU))))) (aG (bW jl (aD (aX 0) (aD (aP (.int 3)) aU)))))) (bO (eN 6 (Qm (aG (aP (.str (bI "")))) (aG (gk (oh (aN 5)) .one cz Ui [2,0])))) (bO (gC (tH (gP (aV lW (aG (bW jl (aD (aX 0) (aD (aP (.int 3)) aU)))) (aG (aP (.int 0))))) (gP (aV qJ (aN 3) (aG (dj aU))))) (eN 6 (aV cD (aG (jO (aG (aV bQ (aN 3) (aG (bW jl (aD (aX 0) (aD (dY mF (dF (aN 3) eG)) aU)))))) jQ (jN (aG (aP (.int 7)))))) (aG (aV bQ (aN 2) (aG (bW jl (aD (aX 0) (aD (aP (.int 26)) aU)))))))) gY) (xm 3 (aV bQ (aG (gk (iB (aG (aV cD (aG (dj (aD (aX 6) aU))) (aG (gk (iB (aN 2)) .one cz abQ [6]))))) .one abR abS [3])) (aG (aP (.int 0))))))))
abbrev Wk:FS:=(bO (eN 2 (aP (.str (bI "abcdefghijklmnopqrstuvwxyz")))) (bO (eN 3 (dj aU)) (bO (jX (oh (aN 1)) (bY 4) Mz) (CQ 3))))
def N8:FN:=fN 2 7 Wk
abbrev acp(Xd:FN):FE:=(bW Xd (aD (aX 0) (aD (aX 1) aU)))
abbrev Fy(Xd:FN):FS:=(bO (gC (gP (aV Ab (aN 1) (aG (aP .none)))) (di (aV Ab (aN 0) (aG (aP .none)))) gY) (bO (gC (je (aG (j9 "bool" (aN 1)))) (di (gO (j9 "bool" (aN 0)) (aV lW (aN 0) (aN 1)))) gY) (bO (gC (je (aG (CV "list" "tuple" (aN 1)))) (bO (gC (pO (gP (aV qJ (aG (j9 "list" (aN 0))) (aG (j9 "list" (aN 1))))) (gP (aV qJ (aG (j9 "tuple" (aN 0))) (aG (j9 "tuple" (aN 1)))))) (di (aP (.bool aA))) gY) (di (gO (aV lW (aG (dY mF (dF (aN 0) eG))) (aG (dY mF (dF (aN 1) eG)))) (dY nq (dF (aG (gk (GD (dF (aN 0) (dF (aN 1) eG))) (.many 2) cz (acp Xd) [])) eG))))) gY) (bO (gC (je (aG (j9 "str" (aN 1)))) (di (gO (j9 "str" (aN 0)) (aV lW (aN 0) (aN 1)))) gY) (di (gO (j9 "int" (aN 0)) (gO (CP (j9 "bool" (aN 0))) (aV lW (aN 0) (aN 1)))))))))
def sY:Nat->FN
 |0=>Yh
 |n+1=>fN 2 2 (Fy (sY n))
abbrev Uj:FE:=(aV cD (aN 0) (aG (eZ (aD (aV bQ (aN 1) (aN 0)) aU))))
abbrev Uk:FE:=(eZ (aD (aV cD (aG (aP (.int 1))) (aG (bW jl (aD (aX 1) (aD (aP (.int 9)) aU))))) (aD (aV bQ (aG (aV cD (aG (dj (aD (aP (.str (bI ""))) (aD (aP (.str (bI ""))) aU)))) (aN 2))) (aG (bW jl (aD (aX 1) (aD (aP (.int 10)) aU))))) aU)))
abbrev Ie:FS:=(bO (eN 15 (gk (oh (aG (aP (.int 6)))) .one cz Uk [0,3])) (vB 9 (aG (eZ (aD (aV bQ (aN 3) (aG (bW jl (aD (aX 0) (aD (aP (.int 3)) aU))))) (aD (aV yw (aG (aV tG (aG (aP (.int 10))) (aG (aP (.int 9))))) (aG (aV pX (aG (aP (.int 7))) (aN 5)))) aU)))) (dY rF (dF (aN 15) eG))))
abbrev Ig:FS:=(bO (rM [10,12] (nM (dY oO (dF (aG (dj (aD (bW jl (aD (aX 0) (aD (aP (.int 100000)) aU))) (aD (bW jl (aD (aX 0) (aD (aP (.int 100000)) aU))) aU)))) eG)) (nM (bW jl (aD (aX 0) (aD (aP (.int 9)) aU))) aU))) (bO (rM [13,14] (nM (eZ (aD (aV bQ (aN 1) (aN 12)) (aD (aV bQ (aN 1) (aG (aV uy (aG (aV cD (aG (aV cD (aN 12) (aG (aP (.int 1))))) (aG (bW jl (aD (aX 0) (aD (aP (.int 8)) aU)))))) (aG (aP (.int 9)))))) aU))) (nM (aV bQ (aN 3) (aG (bW jl (aD (aX 0) (aD (aP (.int 8)) aU))))) aU))) (xm 8 (aV cD (aG (aV cD (aG (eZ (aD (aV pX (aG (aP (.int 2))) (aN 5)) aU))) (aN 13))) (aG (eZ (aD (aX 14) (aD (aV bQ (aN 10) (aG (aP (.int 0)))) (aD (aV bQ (aN 10) (aG (aP (.int 1)))) (aD (aV yw (aG (aV tG (aG (aP (.int 10))) (aG (aP (.int 9))))) (aG (bW jl (aD (aX 0) (aD (aV tG (aG (aP (.int 10))) (aG (aP (.int 9)))) aU))))) aU))))))))))
abbrev Ih:FS:=(bO (eN 10 (dY oO (dF (aG (dj (aD (bW jl (aD (aX 0) (aD (aP (.int 100000)) aU))) (aD (aV bQ (aG (dj (aD (aP (.int 99999)) (aD (bW jl (aD (aX 0) (aD (aP (.int 100000)) aU))) aU)))) (aG (bW jl (aD (aX 0) (aD (aP (.int 2)) aU))))) aU)))) eG))) (bO (eN 11 (eZ (aD (aV bQ (aN 1) (aG (bW jl (aD (aX 0) (aD (aP (.int 9)) aU))))) (aD (aV cD (aG (aP (.int 1))) (aG (bW jl (aD (aX 0) (aD (aP (.int 9)) aU))))) (aD (aV bQ (aN 3) (aG (bW jl (aD (aX 0) (aD (aP (.int 8)) aU))))) aU))))) (xm 7 (aV cD (aG (aV cD (aG (eZ (aD (aV pX (aG (aP (.int 3))) (aN 5)) aU))) (aN 11))) (aG (eZ (aD (aV bQ (aN 10) (aG (aP (.int 0)))) (aD (aV bQ (aN 10) (aG (aP (.int 1)))) aU))))))))
abbrev abT:FE:=(eZ (aD (aV bQ (aN 1) (aN 0)) (aD (Dd (gP (aV lW (aN 0) (aG (aP (.int 0))))) (aP (.str (bI ""))) (aV bQ (aN 1) (aG (aV pX (aG (aV yw (aN 0) (aG (aP (.int 1))))) (aN 2))))) aU)))
abbrev MF:FS:=(Yj 3 4 (aG (bW jl (aD (aX 0) (aD (dY mF (dF (aN 4) eG)) aU)))))
abbrev Wl:FS:=(bO (rM [2,3,4] (nM (bW jl (aD (aX 0) (aD (aP (.int 2)) aU))) (nM (dj aU) (nM (dY Oz (dF (aG (jO (aN 1) jQ (jN (aG (aP (.int 8)))))) eG)) aU)))) (bO (jX (oh (aG (aP (.int 8)))) (bY 5) MF) (bO (eN 6 (gk (oh (aG (aP (.int 8)))) .one cz abT [3,2])) (bO (rM [7,8,9] (nM (dj aU) (nM (dj aU) (nM Cp aU)))) (bO (jX (oh (aG (aP (.int 20)))) (bY 5) Ih) (bO (jX (oh (aG (aP (.int 16)))) (bY 5) Ig) (bO (jX (oh (aG (aP (.int 10)))) (bY 5) Ie) (di (eZ (aD (aX 6) (aD (aX 7) (aD (aX 8) (aD (gk (iB (aG (dY oO (dF (aN 9) eG)))) .one cz Uj [9]) aU)))))))))))))
def Oa:FN:=fN 2 16 Wl
abbrev Wm:FS:=(di (eZ (aD (dY rF (dF (aG (dY oO (dF (aN 0) eG))) eG)) (aD (dY rF (dF (aN 1) eG)) (aD (dY rF (dF (aN 2) eG)) (aD (dY rF (dF (aG (dY O3 (dF (aN 3) eG))) eG)) aU))))))
def yc:FN:=fN 4 4 Wm
abbrev aax:FE:=(bW (sY 4) (aD (bW zF (aD (aX 1) (aD (aX 0) aU))) (aD (aV bQ (aN 2) (aN 0)) aU)))
abbrev aay:FT:=(gP (aV Dc (aG (aV bQ (aN 1) (aN 0))) (aN 2)))
abbrev aaz:FE:=(aX 0)
abbrev K9:FS:=(bO (eN 17 (dY oO (dF (aG (gk (Ko (aN 10)) .one aay aaz [10,13])) eG))) (gC (jn (je (aG (bW (sY 4) (aD (bW Mq (aD (aX 0) (aD (aX 13) (aD (aX 6) (aD (aX 9) aU))))) (aD (aX 17) aU)))))) (di (aP (.bool aA))) gY))
abbrev aaA:FE:=(bW (sY 4) (aD (bW Es (aD (aX 1) (aD (aX 0) (aD (aX 2) (aD (aX 3) aU))))) (aD (xq (aN 4) (aN 0) (aP (.int 0))) aU)))
abbrev zx:FS:=(gC (tH (gP (aV lG (aN 15) (aN 9))) (tH (gP (aV lG (aN 9) (aN 16))) (gP (aV qK (aN 14) (aG (aV bQ (aN 4) (aN 6))))))) (vB 10 (aN 12) (dY Gd (dF (aN 13) (dF (aG (xq (aN 10) (aN 12) (aP (.int 0)))) eG)))) gY)
abbrev La:FS:=(bO (eN 10 Cp) (bO (jX (G3 (aX 2)) (oG 6 (cZ (bY 11) (cZ (bY 12) (cZ (bY 13) (cZ (bY 14) (cZ (bY 15) (cZ (bY 16) oE))))))) zx) (bO (gC (jn (je (aG (dY nq (dF (aG (gk (iB (aN 3)) .one cz aaA [0,6,9,10])) eG))))) (di (aP (.bool aA))) gY) (jX (iV (eZ (aD (aP (.int 1)) (aD (aP (.int 5)) (aD (aP (.int 9)) aU))))) (bY 13) K9))))
abbrev Lb:FS:=(jX (iV (eZ (aD (aV bQ (aG (aV bQ (aN 1) (aG (aP (.int 0))))) (aG (aP (.int 0)))) (aD (aV bQ (aG (aV bQ (aN 1) (aG (aP (.int 4))))) (aG (aP (.int 0)))) (aD (aV bQ (aG (aV bQ (aN 1) (aG (aP (.int 7))))) (aG (aP (.int 0)))) aU))))) (bY 6) La)
abbrev Ld:FS:=(eN 5 (aV cD (aN 5) (aG (dj (aD (aV bQ (aN 8) (aG (aP (.int 4)))) (aD (aV bQ (aN 8) (aG (aP (.int 5)))) (aD (dY Gd (dF (aG (aP (.int 0))) (dF (aG (aV yw (aG (aV bQ (aN 8) (aG (aP (.int 4))))) (aG (aP (.int 1))))) eG))) aU)))))))
abbrev Le:FS:=(vB 4 (aN 6) (aV cD (aG (dj (aD (aX 6) aU))) (aG (xq (aN 4) (aN 7) (dj aU)))))
abbrev SQ:FS:=(bO (rM [4,5] (nM Cp (nM (dj (aD (aP (.int 0)) (aD (aP (.int 99999)) aU))) aU))) (bO (jX (G3 (aX 1)) (oG 2 (cZ (bY 6) (cZ (bY 7) oE))) Le) (bO (jX (iV (aV cD (aG (jO (aN 2) jQ (jN (aG (aP (.int 2)))))) (aG (jO (aN 2) (jN (aG (Qz (aG (aP (.int 1)))))) jQ)))) (bY 8) Ld) (bO (jX (iV (Qk (aN 5))) (bY 9) Lb) (di (dY nq (dF (aG (gk (Ko (aN 4)) .one cz aax [0,4])) eG)))))))
def LK:FN:=fN 4 18 SQ
abbrev aaB:FT:=(tH (gP (aV lW (aG (aV bQ (aN 0) (aG (aP (.int 0))))) (aN 1))) (gP (aV wZ (aG (aV bQ (aN 0) (aG (aP (.int 1))))) (aN 2))))
abbrev aaC:FE:=(aV bQ (aN 0) (aG (aP (.int 1))))
abbrev Rz:FE:=(eZ (aD (aX 0) (aD (Dd (gP (aV qJ (aN 1) (aG (aP (.str (bI "")))))) (aX 1) (aX 2)) aU)))
abbrev Hj:FS:=(bO (eN 6 (dY rF (dF (aG (gk (qR (aN 5)) (.many 2) cz Rz [3])) eG))) (bO (gC (jn (je (aG (bW (sY 4) (aD (dj (aD (bW Im (aD (aX 0) (aD (aX 3) (aD (aX 4) aU)))) aU)) (aD (dj (aD (aX 6) aU)) aU)))))) (di (aP (.bool aA))) gY) (bO (eN 7 (gk (iB (aN 2)) .one aaB aaC [3,4])) (gC (tH (gP (aV lW (aN 7) (aG (dj aU)))) (jn (je (aG (bW (sY 4) (aD (bW Im (aD (aX 0) (aD (aX 3) (aD (aV yw (aN 4) (aG (aP (.int 1)))) aU)))) (aD (eZ aU) aU))))))) (di (aP (.bool aA))) gY))))
abbrev SX:FS:=(bO (jX (G3 (aX 2)) (oG 3 (cZ (bY 3) (cZ (bY 4) (cZ (bY 5) oE)))) Hj) (di (aP (.bool aq))))
def LQ:FN:=fN 3 8 SX
abbrev Mr:FE:=(bW yc (aD (aV bQ (aN 0) (aG (aP (.int 0)))) (aD (aV bQ (aN 0) (aG (aP (.int 1)))) (aD (aV bQ (aN 0) (aG (aP (.int 2)))) (aD (aV bQ (aN 0) (aG (aP (.int 3)))) aU)))))
abbrev T5:FE:=(eZ (aD (aX 1) (aD (aX 0) (aD (eZ aU) aU))))
abbrev abF:FE:=(aV bQ (aN 0) (aG (aP (.int 0))))
abbrev T6:FT:=(gP (aV u5 (aG (aV Cw (aN 0) (aG (aP (.int 3))))) (aG (gk (iB (aN 1)) .one cz abF []))))
abbrev T7:FE:=(aV Cw (aN 0) (aG (aP (.int 3))))
abbrev Vr:FS:=(bO (rM [4,5] (nM (aV bQ (aG (aV bQ (aN 0) (aG (aP (.int 0))))) (aG (aP (.int 0)))) (nM (aV Cw (aG (aP (.str (bI "z")))) (aG (aP (.int 9)))) aU))) (bO (eN 6 (aV bQ (aG (gk (iB (aG (aP (.str (bI "abcdefghijk"))))) .one T6 T7 [0])) (aG (aP (.int 0))))) (bO (eN 7 (dj (aD (eZ (aD (aX 4) (aD (aP (.int 4)) (aD (aV XN (aG (eZ (aD (eZ (aD (aP (.int 1)) (aD (aP (.str (bI ""))) aU))) aU))) (aG (aP (.int 7)))) aU)))) aU))) (bO (eN 8 (dj (aD (eZ (aD (aV cD (aN 0) (aG (dj (aD (eZ (aD (aX 6) (aD (aX 4) aU))) aU)))) (aD (dj aU) (aD (dj aU) (aD (dj aU) aU))))) (aD (eZ (aD (aV cD (aG (jO (aN 0) jQ (jN (aG (aP (.int 7)))))) (aG (dj (aD (eZ (aD (aX 5) (aD (aP (.str (bI ""))) aU))) aU)))) (aD (dj aU) (aD (dj aU) (aD (dj aU) aU))))) aU)))) (bO (eN 8 (aV cD (aN 8) (aG (dj (aD (eZ (aD (aX 0) (aD (aV cD (aN 1) (aG (dj (aD (eZ (aD (aP (.int 60)) (aD (aP (.str (bI "ann"))) (aD (aP (.int 1)) (aD (aX 4) (aD (aP (.int 0)) (aD (aP (.int 1)) aU))))))) aU)))) (aD (dj aU) (aD (dj aU) aU))))) aU))))) (bO (eN 8 (aV cD (aN 8) (aG (dj (aD (eZ (aD (aX 0) (aD (aV cD (aG (jO (aN 1) jQ (jN (aG (aP (.int 19)))))) (aG (dj (aD (eZ (aD (aP (.int 60)) (aD (aX 5) (aD (aP (.int 1)) (aD (aX 4) (aD (aP (.int 0)) (aD (aP (.int 1)) aU))))))) aU)))) (aD (dj aU) (aD (dj aU) aU))))) aU))))) (bO (eN 8 (aV cD (aN 8) (aG (dj (aD (eZ (aD (aX 0) (aD (dj aU) (aD (aV cD (aN 2) (aG (dj (aD (eZ (aD (aP (.int 40)) (aD (aP (.str (bI "ann"))) (aD (aP (.str (bI "ben"))) (aD (aX 4) (aD (aP (.int 0)) (aD (aP (.int 1)) (aD (aP (.int 2)) aU)))))))) aU)))) (aD (dj aU) aU))))) aU))))) (bO (eN 8 (aV cD (aN 8) (aG (dj (aD (eZ (aD (aX 0) (aD (aX 1) (aD (aX 2) (aD (aV cD (aG (jO (aN 3) (jN (aG (aP (.int 1)))) jQ)) (aN 7)) aU))))) aU))))) (bO (eN 8 (aV cD (aN 8) (aG (dj (aD (eZ (aD (aX 0) (aD (dj aU) (aD (aV cD (aG (jO (aN 2) jQ (jN (aG (aP (.int 15)))))) (aG (dj (aD (eZ (aD (aP (.int 40)) (aD (aP (.str (bI "ann"))) (aD (aX 5) (aD (aX 4) (aD (aP (.int 0)) (aD (aP (.int 1)) (aD (aP (.int 2)) aU)))))))) aU)))) (aD (dj aU) aU))))) aU))))) (bO (eN 9 (aV cD (aG (gk (oh (aG (aV yw (aG (aP (.int 10))) (aG (dY mF (dF (aN 3) eG)))))) .one cz T5 [4])) (aG (dj (aD (eZ (aD (aX 4) (aD (aP (.int 77)) (aD (eZ aU) aU)))) aU))))) (di (gk (iB (aG (aV cD (aN 8) (aG (dj (aD (eZ (aD (aX 0) (aD (aX 1) (aD (aX 2) (aD (aV cD (aN 3) (aN 9)) aU))))) aU)))))) .one cz Mr []))))))))))))
def Np:FN:=fN 4 10 Vr
abbrev acq:FE:=(bW yc (aD (aV bQ (aN 0) (aG (aP (.int 0)))) (aD (aV bQ (aN 0) (aG (aP (.int 1)))) (aD (aV bQ (aN 0) (aG (aP (.int 2)))) (aD (aV bQ (aN 0) (aG (aP (.int 3)))) aU)))))
abbrev Xe:FS:=(bO (rM [5,6,7] (nM (bW jl (aD (aX 0) (aD (aP (.int 20)) aU))) (nM (bW jl (aD (aX 0) (aD (aP (.int 16)) aU))) (nM (bW jl (aD (aX 0) (aD (dY mF (dF (aN 4) eG)) aU))) aU)))) (bO (xj (aV bQ (aN 4) (aN 7)) (oG 3 (cZ (bY 8) (cZ (bY 9) (cZ (bY 10) oE))))) (bO (eN 11 (dj (aD (eZ (aD (aX 1) (aD (aV cD (aG (jO (aN 2) jQ (jN (aN 5)))) (aG (jO (aN 2) (jN (aG (aV cD (aN 5) (aG (aP (.int 1)))))) jQ))) (aD (aX 3) (aD (aX 4) aU))))) (aD (eZ (aD (aX 1) (aD (aX 2) (aD (aV cD (aG (jO (aN 3) jQ (jN (aN 6)))) (aG (jO (aN 3) (jN (aG (aV cD (aN 6) (aG (aP (.int 1)))))) jQ))) (aD (aX 4) aU))))) aU)))) (bO (eN 11 (aV cD (aN 11) (aG (dj (aD (eZ (aD (aX 1) (aD (aX 2) (aD (aX 3) (aD (aV cD (aG (jO (aN 4) jQ (jN (aN 7)))) (aG (jO (aN 4) (jN (aG (aV cD (aN 7) (aG (aP (.int 1)))))) jQ))) aU))))) (aD (eZ (aD (aX 1) (aD (dj aU) (aD (dj aU) (aD (dj aU) aU))))) (aD (eZ (aD (jO (aN 1) jQ (jN (aG (aP (.int 1))))) (aD (dj aU) (aD (dj aU) (aD (dj aU) aU))))) aU))))))) (bO (eN 11 (aV cD (aN 11) (aG (dj (aD (eZ (aD (aX 1) (aD (aX 2) (aD (aX 3) (aD (aV cD (aG (aV cD (aG (jO (aN 4) jQ (jN (aN 7)))) (aG (dj (aD (eZ (aD (aX 8) (aD (aX 9) (aD (jO (aN 10) jQ (jN (aG (bW jl (aD (aX 0) (aD (aP (.int 6)) aU)))))) aU)))) aU))))) (aG (jO (aN 4) (jN (aG (aV cD (aN 7) (aG (aP (.int 1)))))) jQ))) aU))))) aU))))) (di (gk (iB (aN 11)) .one cz acq [])))))))
def O6:FN:=fN 5 12 Xe
abbrev Wn:FE:=(aV Gq (aG (bW um (aD (aX 0) aU))) (aG (aP (.bool aq))))
abbrev Wo:FE:=(aV Gq (aG (bW um (aD (aX 0) aU))) (aG (aP (.bool aA))))
abbrev Oc:FS:=(bO (JP 2 (bW PX (aD (aX 0) (aD (aX 1) aU)))) (bO (eN 3 (bW N8 (aD (aX 2) (aD (aP (.int 9)) aU)))) (bO (xj (bW Oa (aD (aX 2) (aD (aX 3) aU))) (oG 4 (cZ (bY 4) (cZ (bY 5) (cZ (bY 6) (cZ (bY 7) oE)))))) (bO (eN 8 (bW yc (aD (aX 4) (aD (aX 5) (aD (aX 6) (aD (aX 7) aU)))))) (bO (eN 9 (dY Ge (dF (aN 8) eG))) (bO (gC (pO (gP (aV PJ (aG (bW um (aD (aX 8) aU))) (aG (aP (.bool aq))))) (jn (je (aG (bW LK (aD (aX 8) (aD (aX 4) (aD (aX 5) (aD (aX 3) aU))))))))) (di (aP (.bool aA))) gY) (bO (gC (pO (jn (je (aG (bW LQ (aD (aX 8) (aD (aX 4) (aD (aX 7) aU))))))) (gP (aV qJ (aG (dY Ge (dF (aN 8) eG))) (aN 9)))) (di (aP (.bool aA))) gY) (bO (gC (jn (je (aG (dY nq (dF (aG (gk (iB (aG (bW Np (aD (aX 4) (aD (aX 5) (aD (aX 6) (aD (aX 7) aU))))))) .one cz Wo [])) eG))))) (di (aP (.bool aA))) gY) (gC (jn (je (aG (dY nq (dF (aG (gk (iB (aG (bW O6 (aD (aX 2) (aD (aX 4) (aD (aX 5) (aD (aX 6) (aD (aX 7) aU)))))))) .one cz Wn [])) eG))))) (di (aP (.bool aA))) gY)))))))))
abbrev Ym:FS:=(bO (jX (oh (aG (aV cD (aG (aP (.int 1))) (aG (dY Pu (dF (aG (aP (.int 3))) (dF (aG (Ac 0)) eG))))))) (bY 1) Oc) (di (aP (.bool aq))))
def Gu:FN:=fN 1 10 Ym
theorem ajZ(F:gr K "parts_over" "parts_over" Mp f fd)(T:Txt K mg iM iR iT iQ iU iW iY iZ):fX P w K mg base gb 1 f fd zam (spT K zF):=
 jz (body:=TV) F Mg λcdv A outer s H E hr=>(bT (an2 (i:=2) (T:=(.many 2)) (NT:=zba) (NF:=([]:List Str)) (js:=[]) (gB.ok (N0:=zal) (fO:=cC Mp) bL rfl rfl) (⟨_,_,_,rfl,(.cons ⟨_,rfl⟩ (.cons ⟨_,rfl⟩ .nil)),rfl⟩) rfl hr.mL (uC (aR (dX hr (aO 0) bN))) (λb=>⟨ju,(bf 0),(bf 1)⟩) (by rfl) Mg.nd rfl rfl) (bT (jc 3 Mg.nd (dN bh)) (bT (anZ qm (jH (Ck hr.mL) CN (aO 1) (aO 2) (by with_unfolding_all rfl)) (bT (Pk (pv 3) (bf 1)) (lR (jc 1 Mg.nd (dX hr (aO 2) (aO 1)))))) (lR (Oq (pv 3))))))
theorem aky(F:gr K "rules_for" "rules_for" Mw f fd)(T:Txt K mg iM iR iT iQ iU iW iY iZ)(xO:dz P w K mg base "parts_over" 1 zam (spT K zF)):fX P w K mg base gb 2 f fd zam (spT K My):=
 jz (body:=Mx) F TQ λcdv A outer s H E hr=>(bT (qC qm rfl (JQ (cB xO hr (aF (bf 0) (aF (bf 1) bh)))) (dG 2 TQ.nd) eY (bT (BK (i:=3) (T:=(.many 3)) (NT:=(["where","bound","seats"]:List Str)) (NF:=zbb) (js:=[2]) (gB.ok (N0:=zat) (fO:=cC Mw) bL rfl rfl) (⟨_,_,_,rfl,(.cons ⟨_,rfl⟩ (.cons ⟨_,rfl⟩ (.cons ⟨_,rfl⟩ .nil))),rfl⟩) rfl (uC (aR (dX hr (aO 0) bN))) (λb=>⟨(zU (jH (pW hr.units) pY (aO 0) (aO 3) (iD _))),(fL (aF (bf 1) (aF (bf 2) bh)))⟩) (by rfl) TQ.nd rfl rfl) (lR (jh (jx (aO 3)) (lR (Oq (pv 3))) jg)))) (dH (dN bh)))
theorem akZ(F:gr K "seats_of" "seats_of" Il f fd)(T:Txt K mg iM iR iT iQ iU iW iY iZ)(Ul:dz P w K mg base "rules_for" 2 zam (spT K My)):fX P w K mg base gb 3 f fd zas (spT K Im):=
 jz (body:=M4) F Mv λcdv A outer s H E hr=>(bT (BK (i:=3) (T:=(.many 2)) (NT:=(["bound","seats"]:List Str)) (NF:=(["amount"]:List Str)) (js:=[2]) (gB.ok (N0:=zar) (fO:=cC Il) bL rfl rfl) (⟨_,_,_,rfl,(.cons ⟨_,rfl⟩ (.cons ⟨_,rfl⟩ .nil)),rfl⟩) rfl (uC (aR (cB Ul hr (aF (bf 0) (aF (bf 1) bh))))) (λb=>⟨(zU (jH uw uz (aO 0) (aO 2) (iD _))),(fL (aF (bf 0) (aF (bf 1) bh)))⟩) (by rfl) Mv.nd rfl rfl) (bT (jh (jJ (jx (aO 3))) (dH (fL bh)) jg) (bT (Cq (iH (ajD rfl hr.mL) apV T.Gs (dZ (aO 3) fB)) (rH rfl (fH (dG 4 Mv.nd) (fH (dG 5 Mv.nd) rC))) (wM (gW eY (gW eY wG)))) (dH (xZ Bm BL rfl T.rG bL (dZ (aR (jF (T:=(.many 2)) (NT:=zbc) (NF:=(["part"]:List Str)) (js:=[1]) (gB.ok (N0:=zar) (fO:=cC Il) bL rfl rfl) (⟨_,_,_,rfl,(.cons ⟨_,rfl⟩ (.cons ⟨_,rfl⟩ .nil)),rfl⟩) rfl (uC (aO 5)) (λb=>⟨ju,(fL (aF (bf 0) (aF (Ye (jH (pW hr.units) pY (aO 1) (aR (dB nH)) (iD _)) (bf 2) (bf 1)) bh)))⟩))) fB))))))
theorem alJ(F:gr K "is_name" "is_name" Nj f fd)(T:Txt K mg iM iR iT iQ iU iW iY iZ):fX P w K mg base gb 1 f fd zaa (spT K uo):=
 jz (body:=Nm) F alH λcdv A outer s H E hr=>(bT (jh (PW.pt (uA (jJ (jx (aR (qF bA (aO 0) (pF (v:=.ty "str") rfl T.JH bL rfl) rfl T.oN bL)))) (wL (jJ (afE uw uz uw uz bN (aR (iH wz wO T.rJ (dZ (aO 0) fB))) (aR (dB (zP (v:=toV (.int 8)) rfl T.ajG ⟨_,rfl⟩)))))))) (dH (dB jE)) jg) (dH (iH (qw rfl) qD T.pJ (dZ (aR (jF (T:=.one) (NT:=(["sign"]:List Str)) (NF:=([]:List Str)) (js:=[]) (gB.ok (N0:=zaa) (fO:=cC Nj) bL rfl rfl) (⟨_,⟨_,rfl⟩,rfl⟩) rfl (mR (aO 0)) (λb=>⟨ju,(afD uw uz uw uz (aR (dB nH)) (aO 0) (aR (dB nH)))⟩))) fB))))
theorem akz(F:gr K "is_number" "is_number" Ue f fd)(T:Txt K mg iM iR iT iQ iU iW iY iZ):fX P w K mg base gb 1 f fd zaa (spT K Eg):=
 jz (body:=Ug) F akp λcdv A outer s H E hr=>(dH (oU (qF bA (aO 0) (pF (v:=.ty "int") rfl T.JG bL rfl) rfl T.oN bL) (pH (afF (qF bA (aO 0) (pF (v:=.ty "bool") rfl T.Gg bL rfl) rfl T.oN bL)))))
theorem ajH(F:gr K "is_tuple_of" "is_tuple_of" Ti f fd)(T:Txt K mg iM iR iT iQ iU iW iY iZ):fX P w K mg base gb 1 f fd zah (spT K zB):=
 jz (body:=Tn) F ajE λcdv A outer s H E hr=>(dH (oU (qF bA (aO 0) (pF (v:=.ty "tuple") rfl T.rG bL rfl) rfl T.oN bL) (pH (oR (pW hr.units) pY (aR (iH wz wO T.rJ (dZ (aO 0) fB))) (aO 1) (iD _)))))
theorem ajj(F:gr K "are_tuples_of" "are_tuples_of" Lp f fd)(T:Txt K mg iM iR iT iQ iU iW iY iZ)(DY:dz P w K mg base "is_tuple_of" 1 zah (spT K zB)):fX P w K mg base gb 2 f fd zai (spT K su):=
 jz (body:=Lq) F aji λcdv A outer s H E hr=>(bT (jh (PW.pt (uA (jJ (jx (aR (qF bA (aO 0) (pF (v:=.ty "tuple") rfl T.rG bL rfl) rfl T.oN bL)))) (wL (jH af6 agg (aR (iH wz wO T.rJ (dZ (aO 0) fB))) (aO 2) (iD _))))) (dH (dB jE)) jg) (dH (iH (qw rfl) qD T.pJ (dZ (aR (jF (T:=.one) (NT:=zbd) (NF:=(["many"]:List Str)) (js:=[1]) (gB.ok (N0:=zai) (fO:=cC Lp) bL rfl rfl) (⟨_,⟨_,rfl⟩,rfl⟩) rfl (mR (aO 0)) (λb=>⟨ju,(cB DY hr (aF (bf 0) (aF (bf 1) bh)))⟩))) fB))))
theorem akA(F:gr K "is_rising" "is_rising" Mu f fd)(T:Txt K mg iM iR iT iQ iU iW iY iZ):fX P w K mg base gb 1 f fd zaj (spT K wg):=
 jz (body:=Uh) F aks λcdv A outer s H E hr=>(dH (iH (qw rfl) qD T.pJ (dZ (aR (jF (T:=(.many 2)) (NT:=(["low","high"]:List Str)) (NF:=([]:List Str)) (js:=[]) (gB.ok (N0:=zaj) (fO:=cC Mu) bL rfl rfl) (⟨_,_,_,rfl,(.cons ⟨_,rfl⟩ (.cons ⟨_,rfl⟩ .nil)),rfl⟩) rfl (ae3 rfl T.Qq (dZ (aO 0) (dZ (aR (nQ (aO 0) (nP bN) nO)) fB))) (λb=>⟨ju,(oR (Uw hr.Xm) Yd (aO 0) (aO 1) (iD _))⟩))) fB)))
theorem aiV(F:gr K "is_from_nought" "is_from_nought" RL f fd)(T:Txt K mg iM iR iT iQ iU iW iY iZ)(Eh:dz P w K mg base "is_number" 1 zaa (spT K Eg)):fX P w K mg base gb 2 f fd zaa (spT K uc):=
 jz (body:=RM) F aiU λcdv A outer s H E hr=>(dH (oU (cB Eh hr (aF (bf 0) bh)) (pH (oR Qa Qg (aO 0) bN (iD _)))))
theorem alK(F:gr K "is_rank" "is_rank" Vo f fd)(T:Txt K mg iM iR iT iQ iU iW iY iZ)(Eh:dz P w K mg base "is_number" 1 zaa (spT K Eg)):fX P w K mg base gb 2 f fd zaa (spT K Er):=
 jz (body:=Vp) F alI λcdv A outer s H E hr=>(dH (oU (cB Eh hr (aF (bf 0) bh)) (pH (afD uw uz uw uz (aR (dB (zP (v:=toV (.int 1)) rfl T.ajX ⟨_,rfl⟩))) (aO 0) (aR (dB (zP (v:=toV (.int 9)) rfl T.ajF ⟨_,rfl⟩)))))))
theorem ak0(F:gr K "are_days" "are_days" UW f fd)(T:Txt K mg iM iR iT iQ iU iW iY iZ)(qY:dz P w K mg base "is_from_nought" 2 zaa (spT K uc)):fX P w K mg base gb 3 f fd zak (spT K El):=
 jz (body:=U3) F akY λcdv A outer s H E hr=>(dH (oU (cB qY hr (aF (bf 0) bh)) (oU (cB qY hr (aF (bf 1) bh)) (pH (oR uw uz (aO 0) (aO 1) (iD _))))))
theorem aiz(F:gr K "comes_to_an_end" "comes_to_an_end" Rx f fd)(T:Txt K mg iM iR iT iQ iU iW iY iZ):fX P w K mg base gb 1 f fd zad (spT K K8):=
 jz (body:=Ry) F Rp λcdv A outer s H E hr=>(bT (qC qm rfl (uW rfl T.sX (aR (iH wz wO T.rJ (dZ (aO 0) fB)))) (dG 2 Rp.nd) eY (bT (jc 1 Rp.nd (dX hr (aO 0) (aO 1))) (lR (jh (jH (pW hr.units) pY (aO 1) (aR (dB nH)) (iD _)) (dH (dB jE)) jg)))) (dH (dB jE)))
theorem akB(F:gr K "are_parts" "are_parts" zG f fd)(T:Txt K mg iM iR iT iQ iU iW iY iZ)(wA:dz P w K mg base "is_name" 1 zaa (spT K uo))(qp:dz P w K mg base "are_tuples_of" 2 zai (spT K su))(ud:dz P w K mg base "is_rising" 1 zaj (spT K wg))(RB:dz P w K mg base "comes_to_an_end" 1 zad (spT K K8)):fX P w K mg base gb 3 f fd zaa (spT K H9):=
 jz (body:=HY) F TJ λcdv A outer s H E hr=>(bT (jh (jJ (jx (aR (cB qp hr (aF (bf 0) (aF dI (aF (dB (zP (v:=toV (.int 8)) rfl T.akt ⟨_,rfl⟩)) bh))))))) (dH (dB jE)) jg) (bT (jc 1 TJ.nd (jF (T:=(.many 2)) (NT:=zba) (NF:=([]:List Str)) (js:=[]) (gB.ok (N0:=zac) (fO:=cC zG) bL rfl rfl) (⟨_,_,_,rfl,(.cons ⟨_,rfl⟩ (.cons ⟨_,rfl⟩ .nil)),rfl⟩) rfl (uC (aO 0)) (λb=>⟨ju,(bf 0)⟩))) (bT (jh (PW.pt (uA (jJ (jx (aR (iH (qw rfl) qD T.pJ (dZ (aR (jF (T:=.one) (NT:=zbb) (NF:=([]:List Str)) (js:=[]) (gB.ok (N0:=zac) (fO:=cC zG) bL rfl rfl) (⟨_,⟨_,rfl⟩,rfl⟩) rfl (mR (aO 1)) (λb=>⟨ju,(cB wA hr (aF (bf 0) bh))⟩))) fB))))) (wL (jJ (jx (aR (cB ud hr (aF (bf 1) bh)))))))) (dH (dB jE)) jg) (bT (jh (jJ (jx (aR (iH (qw rfl) qD T.pJ (dZ (aR (jF (T:=(.many 2)) (NT:=zba) (NF:=zbe) (js:=[1]) (gB.ok (N0:=zac) (fO:=cC zG) bL rfl rfl) (⟨_,_,_,rfl,(.cons ⟨_,rfl⟩ (.cons ⟨_,rfl⟩ .nil)),rfl⟩) rfl (uC (aO 0)) (λb=>⟨ju,(agi (oR (pW hr.units) pY (aO 1) (aR (dB nH)) (iD _)) (pH (oR (Ck hr.mL) CN (aO 1) (aO 2) (by with_unfolding_all rfl))))⟩))) fB))))) (dH (dB jE)) jg) (bT (jc 2 TJ.nd (asf (T:=(.many 2)) (NT:=zba) (NF:=([]:List Str)) (js:=[]) (gB.ok (N0:=zac) (fO:=cC zG) bL rfl rfl) (⟨_,_,_,rfl,(.cons ⟨_,rfl⟩ (.cons ⟨_,rfl⟩ .nil)),rfl⟩) rfl hr.mL (uC (aO 0)) (λb=>⟨ju,(bf 0),(bf 1)⟩))) (dH (iH (qw rfl) qD T.pJ (dZ (aR (jF (T:=.one) (NT:=zbb) (NF:=(["outer"]:List Str)) (js:=[2]) (gB.ok (N0:=zac) (fO:=cC zG) bL rfl rfl) (⟨_,⟨_,rfl⟩,rfl⟩) rfl (mR (aO 1)) (λb=>⟨ju,(cB RB hr (aF (bf 1) (aF (bf 0) bh)))⟩))) fB))))))))
theorem ajI(F:gr K "is_rank_row" "is_rank_row" Th f fd)(T:Txt K mg iM iR iT iQ iU iW iY iZ)(wA:dz P w K mg base "is_name" 1 zaa (spT K uo))(qY:dz P w K mg base "is_from_nought" 2 zaa (spT K uc))(Et:dz P w K mg base "is_rank" 2 zaa (spT K Er))(Em:dz P w K mg base "are_days" 3 zak (spT K El)):fX P w K mg base gb 4 f fd zaf (spT K HB):=
 jz (body:=Mh) F Be λcdv A outer s H E hr=>(bT (Cq (bf 0) (rH rfl (fH (dG 2 Be.nd) (fH (dG 3 Be.nd) (fH (dG 4 Be.nd) (fH (dG 5 Be.nd) (fH (dG 6 Be.nd) (fH (dG 7 Be.nd) rC))))))) (wM (gW eY (gW eY (gW eY (gW eY (gW eY (gW eY wG)))))))) (bT (jh (PW.pt (uA (jJ (jx (aR (cB qY hr (aF (bf 2) bh))))) (uA (jJ (jx (aR (cB wA hr (aF (bf 3) bh))))) (wL (jJ (jx (aR (cB Et hr (aF (bf 4) bh))))))))) (dH (dB jE)) jg) (dH (oU (oR (Ck hr.mL) CN (aO 5) (aO 1) (by with_unfolding_all rfl)) (pH (cB Em hr (aF (bf 6) (aF (bf 7) bh))))))))
theorem akC(F:gr K "are_ranks" "are_ranks" HW f fd)(T:Txt K mg iM iR iT iQ iU iW iY iZ)(qp:dz P w K mg base "are_tuples_of" 2 zai (spT K su))(ud:dz P w K mg base "is_rising" 1 zaj (spT K wg))(Tq:dz P w K mg base "is_rank_row" 4 zaf (spT K HB)):fX P w K mg base gb 5 f fd zae (spT K xR):=
 jz (body:=Ia) F akq λcdv A outer s H E hr=>(bT (jh (jJ (jx (aR (cB qp hr (aF (bf 0) (aF dI (aF (dB (zP (v:=toV (.int 20)) rfl T.aku ⟨_,rfl⟩)) bh))))))) (dH (dB jE)) jg) (dH (oU (iH (qw rfl) qD T.pJ (dZ (aR (jF (T:=.one) (NT:=zbd) (NF:=zbe) (js:=[1]) (gB.ok (N0:=zae) (fO:=cC HW) bL rfl rfl) (⟨_,⟨_,rfl⟩,rfl⟩) rfl (mR (aO 0)) (λb=>⟨ju,(cB Tq hr (aF (bf 0) (aF (bf 1) bh)))⟩))) fB)) (pH (cB ud hr (aF (jF (T:=.one) (NT:=zbd) (NF:=([]:List Str)) (js:=[]) (gB.ok (N0:=zae) (fO:=cC HW) bL rfl rfl) (⟨_,⟨_,rfl⟩,rfl⟩) rfl (mR (aO 0)) (λb=>⟨ju,(dX hr (aO 0) bN)⟩)) bh))))))
theorem ajr(F:gr K "is_leave_row" "is_leave_row" Sx f fd)(T:Txt K mg iM iR iT iQ iU iW iY iZ)(wA:dz P w K mg base "is_name" 1 zaa (spT K uo))(qY:dz P w K mg base "is_from_nought" 2 zaa (spT K uc))(Em:dz P w K mg base "are_days" 3 zak (spT K El)):fX P w K mg base gb 4 f fd zaf (spT K Ht):=
 jz (body:=LC) F zy λcdv A outer s H E hr=>(bT (Cq (bf 0) (rH rfl (fH (dG 2 zy.nd) (fH (dG 3 zy.nd) (fH (dG 4 zy.nd) (fH (dG 5 zy.nd) (fH (dG 6 zy.nd) (fH (dG 7 zy.nd) (fH (dG 8 zy.nd) rC)))))))) (wM (gW eY (gW eY (gW eY (gW eY (gW eY (gW eY (gW eY wG))))))))) (bT (jh (PW.pt (uA (jJ (jx (aR (cB qY hr (aF (bf 2) bh))))) (wL (jJ (jx (aR (cB qY hr (aF (bf 8) bh)))))))) (dH (dB jE)) jg) (bT (jh (PW.pt (uA (jJ (jx (aR (cB wA hr (aF (bf 3) bh))))) (uA (jJ (jx (aR (cB wA hr (aF (bf 4) bh))))) (wL (jH (pW hr.units) pY (aO 3) (aO 4) (iD _)))))) (dH (dB jE)) jg) (dH (oU (oR (Ck hr.mL) CN (aO 5) (aO 1) (by with_unfolding_all rfl)) (pH (cB Em hr (aF (bf 6) (aF (bf 7) bh)))))))))
theorem aj0(F:gr K "are_leaves" "are_leaves" HJ f fd)(T:Txt K mg iM iR iT iQ iU iW iY iZ)(qp:dz P w K mg base "are_tuples_of" 2 zai (spT K su))(ud:dz P w K mg base "is_rising" 1 zaj (spT K wg))(S7:dz P w K mg base "is_leave_row" 4 zaf (spT K Ht)):fX P w K mg base gb 5 f fd zae (spT K Bq):=
 jz (body:=HQ) F ajW λcdv A outer s H E hr=>(bT (jh (jJ (jx (aR (cB qp hr (aF (bf 0) (aF dI (aF (dB (zP (v:=toV (.int 16)) rfl T.ajY ⟨_,rfl⟩)) bh))))))) (dH (dB jE)) jg) (dH (oU (iH (qw rfl) qD T.pJ (dZ (aR (jF (T:=.one) (NT:=zbd) (NF:=zbe) (js:=[1]) (gB.ok (N0:=zae) (fO:=cC HJ) bL rfl rfl) (⟨_,⟨_,rfl⟩,rfl⟩) rfl (mR (aO 0)) (λb=>⟨ju,(cB S7 hr (aF (bf 0) (aF (bf 1) bh)))⟩))) fB)) (pH (cB ud hr (aF (jF (T:=.one) (NT:=zbd) (NF:=([]:List Str)) (js:=[]) (gB.ok (N0:=zae) (fO:=cC HJ) bL rfl rfl) (⟨_,⟨_,rfl⟩,rfl⟩) rfl (mR (aO 0)) (λb=>⟨ju,(dX hr (aO 0) bN)⟩)) bh))))))
theorem ajJ(F:gr K "is_rule_row" "is_rule_row" Mf f fd)(T:Txt K mg iM iR iT iQ iU iW iY iZ)(qp:dz P w K mg base "are_tuples_of" 2 zai (spT K su))(qY:dz P w K mg base "is_from_nought" 2 zaa (spT K uc))(Et:dz P w K mg base "is_rank" 2 zaa (spT K Er)):fX P w K mg base gb 3 f fd zaf (spT K HD):=
 jz (body:=Mi) F Lw λcdv A outer s H E hr=>(bT (Cq (bf 0) (rH rfl (fH (dG 2 Lw.nd) (fH (dG 3 Lw.nd) (fH (dG 4 Lw.nd) rC)))) (wM (gW eY (gW eY (gW eY wG))))) (bT (jh (PW.pt (uA (jH (Vh hr.mL) VM (aO 2) (aO 1) (by with_unfolding_all rfl)) (wL (jJ (jx (aR (cB qY hr (aF (bf 3) bh)))))))) (dH (dB jE)) jg) (bT (jh (jJ (jx (aR (cB qp hr (aF (bf 4) (aF dI (aF (dB (zP (v:=toV (.int 6)) rfl T.akx ⟨_,rfl⟩)) bh))))))) (dH (dB jE)) jg) (dH (iH (qw rfl) qD T.pJ (dZ (aR (jF (T:=(.many 2)) (NT:=zbc) (NF:=zbe) (js:=[1]) (gB.ok (N0:=zag) (fO:=cC Mf) bL rfl rfl) (⟨_,_,_,rfl,(.cons ⟨_,rfl⟩ (.cons ⟨_,rfl⟩ .nil)),rfl⟩) rfl (uC (aO 4)) (λb=>⟨ju,(oU (cB Et hr (aF (bf 0) bh)) (pH (agi (oR (pW hr.units) pY (aO 1) (aR (dB nH)) (iD _)) (pH (oR (Ck hr.mL) CN (aO 1) (aO 2) (by with_unfolding_all rfl))))))⟩))) fB))))))
theorem akD(F:gr K "are_rules" "are_rules" HX f fd)(T:Txt K mg iM iR iT iQ iU iW iY iZ)(qp:dz P w K mg base "are_tuples_of" 2 zai (spT K su))(ud:dz P w K mg base "is_rising" 1 zaj (spT K wg))(Tr:dz P w K mg base "is_rule_row" 3 zaf (spT K HD)):fX P w K mg base gb 4 f fd zae (spT K zH):=
 jz (body:=Ib) F akr λcdv A outer s H E hr=>(bT (jh (jJ (jx (aR (cB qp hr (aF (bf 0) (aF dI (aF (dB (zP (v:=toV (.int 10)) rfl T.akv ⟨_,rfl⟩)) bh))))))) (dH (dB jE)) jg) (bT (jh (jJ (jx (aR (iH (qw rfl) qD T.pJ (dZ (aR (jF (T:=.one) (NT:=zbd) (NF:=zbe) (js:=[1]) (gB.ok (N0:=zae) (fO:=cC HX) bL rfl rfl) (⟨_,⟨_,rfl⟩,rfl⟩) rfl (mR (aO 0)) (λb=>⟨ju,(cB Tr hr (aF (bf 0) (aF (bf 1) bh)))⟩))) fB))))) (dH (dB jE)) jg) (dH (cB ud hr (aF (jF (T:=(.many 3)) (NT:=(["part","bound","seats"]:List Str)) (NF:=([]:List Str)) (js:=[]) (gB.ok (N0:=zae) (fO:=cC HX) bL rfl rfl) (⟨_,_,_,rfl,(.cons ⟨_,rfl⟩ (.cons ⟨_,rfl⟩ (.cons ⟨_,rfl⟩ .nil))),rfl⟩) rfl (uC (aO 0)) (λb=>⟨ju,(fL (aF (bf 0) (aF (bf 1) bh)))⟩)) bh)))))
theorem ak1(F:gr K "is_house" "is_house" M3 f fd)(T:Txt K mg iM iR iT iQ iU iW iY iZ)(DY:dz P w K mg base "is_tuple_of" 1 zah (spT K zB))(Um:dz P w K mg base "are_parts" 3 zaa (spT K H9))(Uo:dz P w K mg base "are_ranks" 5 zae (spT K xR))(T8:dz P w K mg base "are_leaves" 5 zae (spT K Bq))(Uq:dz P w K mg base "are_rules" 4 zae (spT K zH)):fX P w K mg base gb 6 f fd zaa (spT K um):=
 jz (body:=Bt) F Ef λcdv A outer s H E hr=>(bT (jh (jJ (jx (aR (cB DY hr (aF (bf 0) (aF dI bh)))))) (dH (dB jE)) jg) (bT (Cq (bf 0) (rH rfl (fH (dG 1 Ef.nd) (fH (dG 2 Ef.nd) (fH (dG 3 Ef.nd) (fH (dG 4 Ef.nd) rC))))) (wM (gW eY (gW eY (gW eY (gW eY wG)))))) (bT (jh (jJ (jx (aR (cB Um hr (aF (bf 1) bh))))) (dH (dB jE)) jg) (bT (BK (i:=5) (T:=(.many 2)) (NT:=zba) (NF:=([]:List Str)) (js:=[]) (gB.ok (N0:=zab) (fO:=cC M3) bL rfl rfl) (⟨_,_,_,rfl,(.cons ⟨_,rfl⟩ (.cons ⟨_,rfl⟩ .nil)),rfl⟩) rfl (uC (aO 1)) (λb=>⟨ju,(bf 0)⟩) (by rfl) Ef.nd rfl rfl) (dH (oU (cB Uo hr (aF (bf 2) (aF (bf 5) bh))) (oU (cB T8 hr (aF (bf 3) (aF (bf 5) bh))) (pH (cB Uq hr (aF (bf 4) (aF (bf 5) bh)))))))))))
theorem alL(F:gr K "rank_of" "rank_of" Nk f fd)(T:Txt K mg iM iR iT iQ iU iW iY iZ)(xO:dz P w K mg base "parts_over" 1 zam (spT K zF)):fX P w K mg base gb 2 f fd zao (spT K Es):=
 jz (body:=Vq) F U0 λcdv A outer s H E hr=>(bT (jc 4 U0.nd (cB xO hr (aF (bf 0) (aF (bf 2) bh)))) (bT (BK (i:=5) (T:=(.many 6)) (NT:=(["number","who","rank","where","first","last"]:List Str)) (NF:=(["person","over","day"]:List Str)) (js:=[1,4,3]) (gB.ok (N0:=zan) (fO:=cC Nk) bL rfl rfl) (⟨_,_,_,rfl,(.cons ⟨_,rfl⟩ (.cons ⟨_,rfl⟩ (.cons ⟨_,rfl⟩ (.cons ⟨_,rfl⟩ (.cons ⟨_,rfl⟩ (.cons ⟨_,rfl⟩ .nil)))))),rfl⟩) rfl (uC (aR (dX hr (aO 0) bN))) (λb=>⟨(zU (PW.pt (Cm (jH (pW hr.units) pY (aO 1) (aO 6) (iD _)) (Cm (jH (Ck hr.mL) CN (aO 3) (aO 7) (by with_unfolding_all rfl)) (Jg (afE uw uz uw uz (aO 4) (aO 8) (aO 5))))))),(bf 2)⟩) (by rfl) U0.nd rfl rfl) (dH (apr rfl (aO 5) bN rfl T.Gs))))
theorem aj1(F:gr K "holders_of" "holders_of" HN f fd)(T:Txt K mg iM iR iT iQ iU iW iY iZ)(Eu:dz P w K mg base "rank_of" 2 zao (spT K Es)):fX P w K mg base gb 3 f fd zaq (spT K Mq):=
 jz (body:=T4) F abq λcdv A outer s H E hr=>(bT (jc 4 abq.nd (asi (T:=.one) (NT:=zbd) (NF:=([]:List Str)) (js:=[]) (gB.ok (N0:=zap) (fO:=cC HN) bL rfl rfl) (⟨_,⟨_,rfl⟩,rfl⟩) rfl rfl T.wD (mR (aR (dX hr (aO 0) bN))) (λb=>⟨ju,(dX hr (aO 0) bN)⟩))) (dH (jF (T:=.one) (NT:=(["person"]:List Str)) (NF:=(["house","part","day","rank"]:List Str)) (js:=[0,2,3,1]) (gB.ok (N0:=zap) (fO:=cC HN) bL rfl rfl) (⟨_,⟨_,rfl⟩,rfl⟩) rfl (mR (aO 4)) (λb=>⟨(zU (jH Qa Qg (aR (cB Eu hr (aF (bf 1) (aF (bf 0) (aF (bf 2) (aF (bf 3) bh)))))) (aO 4) (iD _))),(bf 0)⟩))))
theorem ap2(F:gr K "_law_box" "_law_box" XQ f fd)(T:Txt K mg iM iR iT iQ iU iW iY iZ):fX P w K mg base gb 1 f fd zau (spT K PX):=
 jz (body:=XR) F Xb λcdv A outer s H E hr=>(bT (jc 2 Xb.nd dI) (bT (jh (jH (Uw hr.Xm) Yd (aO 1) (aR (aeQ (pv 0) rfl T.rJ bL)) (iD _)) (lR (jc 2 Xb.nd (aq6 (pv 0) (aO 1) (λ_ _=>rfl)))) jg) (dH (dN (aF (jw yh yp (aR (iH adg afK T.Qp (dZ (aO 2) fB))) (aR (xZ al8 aq7 rfl T.JG bL (dZ (aR (oR Qa Qg (aR (iH adg afK T.Qp (dZ (aO 2) fB))) (aR (jw Jo Js bN bN)) (iD _))) fB)))) (aF (fM (aR (fM (aR (jw Ca Cj (aO 2) bN)) (aR (jw yh yp bN (aO 1))))) bN) (aF dI bh)))))))
theorem aoj(F:gr K "_law_take" "_law_take" Xc f fd)(T:Txt K mg iM iR iT iQ iU iW iY iZ):fX P w K mg base gb 1 f fd zav (spT K jl):=
 jz (body:=O5) F Wi λcdv A outer s H E hr=>(bT (jh (jH af6 agg (aR (Cu (pv 0) bN (λ_ _=>rfl))) bN (iD _)) (bT (jc 2 Wi.nd (jw Ca Cj (aR (Cu (pv 0) bN (λ_ _=>rfl))) (aO 1))) (bT (Ju hr.mL (pv 0) bN (jw aem aeG (aR (Cu (pv 0) bN (λ_ _=>rfl))) (aO 1))) (lR (Oq (pv 2))))) jg) (bT (Ju hr.mL (pv 0) bN (fM (aR (Cu (pv 0) bN (λ_ _=>rfl))) bN)) (bT (jc 3 Wi.nd (jw Ca Cj (aR (jw Jo Js (aR (fM (aR (Cu (pv 0) bN (λ_ _=>rfl))) (aR (jw yh yp bN (aR (Cu (pv 0) bN (λ_ _=>rfl))))))) bN)) bN)) (dH (jw Ca Cj (aR (jw aem aeG (aR (jw Ca Cj (aR (fM (aR (jw yh yp (aO 3) (aR (fM (aR (jw Ca Cj (aO 3) bN)) bN)))) (aR (jw yh yp (aR (Cu (pv 0) bN (λ_ _=>rfl))) bN)))) bN)) bN)) (aO 1))))))
theorem amR(F:gr K "_law_names" "_law_names" EY f fd)(T:Txt K mg iM iR iT iQ iU iW iY iZ)(jD:dz P w K mg base "_law_take" 1 zav (spT K jl)):fX P w K mg base gb 2 f fd zav (spT K N8):=
 jz (body:=Wk) F Bx λcdv A outer s H E hr=>(bT (jc 2 Bx.nd (dB nH)) (bT (jc 3 Bx.nd (dN bh)) (bT (qC qm rfl (uW rfl T.sX (aO 1)) (dG 4 Bx.nd) eY (bT (jc 5 Bx.nd (dX hr (aR (dN (aF dI (aF dI (aF dI bh))))) (aR (cB jD hr (aF (bf 0) (aF dI bh)))))) (bT (jc 6 Bx.nd (apu (aR (dB nH)) (aR (jF (T:=.one) (NT:=(["_law_j"]:List Str)) (NF:=(["_law_letters","_law_box_here"]:List Str)) (js:=[2,0]) (gB.ok (N0:=zaw) (fO:=cC EY) bL rfl rfl) (⟨_,⟨_,rfl⟩,rfl⟩) rfl (uW rfl T.sX (aO 5)) (λb=>⟨ju,(dX hr (aO 1) (aR (cB jD hr (aF (bf 2) (aF dI bh)))))⟩))))) (bT (jh (PW.pt (Cm (jH (pW hr.units) pY (aR (cB jD hr (aF (bf 0) (aF dI bh)))) bN (iD _)) (Jg (jH (Jt hr.units) Jv (aO 3) (aR (dN bh)) (iD _))))) (lR (jc 6 Bx.nd (fM (aR (nQ (aR (dX hr (aO 3) (aR (cB jD hr (aF (bf 0) (aF (iH wz wO T.rJ (dZ (aO 3) fB)) bh)))))) nO (nP bN))) (aR (dX hr (aO 2) (aR (cB jD hr (aF (bf 0) (aF dI bh))))))))) jg) (lR (Pk (pv 3) (dX hr (aR (jF (T:=.one) (NT:=zbf) (NF:=(["_law_found"]:List Str)) (js:=[3]) (gB.ok (N0:=zaw) (fO:=cC EY) bL rfl rfl) (⟨_,⟨_,rfl⟩,rfl⟩) rfl (mR (aR (fM (aR (dN (aF (bf 6) bh))) (aR (jF (T:=.one) (NT:=zbf) (NF:=(["_law_name"]:List Str)) (js:=[6]) (gB.ok (N0:=zaw) (fO:=cC EY) bL rfl rfl) (⟨_,⟨_,rfl⟩,rfl⟩) rfl (mR (aO 2)) (λb=>⟨ju,(fM (aR (nQ (aO 1) nO (nP bN))) (aO 0))⟩)))))) (λb=>⟨(zU (jH (Vh hr.mL) VM (aO 0) (aO 1) (by with_unfolding_all rfl))),(bf 0)⟩))) bN))))))) (lR (Oq (pv 3))))))
theorem aok(n:Nat)(F:gr K "_law_same" "_law_same" Ji f fd)(T:Txt K mg iM iR iT iQ iU iW iY iZ)(vd:dz P w K mg base "_law_same" n zax (spT K (sY n))):fX P w K mg base gb (n+1) f fd zax (spT K (sY (n+1))):=
 jz (body:=Fy (sY n)) F aoi λcdv A outer s H E hr=>(bT (jh (jH afj afC (aO 1) (aR (dB afe)) (iD _)) (dH (oR afj afC (aO 0) (aR (dB afe)) (iD _))) jg) (bT (jh (jx (aR (qF bA (aO 1) (pF (v:=.ty "bool") rfl T.Gg bL rfl) rfl T.oN bL))) (dH (oU (qF bA (aO 0) (pF (v:=.ty "bool") rfl T.Gg bL rfl) rfl T.oN bL) (pH (oR (pW hr.units) pY (aO 0) (aO 1) (iD _))))) jg) (bT (jh (jx (aR (apo bA bA (aO 1) (pF (v:=.ty "list") rfl T.Gh bL rfl) (pF (v:=.ty "tuple") rfl T.rG bL rfl) rfl T.oN bL))) (bT (jh (PW.pt (uA (jH (Jt hr.units) Jv (aR (qF bA (aO 0) (pF (v:=.ty "list") rfl T.Gh bL rfl) rfl T.oN bL)) (aR (qF bA (aO 1) (pF (v:=.ty "list") rfl T.Gh bL rfl) rfl T.oN bL)) (iD _)) (wL (jH (Jt hr.units) Jv (aR (qF bA (aO 0) (pF (v:=.ty "tuple") rfl T.rG bL rfl) rfl T.oN bL)) (aR (qF bA (aO 1) (pF (v:=.ty "tuple") rfl T.rG bL rfl) rfl T.oN bL)) (iD _))))) (dH (dB jE)) jg) (dH (oU (oR (pW hr.units) pY (aR (iH wz wO T.rJ (dZ (aO 0) fB))) (aR (iH wz wO T.rJ (dZ (aO 1) fB))) (iD _)) (pH (iH (qw rfl) qD T.pJ (dZ (aR (jF (T:=(.many 2)) (NT:=(["_law_one","_law_other"]:List Str)) (NF:=([]:List Str)) (js:=[]) (gB.ok (N0:=zax) (fO:=cC Ji) bL rfl rfl) (⟨_,_,_,rfl,(.cons ⟨_,rfl⟩ (.cons ⟨_,rfl⟩ .nil)),rfl⟩) rfl (ae3 rfl T.Qq (dZ (aO 0) (dZ (aO 1) fB))) (λb=>⟨ju,(agj vd hr rfl (aF (bf 0) (aF (bf 1) bh)))⟩))) fB)))))) jg) (bT (jh (jx (aR (qF bA (aO 1) (pF (v:=.ty "str") rfl T.JH bL rfl) rfl T.oN bL))) (dH (oU (qF bA (aO 0) (pF (v:=.ty "str") rfl T.JH bL rfl) rfl T.oN bL) (pH (oR (pW hr.units) pY (aO 0) (aO 1) (iD _))))) jg) (dH (oU (qF bA (aO 0) (pF (v:=.ty "int") rfl T.JG bL rfl) rfl T.oN bL) (oU (afF (qF bA (aO 0) (pF (v:=.ty "bool") rfl T.Gg bL rfl) rfl T.oN bL)) (pH (oR (pW hr.units) pY (aO 0) (aO 1) (iD _))))))))))
theorem ac5(hm:mg "_law_same"=aa (.ref f))(hk:Bc K (.ref f)=aq)(hb:Binds K fd zax [])(F:gr K "_law_same" "_law_same" Ji f fd)(T:Txt K mg iM iR iT iQ iU iW iY iZ):
  ∀n,dz P w K mg base "_law_same" n zax (spT K (sY n))
 |0=>⟨f,fd,hm,hk,hb,apv⟩
 |n+1=>⟨f,fd,hm,hk,hb,aok n F T (ac5 hm hk hb F T n)⟩
theorem amS(F:gr K "_law_great" "_law_great" Fb f fd)(T:Txt K mg iM iR iT iQ iU iW iY iZ)(jD:dz P w K mg base "_law_take" 1 zav (spT K jl)):fX P w K mg base gb 3 f fd zaz (spT K Oa):=
 jz (body:=Wl) F pB λcdv A outer s H E hr=>(bT (Ou (is:=[2,3,4]) (pG (cB jD hr (aF (bf 0) (aF dI bh))) (pG (dN bh) (pG (xZ (alz rfl) an3 rfl T.Gh bL (dZ (aR (nQ (aO 1) nO (nP bN))) fB)) Cr))) (rH rfl (fH (dG 2 pB.nd) (fH (dG 3 pB.nd) (fH (dG 4 pB.nd) rC))))) (bT (qC qm rfl (uW rfl T.sX bN) (dG 5 pB.nd) eY (lR (apM (pv 3) (pv 4) (aR (cB jD hr (aF (bf 0) (aF (iH wz wO T.rJ (dZ (aO 4) fB)) bh))))))) (bT (BK (i:=6) (T:=.one) (NT:=(["_law_k"]:List Str)) (NF:=(["_law_order","_law_row"]:List Str)) (js:=[3,2]) (gB.ok (N0:=zay) (fO:=cC Fb) bL rfl rfl) (⟨_,⟨_,rfl⟩,rfl⟩) rfl (uW rfl T.sX bN) (λb=>⟨ju,(fL (aF (dX hr (aO 1) (aO 0)) (aF (Ye (jH (pW hr.units) pY (aO 0) bN (iD _)) (dB nH) (dX hr (aO 1) (aR (jw yh yp (aR (jw FP FW (aO 0) bN)) (aO 2))))) bh)))⟩) (by rfl) pB.nd rfl rfl) (bT (Ou (is:=[7,8,9]) (pG (dN bh) (pG (dN bh) (pG VP Cr))) (rH rfl (fH (dG 7 pB.nd) (fH (dG 8 pB.nd) (fH (dG 9 pB.nd) rC))))) (bT (qC qm rfl (uW rfl T.sX bN) (dG 5 pB.nd) eY (bT (jc 10 pB.nd (iH (Ek rfl) Ez T.wD (dZ (aR (dN (aF (cB jD hr (aF (bf 0) (aF dI bh))) (aF (dX hr (aR (dN (aF dI (aF (cB jD hr (aF (bf 0) (aF dI bh))) bh)))) (aR (cB jD hr (aF (bf 0) (aF dI bh))))) bh)))) fB))) (bT (jc 11 pB.nd (fL (aF (dX hr (aO 1) (aR (cB jD hr (aF (bf 0) (aF dI bh))))) (aF (fM bN (aR (cB jD hr (aF (bf 0) (aF dI bh))))) (aF (dX hr (aO 3) (aR (cB jD hr (aF (bf 0) (aF dI bh))))) bh))))) (lR (Pk (pv 7) (fM (aR (fM (aR (fL (aF (jw yh yp bN (aO 5)) bh))) (aO 11))) (aR (fL (aF (dX hr (aO 10) bN) (aF (dX hr (aO 10) bN) bh)))))))))) (bT (qC qm rfl (uW rfl T.sX bN) (dG 5 pB.nd) eY (bT (afH (i:=10) (j:=12) rfl pB.nd rfl rfl bA rfl rfl (pG (iH (Ek rfl) Ez T.wD (dZ (aR (dN (aF (cB jD hr (aF (bf 0) (aF dI bh))) (aF (cB jD hr (aF (bf 0) (aF dI bh))) bh)))) fB)) (pG (cB jD hr (aF (bf 0) (aF dI bh))) Cr)) rfl) (bT (afH (i:=13) (j:=14) rfl pB.nd rfl rfl bA rfl rfl (pG (fL (aF (dX hr (aO 1) (aO 12)) (aF (dX hr (aO 1) (aR (jw Ca Cj (aR (fM (aR (fM (aO 12) bN)) (aR (cB jD hr (aF (bf 0) (aF dI bh)))))) bN))) bh))) (pG (dX hr (aO 3) (aR (cB jD hr (aF (bf 0) (aF dI bh))))) Cr)) rfl) (lR (Pk (pv 8) (fM (aR (fM (aR (fL (aF (jw yh yp bN (aO 5)) bh))) (aO 13))) (aR (fL (aF (bf 14) (aF (dX hr (aO 10) bN) (aF (dX hr (aO 10) bN) (aF (jw FP FW (aR (jw Jo Js bN bN)) (aR (cB jD hr (aF (bf 0) (aF (jw Jo Js bN bN) bh))))) bh)))))))))))) (bT (qC qm rfl (uW rfl T.sX bN) (dG 5 pB.nd) eY (bT (BK (i:=15) (T:=.one) (NT:=(["_law_j"]:List Str)) (NF:=(["_law_box_here","_law_order"]:List Str)) (js:=[0,3]) (gB.ok (N0:=zay) (fO:=cC Fb) bL rfl rfl) (⟨_,⟨_,rfl⟩,rfl⟩) rfl (uW rfl T.sX bN) (λb=>⟨ju,(fL (aF (fM bN (aR (cB jD hr (aF (bf 1) (aF dI bh))))) (aF (dX hr (aR (fM (aR (dN (aF (dB nH) (aF (dB nH) bh)))) (aO 2))) (aR (cB jD hr (aF (bf 1) (aF dI bh))))) bh)))⟩) (by rfl) pB.nd rfl rfl) (lR (Ju hr.mL (pv 9) (aR (fL (aF (dX hr (aO 3) (aR (cB jD hr (aF (bf 0) (aF dI bh))))) (aF (jw FP FW (aR (jw Jo Js bN bN)) (aR (jw yh yp bN (aO 5)))) bh)))) (xZ Bm BL rfl T.rG bL (dZ (aO 15) fB)))))) (dH (fL (aF (bf 6) (aF (bf 7) (aF (bf 8) (aF (jF (T:=.one) (NT:=(["_law_key"]:List Str)) (NF:=(["_law_rules"]:List Str)) (js:=[9]) (gB.ok (N0:=zay) (fO:=cC Fb) bL rfl rfl) (⟨_,⟨_,rfl⟩,rfl⟩) rfl (mR (aR (iH (Ek rfl) Ez T.wD (dZ (aO 9) fB)))) (λb=>⟨ju,(fM (aO 0) (aR (fL (aF (dX hr (aO 1) (aO 0)) bh))))⟩)) bh)))))))))))))
theorem amT(F:gr K "_law_house" "_law_house" Wj f fd)(T:Txt K mg iM iR iT iQ iU iW iY iZ):fX P w K mg base gb 1 f fd za0 (spT K yc):=
 jz (body:=Wm) F amQ λcdv A outer s H E hr=>(dH (fL (aF (xZ Bm BL rfl T.rG bL (dZ (aR (iH (Ek rfl) Ez T.wD (dZ (aO 0) fB))) fB)) (aF (xZ Bm BL rfl T.rG bL (dZ (aO 1) fB)) (aF (xZ Bm BL rfl T.rG bL (dZ (aO 2) fB)) (aF (xZ Bm BL rfl T.rG bL (dZ (aR (iH (alG rfl) aoh T.wD (dZ (aO 3) fB))) fB)) bh))))))
theorem ajs(F:gr K "_law_ranks_right" "_law_ranks_right" DX f fd)(T:Txt K mg iM iR iT iQ iU iW iY iZ)(xO:dz P w K mg base "parts_over" 1 zam (spT K zF))(Eu:dz P w K mg base "rank_of" 2 zao (spT K Es))(T9:dz P w K mg base "holders_of" 3 zaq (spT K Mq))(vd:dz P w K mg base "_law_same" 4 zax (spT K (sY 4))):fX P w K mg base gb 5 f fd za2 (spT K LK):=
 jz (body:=SQ) F oM λcdv A outer s H E hr=>(bT (Ou (is:=[4,5]) (pG VP (pG (dN (aF dI (aF dI bh))) Cr)) (rH rfl (fH (dG 4 oM.nd) (fH (dG 5 oM.nd) rC)))) (bT (qC qm rfl (Yg (bf 1)) (rH rfl (fH (dG 6 oM.nd) (fH (dG 7 oM.nd) rC))) (wM (gW eY (gW eY wG))) (lR (Ju hr.mL (pv 4) (aO 6) (fM (aR (dN (aF (bf 6) bh))) (aR (Xx hr.mL (aO 4) (aO 7) (dN bh) ⟨rfl,rfl,rfl,rfl⟩)))))) (bT (qC qm rfl (JQ (fM (aR (nQ (aO 2) nO (nP bN))) (aR (nQ (aO 2) (nP (aR (aq0 bN))) nO)))) (dG 8 oM.nd) eY (lR (jc 5 oM.nd (fM (aO 5) (aR (dN (aF (dX hr (aO 8) bN) (aF (dX hr (aO 8) bN) (aF (iH (acz rfl) aeR T.Gs (dZ bN (dZ (aR (jw FP FW (aR (dX hr (aO 8) bN)) bN)) fB))) bh))))))))) (bT (qC qm rfl (JQ (apq rfl (aO 5) rfl T.wD rfl T.Yl)) (dG 9 oM.nd) eY (lR (qC qm rfl (JQ (fL (aF (dX hr (aR (dX hr (aO 1) bN)) bN) (aF (dX hr (aR (dX hr (aO 1) bN)) bN) (aF (dX hr (aR (dX hr (aO 1) bN)) bN) bh))))) (dG 6 oM.nd) eY (bT (jc 10 oM.nd VP) (bT (qC qm rfl (Yg (bf 2)) (rH rfl (fH (dG 11 oM.nd) (fH (dG 12 oM.nd) (fH (dG 13 oM.nd) (fH (dG 14 oM.nd) (fH (dG 15 oM.nd) (fH (dG 16 oM.nd) rC))))))) (wM (gW eY (gW eY (gW eY (gW eY (gW eY (gW eY wG))))))) (lR (jh (PW.pt (Cm (jH uw uz (aO 15) (aO 9) (iD _)) (Cm (jH uw uz (aO 9) (aO 16) (iD _)) (Jg (jH (Ck hr.mL) CN (aO 14) (aR (dX hr (aO 4) (aO 6))) (by with_unfolding_all rfl)))))) (lR (Ju hr.mL (pv 10) (aO 12) (iH (acz rfl) aeR T.Gs (dZ (aO 13) (dZ (aR (Xx hr.mL (aO 10) (aO 12) dI ⟨rfl,rfl,rfl,rfl⟩)) fB))))) jg))) (bT (jh (jJ (jx (aR (iH (qw rfl) qD T.pJ (dZ (aR (jF (T:=.one) (NT:=zbg) (NF:=(["_law_house_here","_law_part","_law_day","_law_due"]:List Str)) (js:=[0,6,9,10]) (gB.ok (N0:=za1) (fO:=cC DX) bL rfl rfl) (⟨_,⟨_,rfl⟩,rfl⟩) rfl (mR (aO 3)) (λb=>⟨ju,(cB vd hr (aF (cB Eu hr (aF (bf 1) (aF (bf 0) (aF (bf 2) (aF (bf 3) bh))))) (aF (Xx hr.mL (aO 4) (aO 0) dI ⟨rfl,rfl,rfl,rfl⟩) bh)))⟩))) fB))))) (dH (dB jE)) jg) (lR (qC qm rfl (JQ (fL (aF dI (aF dI (aF dI bh))))) (dG 13 oM.nd) eY (bT (jc 17 oM.nd (iH (Ek rfl) Ez T.wD (dZ (aR (jF (T:=.one) (NT:=zbg) (NF:=(["_law_due","_law_rank"]:List Str)) (js:=[10,13]) (gB.ok (N0:=za1) (fO:=cC DX) bL rfl rfl) (⟨_,⟨_,rfl⟩,rfl⟩) rfl (agr (aO 10)) (λb=>⟨(zU (jH Qa Qg (aR (dX hr (aO 1) (aO 0))) (aO 2) (iD _))),(bf 0)⟩))) fB))) (lR (jh (jJ (jx (aR (cB vd hr (aF (cB T9 hr (aF (bf 0) (aF (bf 13) (aF (bf 6) (aF (bf 9) bh))))) (aF (bf 17) bh)))))) (dH (dB jE)) jg))))))))))) (dH (iH (qw rfl) qD T.pJ (dZ (aR (jF (T:=.one) (NT:=zbh) (NF:=(["_law_house_here","_law_over"]:List Str)) (js:=[0,4]) (gB.ok (N0:=za1) (fO:=cC DX) bL rfl rfl) (⟨_,⟨_,rfl⟩,rfl⟩) rfl (agr (aO 4)) (λb=>⟨ju,(cB vd hr (aF (cB xO hr (aF (bf 1) (aF (bf 0) bh))) (aF (dX hr (aO 2) (aO 0)) bh)))⟩))) fB)))))))
theorem ajt(F:gr K "_law_seats_right" "_law_seats_right" Hs f fd)(T:Txt K mg iM iR iT iQ iU iW iY iZ)(M5:dz P w K mg base "seats_of" 3 zas (spT K Im))(vd:dz P w K mg base "_law_same" 4 zax (spT K (sY 4))):fX P w K mg base gb 5 f fd za4 (spT K LQ):=
 jz (body:=SX) F DQ λcdv A outer s H E hr=>(bT (qC qm rfl (Yg (bf 2)) (rH rfl (fH (dG 3 DQ.nd) (fH (dG 4 DQ.nd) (fH (dG 5 DQ.nd) rC)))) (wM (gW eY (gW eY (gW eY wG)))) (bT (jc 6 DQ.nd (xZ Bm BL rfl T.rG bL (dZ (aR (jF (T:=(.many 2)) (NT:=(["_law_rank","_law_where"]:List Str)) (NF:=zbh) (js:=[3]) (gB.ok (N0:=za3) (fO:=cC Hs) bL rfl rfl) (⟨_,_,_,rfl,(.cons ⟨_,rfl⟩ (.cons ⟨_,rfl⟩ .nil)),rfl⟩) rfl (uC (aO 5)) (λb=>⟨ju,(fL (aF (bf 0) (aF (Ye (jH (Jt hr.units) Jv (aO 1) (aR (dB nH)) (iD _)) (bf 1) (bf 2)) bh)))⟩))) fB))) (bT (jh (jJ (jx (aR (cB vd hr (aF (dN (aF (cB M5 hr (aF (bf 0) (aF (bf 3) (aF (bf 4) bh)))) bh)) (aF (dN (aF (bf 6) bh)) bh)))))) (dH (dB jE)) jg) (bT (BK (i:=7) (T:=.one) (NT:=(["_law_row"]:List Str)) (NF:=(["_law_part","_law_total"]:List Str)) (js:=[3,4]) (gB.ok (N0:=za3) (fO:=cC Hs) bL rfl rfl) (⟨_,⟨_,rfl⟩,rfl⟩) rfl (mR (aO 2)) (λb=>⟨(zU (PW.pt (Cm (jH (pW hr.units) pY (aR (dX hr (aO 0) bN)) (aO 1) (iD _)) (Jg (jH (Uw hr.Xm) Yd (aR (dX hr (aO 0) bN)) (aO 2) (iD _)))))),(dX hr (aO 0) bN)⟩) (by rfl) DQ.nd rfl rfl) (lR (jh (PW.pt (Cm (jH (pW hr.units) pY (aO 7) (aR (dN bh)) (iD _)) (Jg (jJ (jx (aR (cB vd hr (aF (cB M5 hr (aF (bf 0) (aF (bf 3) (aF (jw FP FW (aO 4) bN) bh)))) (aF (fL bh) bh))))))))) (dH (dB jE)) jg)))))) (dH (dB jE)))
theorem alM(F:gr K "_law_beyond" "_law_beyond" By f fd)(T:Txt K mg iM iR iT iQ iU iW iY iZ)(ye:dz P w K mg base "_law_house" 1 za0 (spT K yc)):fX P w K mg base gb 2 f fd za0 (spT K Np):=
 jz (body:=Vr) F uh λcdv A outer s H E hr=>(bT (Ou (is:=[4,5]) (pG (dX hr (aR (dX hr (aO 0) bN)) bN) (pG (jw Uu Xa (aR (dB nH)) bN) Cr)) (rH rfl (fH (dG 4 uh.nd) (fH (dG 5 uh.nd) rC)))) (bT (jc 6 uh.nd (dX hr (aR (jF (T:=.one) (NT:=(["_law_letter"]:List Str)) (NF:=(["_law_parts"]:List Str)) (js:=[0]) (gB.ok (N0:=za5) (fO:=cC By) bL rfl rfl) (⟨_,⟨_,rfl⟩,rfl⟩) rfl (mR (aR (dB nH))) (λb=>⟨(zU (jH (Vh hr.mL) VM (aR (jw Uu Xa (aO 0) bN)) (aR (jF (T:=.one) (NT:=(["_law_row"]:List Str)) (NF:=([]:List Str)) (js:=[]) (gB.ok (N0:=(["_law_letter","_law_parts"]:List Str)) (fO:=anx _ (cC By)) bL rfl rfl) (⟨_,⟨_,rfl⟩,rfl⟩) rfl (mR (aO 1)) (λb=>⟨ju,(dX hr (aO 0) bN)⟩))) (by with_unfolding_all rfl))),(jw Uu Xa (aO 0) bN)⟩))) bN)) (bT (jc 7 uh.nd (dN (aF (fL (aF (bf 4) (aF dI (aF (jw ap0 ap1 (aR (fL (aF (fL (aF dI (aF (dB nH) bh))) bh))) bN) bh)))) bh))) (bT (jc 8 uh.nd (dN (aF (fL (aF (fM (aO 0) (aR (dN (aF (fL (aF (bf 6) (aF (bf 4) bh))) bh)))) (aF (dN bh) (aF (dN bh) (aF (dN bh) bh))))) (aF (fL (aF (fM (aR (nQ (aO 0) nO (nP bN))) (aR (dN (aF (fL (aF (bf 5) (aF (dB nH) bh))) bh)))) (aF (dN bh) (aF (dN bh) (aF (dN bh) bh))))) bh)))) (bT (jc 8 uh.nd (fM (aO 8) (aR (dN (aF (fL (aF (bf 0) (aF (fM (aO 1) (aR (dN (aF (fL (aF dI (aF (dB nH) (aF dI (aF (bf 4) (aF dI (aF dI bh))))))) bh)))) (aF (dN bh) (aF (dN bh) bh))))) bh))))) (bT (jc 8 uh.nd (fM (aO 8) (aR (dN (aF (fL (aF (bf 0) (aF (fM (aR (nQ (aO 1) nO (nP bN))) (aR (dN (aF (fL (aF dI (aF (bf 5) (aF dI (aF (bf 4) (aF dI (aF dI bh))))))) bh)))) (aF (dN bh) (aF (dN bh) bh))))) bh))))) (bT (jc 8 uh.nd (fM (aO 8) (aR (dN (aF (fL (aF (bf 0) (aF (dN bh) (aF (fM (aO 2) (aR (dN (aF (fL (aF dI (aF (dB nH) (aF (dB nH) (aF (bf 4) (aF dI (aF dI (aF dI bh)))))))) bh)))) (aF (dN bh) bh))))) bh))))) (bT (jc 8 uh.nd (fM (aO 8) (aR (dN (aF (fL (aF (bf 0) (aF (bf 1) (aF (bf 2) (aF (fM (aR (nQ (aO 3) (nP bN) nO)) (aO 7)) bh))))) bh))))) (bT (jc 8 uh.nd (fM (aO 8) (aR (dN (aF (fL (aF (bf 0) (aF (dN bh) (aF (fM (aR (nQ (aO 2) nO (nP bN))) (aR (dN (aF (fL (aF dI (aF (dB nH) (aF (bf 5) (aF (bf 4) (aF dI (aF dI (aF dI bh)))))))) bh)))) (aF (dN bh) bh))))) bh))))) (bT (jc 9 uh.nd (fM (aR (jF (T:=.one) (NT:=(["_law_k"]:List Str)) (NF:=zbh) (js:=[4]) (gB.ok (N0:=za5) (fO:=cC By) bL rfl rfl) (⟨_,⟨_,rfl⟩,rfl⟩) rfl (uW rfl T.sX (aR (jw FP FW bN (aR (iH wz wO T.rJ (dZ (aO 3) fB)))))) (λb=>⟨ju,(fL (aF (bf 1) (aF (bf 0) (aF (fL bh) bh))))⟩))) (aR (dN (aF (fL (aF (bf 4) (aF dI (aF (fL bh) bh)))) bh))))) (dH (jF (T:=.one) (NT:=zbf) (NF:=([]:List Str)) (js:=[]) (gB.ok (N0:=za5) (fO:=cC By) bL rfl rfl) (⟨_,⟨_,rfl⟩,rfl⟩) rfl (mR (aR (fM (aO 8) (aR (dN (aF (fL (aF (bf 0) (aF (bf 1) (aF (bf 2) (aF (fM (aO 3) (aO 9)) bh))))) bh)))))) (λb=>⟨ju,(cB ye hr (aF (dX hr (aO 0) bN) (aF (dX hr (aO 0) bN) (aF (dX hr (aO 0) bN) (aF (dX hr (aO 0) bN) bh)))))⟩)))))))))))))
theorem aol(F:gr K "_law_less" "_law_less" O4 f fd)(T:Txt K mg iM iR iT iQ iU iW iY iZ)(jD:dz P w K mg base "_law_take" 1 zav (spT K jl))(ye:dz P w K mg base "_law_house" 1 za0 (spT K yc)):fX P w K mg base gb 3 f fd za7 (spT K O6):=
 jz (body:=Xe) F zO λcdv A outer s H E hr=>(bT (apQ (i:=5) (j:=6) (k:=7) rfl zO.nd rfl rfl rfl bA bA bA rfl rfl rfl (pG (cB jD hr (aF (bf 0) (aF dI bh))) (pG (cB jD hr (aF (bf 0) (aF dI bh))) (pG (cB jD hr (aF (bf 0) (aF (iH wz wO T.rJ (dZ (aO 4) fB)) bh))) Cr))) rfl) (bT (Cq (dX hr (aO 4) (aO 7)) (rH rfl (fH (dG 8 zO.nd) (fH (dG 9 zO.nd) (fH (dG 10 zO.nd) rC)))) (wM (gW eY (gW eY (gW eY wG))))) (bT (jc 11 zO.nd (dN (aF (fL (aF (bf 1) (aF (fM (aR (nQ (aO 2) nO (nP (aO 5)))) (aR (nQ (aO 2) (nP (aR (fM (aO 5) bN))) nO))) (aF (bf 3) (aF (bf 4) bh))))) (aF (fL (aF (bf 1) (aF (bf 2) (aF (fM (aR (nQ (aO 3) nO (nP (aO 6)))) (aR (nQ (aO 3) (nP (aR (fM (aO 6) bN))) nO))) (aF (bf 4) bh))))) bh)))) (bT (jc 11 zO.nd (fM (aO 11) (aR (dN (aF (fL (aF (bf 1) (aF (bf 2) (aF (bf 3) (aF (fM (aR (nQ (aO 4) nO (nP (aO 7)))) (aR (nQ (aO 4) (nP (aR (fM (aO 7) bN))) nO))) bh))))) (aF (fL (aF (bf 1) (aF (dN bh) (aF (dN bh) (aF (dN bh) bh))))) (aF (fL (aF (nQ (aO 1) nO (nP bN)) (aF (dN bh) (aF (dN bh) (aF (dN bh) bh))))) bh))))))) (bT (jc 11 zO.nd (fM (aO 11) (aR (dN (aF (fL (aF (bf 1) (aF (bf 2) (aF (bf 3) (aF (fM (aR (fM (aR (nQ (aO 4) nO (nP (aO 7)))) (aR (dN (aF (fL (aF (bf 8) (aF (bf 9) (aF (nQ (aO 10) nO (nP (aR (cB jD hr (aF (bf 0) (aF dI bh)))))) bh)))) bh))))) (aR (nQ (aO 4) (nP (aR (fM (aO 7) bN))) nO))) bh))))) bh))))) (dH (jF (T:=.one) (NT:=zbf) (NF:=([]:List Str)) (js:=[]) (gB.ok (N0:=za6) (fO:=cC O4) bL rfl rfl) (⟨_,⟨_,rfl⟩,rfl⟩) rfl (mR (aO 11)) (λb=>⟨ju,(cB ye hr (aF (dX hr (aO 0) bN) (aF (dX hr (aO 0) bN) (aF (dX hr (aO 0) bN) (aF (dX hr (aO 0) bN) bh)))))⟩))))))))
theorem art(F:gr K "law" "law" JF f fd)(T:Txt K mg iM iR iT iQ iU iW iY iZ)(Io:dz P w K mg base "is_house" 6 zaa (spT K um))(XS:dz P w K mg base "_law_box" 1 zau (spT K PX))(Wq:dz P w K mg base "_law_names" 2 zav (spT K N8))(Wr:dz P w K mg base "_law_great" 3 zaz (spT K Oa))(ye:dz P w K mg base "_law_house" 1 za0 (spT K yc))(S8:dz P w K mg base "_law_ranks_right" 5 za2 (spT K LK))(S9:dz P w K mg base "_law_seats_right" 5 za4 (spT K LQ))(Vs:dz P w K mg base "_law_beyond" 2 za0 (spT K Np))(Xf:dz P w K mg base "_law_less" 3 za7 (spT K O6)):fX P w K mg base gb 7 f fd za9 (spT K Gu):=
 jz (body:=Ym) F wQ λcdv A outer s H E hr=>(bT (qC qm rfl (uW rfl T.sX (aR (fM bN (aR (iH (al7 rfl) apn T.Yk (dZ bN (dZ (aR (aeQ (pv 0) rfl T.rJ bL)) fB))))))) (dG 1 wQ.nd) eY (bT (aq4 (i:=2) wQ.nd rfl (Cd rfl) (cB XS hr (aF (bf 0) (aF (bf 1) bh)))) (bT (jc 3 wQ.nd (cB Wq hr (aF (bf 2) (aF dI bh)))) (bT (Cq (cB Wr hr (aF (bf 2) (aF (bf 3) bh))) (rH rfl (fH (dG 4 wQ.nd) (fH (dG 5 wQ.nd) (fH (dG 6 wQ.nd) (fH (dG 7 wQ.nd) rC))))) (wM (gW eY (gW eY (gW eY (gW eY wG)))))) (bT (jc 8 wQ.nd (cB ye hr (aF (bf 4) (aF (bf 5) (aF (bf 6) (aF (bf 7) bh)))))) (bT (jc 9 wQ.nd (iH (acH hr.gd hr.units) aeS T.PN (dZ (aO 8) fB))) (bT (jh (PW.pt (uA (jH ajO apR (aR (cB Io hr (aF (bf 8) bh))) (aR (dB jE)) (iD _)) (wL (jJ (jx (aR (cB S8 hr (aF (bf 8) (aF (bf 4) (aF (bf 5) (aF (bf 3) bh))))))))))) (dH (dB jE)) jg) (bT (jh (PW.pt (uA (jJ (jx (aR (cB S9 hr (aF (bf 8) (aF (bf 4) (aF (bf 7) bh))))))) (wL (jH (Jt hr.units) Jv (aR (iH (acH hr.gd hr.units) aeS T.PN (dZ (aO 8) fB))) (aO 9) (iD _))))) (dH (dB jE)) jg) (bT (jh (jJ (jx (aR (iH (qw rfl) qD T.pJ (dZ (aR (jF (T:=.one) (NT:=zbf) (NF:=([]:List Str)) (js:=[]) (gB.ok (N0:=za8) (fO:=cC JF) bL rfl rfl) (⟨_,⟨_,rfl⟩,rfl⟩) rfl (mR (aR (cB Vs hr (aF (bf 4) (aF (bf 5) (aF (bf 6) (aF (bf 7) bh))))))) (λb=>⟨ju,(oR ab6 afU (aR (cB Io hr (aF (bf 0) bh))) (aR (dB jE)) (iD _))⟩))) fB))))) (dH (dB jE)) jg) (lR (jh (jJ (jx (aR (iH (qw rfl) qD T.pJ (dZ (aR (jF (T:=.one) (NT:=zbf) (NF:=([]:List Str)) (js:=[]) (gB.ok (N0:=za8) (fO:=cC JF) bL rfl rfl) (⟨_,⟨_,rfl⟩,rfl⟩) rfl (mR (aR (cB Xf hr (aF (bf 2) (aF (bf 4) (aF (bf 5) (aF (bf 6) (aF (bf 7) bh)))))))) (λb=>⟨ju,(oR ab6 afU (aR (cB Io hr (aF (bf 0) bh))) (aR (dB jE)) (iD _))⟩))) fB))))) (dH (dB jE)) jg))))))))))) (dH (dB jE)))
local macro_rules|`(tactic|simp_arith[$ts,*])=>`(tactic|simp only[asK,asL,asM,asj,asl,atB,asm,atD,asn,atE,aso,aX,gP,je,JM,aP,dat,still,bW,dY,aD,aU,dF,eG,nM,eN,bO,di,CQ,gY,Qz,dj,eZ,Gm,iB,iV,qR,G3,Zq,YD,gk,frB,rM,setM,xj,oG,cZ,oE,bY,gG,add_int,sub_int,le_int,lt_int,ge_int,gt_int,eq_int,sW,W8,Jh,atH,atJ,atu,atv,atw,atx,aty,atz,atA,Wf,atF,arf,asp,asq,atG,Option.bind_some,Option.map_some,List.getElem?_cons_zero,List.getElem?_cons_succ,List.set_cons_zero,List.set_cons_succ,List.map_cons,List.map_nil,List.length_cons,List.length_nil,Bool.not_true,Bool.not_false,if_true,if_false,ite_self,Bool.false_eq_true,Option.join,id_eq,Nat.reduceAdd,Nat.reduceLeDiff,Nat.reduceLT,and_true,true_and,and_self,String.reduceBEq,Bool.or_false,Bool.or_true,Bool.false_or,Bool.true_or,Bool.and_true,Bool.and_false,Bool.true_and,Bool.false_and,decide_true,decide_false,reduceCtorEq,eq_bool,ne_bool,ne_int,asr,ass,beq_self_eq_true,List.length_map,asu,asv,asw,asx,asy,asz,asA,asB,asC,asD,Nh,acW,vI,GC,intD,Qx,cond_true,cond_false,$ts,*])
theorem kO(h:Bf L C b (k+1))(h0:0<m)(h1:m<1073741824):
  ∃t C',jl [.ce b,.im (.int m)] C=aa (.im (.int t),C')/\0<=t/\t<m/\Bf L C' b k:=by
 obtain⟨hL,x,y,z,hc,hx,hy,hy2,hz,hz2⟩:=h
 refine hide λGG gg=>?_
 have i0:qP 3 0=aa 0:=rfl;have i2:qP 3 2=aa 2:=rfl;by_cases hp:0<x
 .refine gg ⟨x%m,C.set b [x / m,y,z],fW [aa (.ce b),aa (.im (.int m)),ao,ao] rfl rfl ?_ rfl bF,Sq _ az,Rq _ h0,⟨by simpa using hL,x / m,y,z,Pz hc,Int.ediv_nonneg hx az,hy,hy2,hz,az⟩⟩;simp_arith[O5,vC,hc,hp,mod_eq h0,fdiv_eq h0 h1,vB,yz,Pz hc,i0,i2]
 .have o0:0<=(y+39373*(z+1))^5%2147483647:=Sq _ az;have o1:(y+39373*(z+1))^5%2147483647<2147483647:=Rq _ az;have pw:tG (.int (y+39373*(z+1))) (.int 5)=aa (.im (.int ((y+39373*(z+1))^5))):=pow_eq az az az
  obtain⟨q,qe⟩:∃q,(y+39373*(z+1))^5=q:=⟨_,rfl⟩
  rw[qe] at o0 o1 pw
  obtain⟨once,ho⟩:∃o,q%2147483647=o:=⟨_,rfl⟩
  rw[ho] at o0 o1;have c1:∀i,uy (.int i) (.int 2147483629)=aa (.im (.int (i%2147483629))):=λi=>mod_eq az
  refine gg ⟨(once*(once%40009+7)+(z+1)*7919)%2147483629 / 64%m,C.set b [x,y,z+1],fW [aa (.ce b),aa (.im (.int m)),ao,ao] rfl rfl ?_ rfl bF,Sq _ az,Rq _ h0,⟨by simpa using hL,x,y,z+1,Pz hc,hx,hy,hy2,az,az⟩⟩;simp_arith[O5,vC,hc,hp,vB,yz,Pz hc,mul_eq (i:=39373) (j:=z+1) (.inl az),pw,mod_eq (i:=q) (j:=2147483647) az,ho,mod_eq (i:=once) (j:=40009) az,mul_eq (i:=once) (j:=once%40009+7) (.inl az),mul_eq (i:=z+1) (j:=7919) (.inr az),c1,i0,i2,fdiv_eq (j:=64) az az,mod_eq h0]
theorem ap3{size:Int}(h:Bf L C b (j+8))(h0:0<=size)(h1:size<=8):
  ∃(cs:List Nat)(C':Ce),dM .one cz Ui [aa (.im (.str abc)),aa (.ce b)] (kZ 0 size.toNat) C=aa ((cs.map λc=>.str ⟨#[c]⟩),C')/\cs.length=size.toNat/\(∀c∈cs,97<=c/\c<=122)/\Bf L C' b j:=by
 obtain⟨ys,C',e,hB,hl,hr⟩:=Nf (T:=.one) (fe:=Ui) (fs:=[aa (.im (.str abc)),aa (.ce b)]) (λi C1=>Bf L C1 b (j+(8-i))) (λ_ y=>∃c:Nat,y=.str ⟨#[c]⟩/\97<=c/\c<=122) (aK:=kZ 0 size.toNat) (C:=C) (k:=0) h (λi d C1 hd hB=>by
  obtain⟨rfl,hi⟩:=zV hd
  rw[Ml] at hB⊢;rw[afR (j) (by lia:i<8)] at hB
  obtain⟨k1,C2,e1,a1,b1,oJ⟩:=kO (m:=26) hB bA bA
  refine⟨_,.im (.str ⟨#[97+k1.toNat]⟩),[aa (.im (.int (0+i))),aa (.im (.str abc)),aa (.ce b)],C2,.str ⟨#[97+k1.toNat]⟩,rfl,?_,rfl,⟨_,rfl,az,az⟩,oJ⟩
  simp_arith[cI,iu,gm,e1,bQ,letters k1 a1 b1])
 rw[zN] at hB hl
 obtain⟨cs,rfl,hcs⟩:∃cs:List Nat,ys=cs.map (λc=>.str ⟨#[c]⟩)/\∀c∈cs,97<=c/\c<=122:=by
  clear e hl hB;induction ys with
  |nil=>exact⟨[],rfl,λ_ m=>(nomatch m)⟩
  |cons y ys ih=>
   obtain⟨c,rfl,c1,c2⟩:=hr 0 y rfl
   obtain⟨cs,rfl,h2⟩:=ih λi z hz=>hr (i+1) z (by simpa using hz)
   exact⟨c::cs,rfl,λx hx=>by
    rcases cg.mp hx with rfl|hx
    .exact⟨c1,c2⟩
    .exact h2 x hx⟩
 exact⟨cs,C',e,by simpa using hl,hcs,hB.mono (RN _ _)⟩
theorem ap4(hz:z.length<=8):dM .one cz abQ [aa (.im (.str z))] (chars abc) C=aa (((dh 26).map (oW z)).map .str,C):=by
 rw[UG (λ_=>aq) (λd=>match d with|.str c=>.str (Txt.slice z ao (aa 7)++c)|_=>.none) λd hd=>?_]
 .rw[acV,tY.mpr λ_ _=>rfl,fj,fj];rfl
 .rw[acV] at hd
  obtain⟨i,hi,rfl⟩:=cY.mp hd
  refine⟨_,rfl,rfl,λ_=>⟨.im (.str (Txt.slice z ao (aa 7)++⟨#[97+i]⟩)),[aa (.im (.str ⟨#[97+i]⟩)),aa (.im (.str z))],?_,rfl⟩⟩
  have h1:(z.length<=1000000)=True:=eqT;have h2:((Txt.slice z ao (aa 7)).length+Str.length ⟨#[97+i]⟩<=1000000)=True:=eq_true (by
   have:=Wa z;show _+1<=_;lia)
  simp_arith[cI,iu,gm,jO,jQ,jN,zb,cD,h1,h2]
theorem ap5{cs zs:List Str}:dM .one abR abS [aa (.im (.list (zs.map .str)))] (cs.map .str) C=aa ((cs.filter λo=>decide (o∉zs)).map .str,C):=by
 refine nG gh (λo=>decide (o∉zs)) gh λo _=>⟨[.str o],rfl,?_,λ_=>⟨.im (.str o),_,rfl,rfl⟩⟩
 have hi:u5 (.str o) (.list (zs.map .str))=aa (.im (.bool (decide (o∉zs)))):=by
  have:inB (.str o) (.list (zs.map .str))=aa (inD (.str o) (zs.map .str)):=bC (by rw[Vm];rfl);unfold u5;rw[this,adR,lC,decide_not]
 simp_arith[cI,iu,gm,hi]
theorem ap6{cs:List Nat}(h:cs.length<=100):Px (.str (bI "")) (.list (cs.map λc=>.str ⟨#[c]⟩))=aa (.im (.str (Txt.join (bI "") (cs.map λc=>⟨#[c]⟩)))):=by
 simp only[Px,abE];refine bC ?_;rw[fj,aeU,amI,Nat.mul_zero];unfold gG;lia
theorem ap7(h:Bf L C b (j+12))(hzs:∀z∈zs,nameB z=aq)(hl:zs.length<26):
  ∃z C' w5 w6,Mz [aa (.ce b),v1,aa (.im (.str abc)),aa (.ow (.list (zs.map .str))),v4,v5,v6] C=aa (.nx,[aa (.ce b),v1,aa (.im (.str abc)),aa (.ow (.list ((zs++[z]).map .str))),v4,w5,w6],C')/\nameB z=aq/\z∉zs/\Bf L C' b j:=by
 refine hide λGG gg=>?_
 obtain⟨k1,C1,e1,a1,b1,oJ⟩:=kO (m:=3) h bA bA
 obtain⟨size,s0,s1,es⟩:∃size:Int,1<=size/\size<=8/\gF [pA 1,.int 8,.int 2] k1=aa (.int size):=by
  have hk:k1=0\/k1=1\/k1=2:=az;rcases hk with rfl|rfl|rfl
  .exact⟨1,az,az,rfl⟩
  .exact⟨8,az,az,rfl⟩
  .exact⟨2,az,az,rfl⟩
 obtain⟨cs,C2,e2,cl,hc,hB2⟩:=ap3 (j:=j+3) oJ (by lia:0<=size) s1
 have hj:=ap6 (cs:=cs) az;have hz0:=amD (l:=cs) az az hc
 obtain⟨z0,atN⟩:∃z,z=Txt.join (bI "") (cs.map λc=>⟨#[c]⟩):=⟨_,rfl⟩
 rw[<-atN] at hj hz0
 obtain⟨k3,C3,e3,a3,b3,hB3⟩:=kO (m:=3) hB2 bA bA
 obtain⟨z1,C4,t4,hz1,xH⟩:∃z1 C4,gC (tH (gP (aV lW (aG (bW jl (aD (aX 0) (aD (aP (.int 3)) aU)))) (aG (aP (.int 0))))) (gP (aV qJ (aN 3) (aG (dj aU))))) (eN 6 (aV cD (aG (jO (aG (aV bQ (aN 3) (aG (bW jl (aD (aX 0) (aD (dY mF (dF (aN 3) eG)) aU)))))) jQ (jN (aG (aP (.int 7)))))) (aG (aV bQ (aN 2) (aG (bW jl (aD (aX 0) (aD (aP (.int 26)) aU)))))))) gY [aa (.ce b),v1,aa (.im (.str abc)),aa (.ow (.list (zs.map .str))),v4,aa (.im (.int size)),aa (.im (.str z0))] C2
   =aa (.nx,[aa (.ce b),v1,aa (.im (.str abc)),aa (.ow (.list (zs.map .str))),v4,aa (.im (.int size)),aa (.im (.str z1))],C4)/\nameB z1=aq/\Bf L C4 b j:=by
  have ne:=ne_nil zs hzs;by_cases hk:k3=0
  .subst hk;cases zs with
   |nil=>
    rw[sI] at ne
    exact⟨z0,C3,by simp_arith[e3,ne,Li],hz0,hB3.mono (RN _ 2)⟩
   |cons y ys=>
    rw[fY] at hl
    obtain⟨k5,C5,e5,a5,b5,Ar⟩:=kO (m:=(ys.length:Int)+1) hB3 az az
    obtain⟨k6,C6,e6,a6,b6,Kq⟩:=kO (m:=26) Ar bA bA
    obtain⟨x,mx,_,ix⟩:=apA (zs:=y::ys) a5 (by rw[fY];lia)
    have nx:=hzs x mx;have n8:=(Wc nx).2.1;have c7:=Wa x;have h1:(x.length<=1000000)=True:=eqT;have h2:cD (.str (Txt.slice x ao (aa 7))) (.str ⟨#[97+k6.toNat]⟩)=aa (.im (.str (oW x k6.toNat))):=bC (by show _+1<=1000000;lia)
    refine⟨oW x k6.toNat,C6,?_,acT nx az,Kq⟩
    rw[dU] at ne ix⊢;have ix2:=ix;unfold bQ at ix2;have e5':jl [.ce b,.im (.int ((ys.length+1:Nat):Int))] C3=aa (.im (.int k5),C5):=e5;simp_arith[e3,ne,RC,e5',ix2,bQ,letters k6 a6 b6,e6,jO,jQ,jN,zb,h1,h2]
  .have hk':(k3==0)=aA:=beq_eq_false_iff_ne.mpr hk
   exact⟨z0,C3,by simp_arith[e3,hk'],hz0,hB3.mono (RN _ 2)⟩
 obtain⟨k,hk,hnew⟩:=an7 z1 hl
 have n8:=(Wc hz1).2.1;generalize hcs:z1::(dh 26).map (oW z1)=ca;have hlc:ca.length=27:=by rw[<-hcs];simp
 have mem:oW z1 k∈ca.filter λo=>decide (o∉zs):=o7.mpr ⟨by rw[<-hcs];exact fQ _ (cY.mpr ⟨k,qZ.mpr hk,rfl⟩),dW hnew⟩
 cases hf:ca.filter λo=>decide (o∉zs) with
 |nil=>rw[hf] at mem;cases mem
 |cons z' r=>
  have mz:z'∈ca.filter λo=>decide (o∉zs):=by rw[hf];exact eV
  obtain⟨m1,m2⟩:=o7.mp mz
  refine gg ⟨z',C4,aa (.im (.int size)),aa (.im (.str z1)),?_,?_,of_decide_eq_true m2,xH⟩
  .have f1:=ap4 (C:=C4) n8;have f2:=ap5 (C:=C4) (cs:=ca) (zs:=zs);rw[hf] at f2;have f3:cD (.list [.str z1]) (.list (((dh 26).map (oW z1)).map .str))=aa (.ow (.list (ca.map .str))):=by
    rw[<-hcs];exact add_l (xs:=[.str z1]) bF
   have lf:(z'::r).length<=27:=by rw[<-hf,<-hlc];exact zp _ _
   rw[fY] at lf;have g1:((dh 26).length<=1000000)=True:=eq_true bF;have g2:(r.length+1<=1000000)=True:=eqT;have g3:(zs.length<1000000)=True:=eqT;have g4:=Nh (z'::r);have g5:(size.toNat<=1000000)=True:=eqT;rw[dU] at f2 g4;simp_arith[Mz,e1,es,Qm,oh,yO (m:=size) az az,cl,ack,e2,g5,hj,↓t4,f1,f2,f3,g1,g2,g3,g4,xm,CT,j4]
  .rw[<-hcs] at m1;rcases cg.mp m1 with rfl|m1
   .exact hz1
   .obtain⟨i,hi,rfl⟩:=cY.mp m1
    exact acT hz1 (qZ.mp hi)
theorem aom(h:Bf L C b (j+240))(h0:0<=m)(h1:m<=20):
  ∃(zs:List Str)(C':Ce),N8 [.ce b,.im (.int m)] C=aa (.ow (.list (zs.map .str)),C')/\Names zs/\zs.length=m.toNat/\Bf L C' b j:=by
 refine hide λGG gg=>?_
 obtain⟨aW,C',e,zs,v4,v5,v6,he,hl,hN,hB⟩:=uV (g:=bY 4) (body:=Mz) (aK:=kZ 0 m.toNat) (aj:=[aa (.ce b),aa (.im (.int m)),aa (.im (.str abc)),aa (.ow (.list [])),ao,ao,ao]) (C:=C)
  (λi aj C1=>∃(zs:List Str)(v4 v5 v6:Option Vl),aj=[aa (.ce b),aa (.im (.int m)),aa (.im (.str abc)),aa (.ow (.list (zs.map .str))),v4,v5,v6]/\zs.length=i/\Names zs/\Bf L C1 b (j+12*(20-i)))
  ⟨[],ao,ao,ao,rfl,rfl,⟨lJ,λ_ m=>(nomatch m)⟩,h⟩ (λi d aj C1 hd hI=>by
   obtain⟨zs,v4,v5,v6,rfl,hl,hN,hB⟩:=hI
   obtain⟨rfl,hi⟩:=zV hd
   refine hide λGG gg=>?_
   rw[JD (j) 12 (by lia:i<20)] at hB
   obtain⟨z,C2,w5,w6,e,nz,nm,hB2⟩:=ap7 (v1:=aa (.im (.int m))) (v4:=aa (.im (.int (0+i)))) (v5:=v5) (v6:=v6) hB hN.2 az
   refine gg ⟨_,.nx,_,C2,rfl,e,.inl rfl,zs++[z],_,w5,w6,rfl,by simp[hl],⟨?_,λy hy=>?_⟩,hB2⟩
   .rw[mZ]
    refine⟨hN.1,bF,λx hx y hy e=>?_⟩
    rw[gU.mp hy] at e;exact nm (e▸hx)
   .rcases eO.mp hy with hy|hy
    .exact hN.2 y hy
    .rw[gU.mp hy];exact nz)
 rw[zN] at hl hB;subst he;refine gg ⟨zs,C',fW [aa (.ce b),aa (.im (.int m)),ao,ao,ao,ao,ao] rfl rfl ?_ rfl (h.eq hB),hN,hl,hB.mono (RN _ _)⟩;simp_arith[Wk,jX,oh,yO (m:=m) az az,e]
theorem Ws:∀(l q:List (Str×Str)),((q++l).map (·.1)).Nodup->(q++l).length<=8->yE (.many 2) cz R9 Sd [] (l.map bZ) (b8 (iI q)) C=aa (b8 (iI (q++l)),C)
 |[],q,_,_=>by rw[mj];rfl
 |x::l,q,nd,h8=>by
  have ih:=Ws (C:=C) l (q++[x]) (by rw[qX];exact nd) (by rw[qX];exact h8);have hx:x.1∉(iI q).map (·.1):=by
   unfold iI;rw[fj];show x.1∉q.map (·.1);rw[j4,mZ] at nd;exact λhm=>nd.2.2 _ hm _ eV rfl
  have hl:(b8 (iI q)).length<gG:=by
   unfold b8 iI;rw[gJ] at h8;rw[bD,bD];show _<1000000;lia
  rw[dU];unfold yE;rw[show uJ (.many 2) (bZ x)=aa [.str x.1,.str x.2] from rfl]
  show(if(b8 (iI q)).length<gG then yE (.many 2) cz R9 Sd [] (l.map bZ) (oV f9 (.inr x.1) (.str x.1) (.str x.2) (b8 (iI q))) C else ao)=_
  rw[bC hl,adT hx];have e:iI q++[(x.1,.str x.2)]=iI (q++[x]):=by unfold iI;rw[j4];rfl
  rw[e,ih,qX];rfl
theorem ap8(hl:∀z,jb q z=jb ps z):∀{z:Str}{os:List Str},Over (jb ps) z os->∀(n:Nat)(bJ:List Str),os.length<n->bJ.length+os.length<1000->
  ∃z',wN aaW aaX n [hs,aa (.im (.str z)),aa (.ow (.dict (b8 (iI q)))),aa (.ow (.list (bJ.map .str)))] C=aa (.nx,[hs,aa (.im (.str z')),aa (.ow (.dict (b8 (iI q)))),aa (.ow (.list ((bJ++os).map .str)))],C):=by
 have hin:∀z,qK (.str z) (.dict (b8 (iI q)))=aa (.im (.bool (jb ps z).isSome)):=λz=>by
  show((qI (b8 (iI q)) (.str z)).map (·.isSome)).map (λb=>Vl.im (.bool b))=_
  rw[Wh,hl];cases jb ps z<;>rfl
 intro z os ho;induction ho with
 |@stop z h=>
  intro n bJ hn ha;cases n with
  |zero=>exact absurd hn (R0 _)
  |succ n=>
   refine⟨z,?_⟩
   unfold wN;simp_arith[hin,h,Option.isSome_none,mj]
 |@step z y r h _ ih=>
  intro n bJ hn ha;cases n with
  |zero=>exact absurd hn (R0 _)
  |succ n=>
   rw[fY] at hn ha
   obtain⟨z',e⟩:=ih n (bJ++[z]) az (by rw[gJ];show bJ.length+1+_<_;lia)
   refine⟨z',?_⟩
   have g:(bJ.length<1000000)=True:=eqT;have i:bQ (.dict (b8 (iI q))) (.str z)=aa (.im (.str y)):=by
    unfold bQ rQ;simp only[Wh,hl,h,lC]
   simp only[j4,dU,sI,qX,iu,gm] at e⊢;unfold wN;simp_arith[hin,h,aix,g,xm,CT,i,e]
theorem Tt(hN:Names zs)(hP:jV zs ps)(hG:uX zs ps ht)(z:Str):
  zF [.im (eE ht),.im (.str z)] C=aa (.ow (.list ((up ps z).map .str)),C):=by
 have nd:=vZ hN hP;have Kr:(ht.ps.map (·.1)).Nodup:=(hG.parts.map (·.1)).nodup_iff.mpr nd;have hL:ht.ps.length<=8:=by rw[hG.parts.length_eq];exact hG.p8
 have t:=Ws (C:=C) ht.ps [] Kr hL;rw[show b8 (iI [])=[] from rfl,gm] at t;have hul:=XC ps z;have h8:=hG.p8
 obtain⟨z',e⟩:=ap8 (C:=C) (hs:=aa (.im (eE ht))) (aci hG.parts nd) (W5 hN hP z) agk [] (by show _<100000;lia) (by show 0+_<1000;lia)
 rw[sI,gm] at e;refine fW [aa (.im (eE ht)),aa (.im (.str z)),ao,ao] rfl rfl ?_ rfl rfl;simp_arith[TV,Aq,t,Wg,Zo,e]
theorem acr(hN:Names zs)(hP:jV zs ps)(hG:uX zs ps ht)(who z:Str)(bK:Int):
  Es [.im (eE ht),.im (.str who),.im (.str z),.im (.int bK)] C=aa (.im (.int (Fx ht.ranks who (up ps z) bK)),C):=by
 have p:=Tt (C:=C) hN hP hG z
 obtain⟨hl,hE⟩:∃l,l=ht.ranks.filter (wV who (up ps z) bK):=⟨_,rfl⟩
 have t1:dM (.many 6) TY T3 [aa (.im (.str who)),aa (.im (.list ((up ps z).map .str))),aa (.im (.int bK))] (ht.ranks.map bV) C=aa ((hl.map (·.2.2.1)).map .int,C):=by
  have:=nG (T:=.many 6) (ft:=TY) (fe:=T3) (fs:=[aa (.im (.str who)),aa (.im (.list ((up ps z).map .str))),aa (.im (.int bK))]) (C:=C) bV (wV who (up ps z) bK) (λr=>.int r.2.2.1) (l:=ht.ranks) λr _=>by
   refine⟨[.int r.1,.str r.2.1,.int r.2.2.1,.str r.2.2.2.1,.int r.2.2.2.2.1,.int r.2.2.2.2.2],rfl,?_,λ_=>⟨.im (.int r.2.2.1),_,rfl,rfl⟩⟩
   have c:=JB lG lG (aN 4) (aN 8) (aN 5) (aj:=[aa (.im (.int r.1)),aa (.im (.str r.2.1)),aa (.im (.int r.2.2.1)),aa (.im (.str r.2.2.2.1)),aa (.im (.int r.2.2.2.2.1)),aa (.im (.int r.2.2.2.2.2)),aa (.im (.str who)),aa (.im (.list ((up ps z).map .str))),aa (.im (.int bK))]) (C:=C) (a:=decide (r.2.2.2.2.1<=bK)) (b:=decide (bK<=r.2.2.2.2.2)) rfl rfl rfl rfl rfl;simp_arith[cI,iu,gm,c];unfold wV;cases decide (r.2.1=who)<;>cases decide (r.2.2.2.1∈up ps z)<;>rfl
  rw[<-hE] at this;rw[fj];exact this
 have hlen:hl.length<=20:=by rw[hE];exact kI (zp _ _) hG.r20
 have hpos:∀x∈hl.map (·.2.2.1),0<=x:=λx hx=>by
  obtain⟨r,hr,rfl⟩:=cY.mp hx
  rw[hE] at hr;have:=(hG.ranks r (o7.mp hr).1).rank;lia
 have g:(hl.length<=1000000)=True:=eqT;refine fW [aa (.im (eE ht)),aa (.im (.str who)),aa (.im (.str z)),aa (.im (.int bK)),ao,ao] rfl rfl ?_ rfl rfl;simp_arith[Vq,p,t1,g,Ql,UT,amF hpos];rw[hE];rfl
theorem aru(k0:0<=k)(k9:k<=9):∃x y:Int,PX [.sc ns,.im (.int k)] C=aa (.ow (.list [.int x,.int y,.int 0]),C)/\0<=x/\0<=y/\y<=3000000000:=by
 obtain⟨c,hc⟩:∃c:Int,(bO (eN 2 (aP (.int 0))) (gC (gP (aV wZ (aN 1) (aG (Ac 0)))) (eN 2 (JR 0 (aN 1))) gY)) [aa (.sc ns),aa (.im (.int k)),ao] C=aa (.nx,[aa (.sc ns),aa (.im (.int k)),aa (.im (.int c))],C):=by
  by_cases h:k<ns.length
  .obtain⟨c,hc,_⟩:=Xz (xs:=ns) k0 h
   exact⟨c,by simp_arith[Ac,JR,h,hc]⟩
  .exact⟨0,by simp_arith[Ac,h]⟩
 simp only[bO,eN,aP,List.set_cons_zero,List.set_cons_succ] at hc;have a0:0<=(if c<0 then -c else c):=by split<;>lia
 obtain⟨a,hA⟩:∃a,(if c<0 then -c else c)=a:=⟨_,rfl⟩
 rw[hA] at a0
 obtain⟨j,hj,j01⟩:∃j:Int,(if decide (1000000000000000000<=a)=aq then(1:Int) else 0)=j/\(j=1\/j=0):=⟨_,rfl,by split;exact .inl rfl;exact .inr rfl⟩
 have pw:tG (.int 10) (.int 18)=aa (.im (.int 1000000000000000000)):=rfl;have m0:0<=c%2147483629:=Sq _ az;have m1:c%2147483629<2147483629:=Rq _ az
 refine⟨a*j,c%2147483629+7919*k+11,fW [aa (.sc ns),aa (.im (.int k)),ao] rfl rfl ?_ rfl rfl,Int.mul_nonneg a0 az,az,az⟩
 simp_arith[XR,↓hc,Jz,hA,pw,Qj,hj,mul_eq (i:=a) (j:=j) (.inr az),mod_eq (i:=c) (j:=2147483629) az,mul_eq (i:=7919) (j:=k) (.inl az)]
theorem sV{α:Type}{fe:FE}{fs:En}{C:Ce}(D:α->aB){l:List α}(h:∀a∈l,∃ts e,uJ T (D a)=aa ts/\fe (cI ts++fs) C=aa (.im (.bool aq),e,C)):dM T cz fe fs (l.map D) C=aa (cN l.length (.bool aq),C):=by
 have:=nG (T:=T) (ft:=cz) (fe:=fe) (fs:=fs) (C:=C) D (λ_=>aq) (λ_=>.bool aq) (l:=l) λa m=>by
  obtain⟨ts,e,h1,h2⟩:=h a m
  exact⟨ts,h1,rfl,λ_=>⟨_,e,h2,rfl⟩⟩
 rw[tY.mpr λ_ _=>rfl,List.map_const'] at this;exact this
theorem afV(i:Int):Eg [.im (.int i)] C=aa (.im (.bool aq),C):=by
 refine fW [aa (.im (.int i))] rfl rfl ?_ rfl rfl;simp_arith[Ug,gO,CP,j9,qL]
theorem wB(h:0<=i):uc [.im (.int i)] C=aa (.im (.bool aq),C):=by
 have n:=afV (C:=C) i;have d:decide (i>=0)=aq:=dW h;refine fW [aa (.im (.int i))] rfl rfl ?_ rfl rfl;simp_arith[RM,gO,n,d]
theorem ac6(h:1<=i/\i<=9):Er [.im (.int i)] C=aa (.im (.bool aq),C):=by
 have n:=afV (C:=C) i;have c:=JB lG lG (aG (aP (.int 1))) (aN 0) (aG (aP (.int 9))) (aj:=[aa (.im (.int i))]) (C:=C) rfl rfl rfl rfl rfl;rw[dW h.1,dW h.2] at c;refine fW [aa (.im (.int i))] rfl rfl ?_ rfl rfl;simp_arith[Vp,gO,n,c]
theorem ae6(h:0<=i)(hj:i<=j):El [.im (.int i),.im (.int j)] C=aa (.im (.bool aq),C):=by
 have n:=wB (C:=C) h;have m:=wB (C:=C) (i:=j) az;have d:decide (i<=j)=aq:=dW hj;refine fW [aa (.im (.int i)),aa (.im (.int j))] rfl rfl ?_ rfl rfl;simp_arith[U3,gO,n,m,d]
theorem Wt(ds:List aB)(h:ds.length<=1000):zB [.im (.tuple ds),.im (.int ds.length)] C=aa (.im (.bool aq),C):=by
 have g:(ds.length<=1000000)=True:=eqT;refine fW [aa (.im (.tuple ds)),aa (.im (.int ds.length))] rfl rfl ?_ rfl rfl;simp_arith[Tn,gO,j9,qL,g]
theorem xV{α:Type}(D:α->aB)(l:List α)(hl:(l.length:Int)<=most)(hm:most<=1000)(h:∀a∈l,∃ds,D a=.tuple ds/\(ds.length:Int)=n/\ds.length<=1000):
  su [.im (.tuple (l.map D)),.im (.int n),.im (.int most)] C=aa (.im (.bool aq),C):=by
 have t:=sV (T:=.one) (fe:=aak) (fs:=[aa (.im (.int n))]) (C:=C) D (l:=l) λa m=>by
  obtain⟨ds,e,e2,h3⟩:=h a m
  have:=Wt (C:=C) ds h3;rw[e2] at this;rw[e]
  exact⟨[.tuple ds],_,rfl,by simp_arith[cI,iu,gm,this];rfl⟩
 have b:=sU l.length;have g:(l.length<=1000000)=True:=eqT;have d:decide ((l.length:Int)>most)=aA:=jy az;refine fW [aa (.im (.tuple (l.map D))),aa (.im (.int n)),aa (.im (.int most))] rfl rfl ?_ rfl rfl;simp_arith[Lq,j9,qL,g,d,t,b.1,b.2,qW]
theorem amU(z:Str):(chars z).length=z.length:=by
 unfold chars;rw[bD,lY];rfl
theorem Ew(h:nameB z=aq):uo [.im (.str z)] C=aa (.im (.bool aq),C):=by
 unfold nameB at h;simp only[j0,decide_eq_true_eq] at h
 obtain⟨⟨h1,h8⟩,ha⟩:=h
 have hlen:mF [.str z]=aa (.im (.int z.length)):=by
  have e:De (.str z)=aa z.length:=bC (by show z.length<=1000000;lia);simp only[mF,e];rfl
 have c0:=JB lG lG (aG (aP (.int 1))) (aG (dY mF (dF (aN 0) eG))) (aG (aP (.int 8))) (aj:=[aa (.im (.str z))]) (C:=C) (y:=.int z.length) (a:=aq) (b:=aq) rfl (by simp_arith[hlen];rfl) (by show aa (Vl.im (.bool (decide ((1:Int)<=z.length))))=_;rw[dW az]) rfl (by show aa (Vl.im (.bool (decide ((z.length:Int)<=8))))=_;rw[dW az]);have t:dM .one cz TX [] (chars z) C=aa (cN z.length (.bool aq),C):=by
  have:=sV (T:=.one) (fe:=TX) (fs:=[]) (C:=C) (λc:Nat=>gh ⟨#[c]⟩) (l:=z.cps.toList) λc m=>by
   have hc:=lB.mp ha c m;simp only[j0,decide_eq_true_eq] at hc;have q1:strLt ⟨#[c]⟩ (bI "a")=aA:=by
    unfold strLt;refine jy ?_;rw[show(bI "a").cps.toList=[97] by decide +kernel];intro h;rcases aic.mp (show[c]<[97] from h) with h|⟨_,h⟩
    .lia
    .exact absurd h (abj _)
   have q2:strLt (bI "z") ⟨#[c]⟩=aA:=by
    unfold strLt;refine jy ?_;rw[show(bI "z").cps.toList=[122] by decide +kernel];intro h;rcases aic.mp (show[122]<[c] from h) with h|⟨_,h⟩
    .lia
    .exact absurd h (abj _)
   refine⟨[.str ⟨#[c]⟩],[aa (.im (.str ⟨#[c]⟩))],rfl,?_⟩
   exact JB lG lG (aG (aP (.str (bI "a")))) (aN 0) (aG (aP (.str (bI "z")))) (a:=aq) (b:=aq) rfl rfl (by show aa (Vl.im (.bool (!strLt ⟨#[c]⟩ (bI "a"))))=_;rw[q1];rfl) rfl (by show aa (Vl.im (.bool (!strLt (bI "z") ⟨#[c]⟩)))=_;rw[q2];rfl)
  rw[show z.length=z.cps.toList.length by rw[lY];rfl];exact this
 have b:=sU z.length;have g:(z.length<=1000000)=True:=eqT;refine fW [aa (.im (.str z))] rfl rfl ?_ rfl rfl;simp_arith[Nm,j9,qL,↓c0,t,b.1,b.2,g,qW,amU]
theorem atO(ds:List aB):qN ds (aa 1) ao=ds.drop 1:=by
 unfold qN;rw[show HT.cQ ds.length 0 (aa 1)=min 1 ds.length from HT.Wx _ _ 1,show HT.cQ ds.length ds.length ao=ds.length from rfl,Rm (by rw[t7];exact bU _)];cases ds with
 |nil=>rfl
 |cons y ys=>rw[aju (by rw[fY];lia)]
theorem ad8:∀(ds:List aB),ds.Pairwise (λa b=>wZ a b=aa (.im (.bool aq)))->dM (.many 2) cz Lx [] (mU ds (ds.drop 1)) C=aa (cN (ds.length-1) (.bool aq),C)
 |[],_=>rfl
 |[_],_=>rfl
 |a::b::r,h=>by
  have ih:=ad8 (C:=C) (b::r) (uM.mp h).2;have hab:=(uM.mp h).1 b eV;show dM (.many 2) cz Lx [] (mU (a::b::r) (b::r)) C=_;rw[mU];have ih:dM (.many 2) cz Lx [] (mU (b::r) r) C=aa (cN r.length (.bool aq),C):=ih;unfold dM;show _=aa (cN (r.length+1) (abU aq),C);rw[vN];simp_arith[uJ,cz,cI,mj,hab,ih]
theorem Nq(ds:List aB)(hl:ds.length<=1000)(h:ds.Pairwise (λa b=>wZ a b=aa (.im (.bool aq)))):wg [.im (.list ds)] C=aa (.im (.bool aq),C):=by
 have t:=ad8 (C:=C) ds h;have b:=sU (ds.length-1);have g:(ds.length-1<=1000000)=True:=eqT;refine fW [aa (.im (.list ds))] rfl rfl ?_ rfl rfl;simp_arith[Uh,GD,jO,jN,jQ,zb,atO,ae2,t,b.1,b.2,g,qW]
inductive Ends(f:Str->Option Str):Str->Nat->Prop
 |last {z:Str}:f z=aa (bI "")->Ends f z 1
 |step {z y:Str} {n:Nat}:f z=aa y->y≠bI ""->Ends f y n->Ends f z (n+1)
theorem amV(h:Ends (jb q) z n):∀(aK:List aB)(v:Option Vl),n<=aK.length->∃aW,jW (bY 2) Z9 aK [aa (.im (.dict (b8 (iI q)))),aa (.im (.str z)),v] C=aa (.rt (.im (.bool aq)),aW,C):=by
 have ix:∀{z y:Str},jb q z=aa y->bQ (.dict (b8 (iI q))) (.str z)=aa (.im (.str y)):=λ{z y} h=>by
  unfold bQ rQ;simp only[Wh,h,lC]
 induction h with
 |last h=>
  intro aK v hl;cases aK with
  |nil=>exact absurd hl bF
  |cons d r=>
   have i:=ix h
   refine⟨[aa (.im (.dict (b8 (iI q)))),aa (.im (.str (bI ""))),aa (.im d)],?_⟩
   unfold jW;simp_arith[i,sW,decide_true]
 |step h ne _ ih=>
  intro aK v hl;cases aK with
  |nil=>exact absurd hl bF
  |cons d r=>
   have i:=ix h
   obtain⟨aW,e⟩:=ih r (aa (.im d)) (by rw[fY] at hl;lia)
   refine⟨aW,?_⟩
   have d1:=jy ne;unfold jW;simp_arith[i,sW,d1,e]
theorem ap9(h:Ends (jb q) z n)(hn:n<=q.length)(h8:q.length<=8):K8 [.im (.dict (b8 (iI q))),.im (.str z)] C=aa (.im (.bool aq),C):=by
 have ln:(b8 (iI q)).length=q.length:=by unfold b8 iI;rw[bD,bD]
 have hlen:mF [.dict (b8 (iI q))]=aa (.im (.int q.length)):=by
  have e:De (.dict (b8 (iI q)))=aa q.length:=by
   show(if(dO f9 (b8 (iI q))).isSome=aq then aa (b8 (iI q)).length else ao)=_
   rw[bC (by rw[BP];rfl),ln]
  simp only[mF,e];rfl
 obtain⟨aW,e⟩:=amV (C:=C) h (kZ 0 q.length) ao (by rw[zN];exact hn)
 have g:(-(2^62)<=(q.length:Int)/\(q.length:Int)<2^62)=True:=eq_true ⟨az,az⟩;refine fW [aa (.im (.dict (b8 (iI q)))),aa (.im (.str z)),ao] rfl rfl ?_ rfl rfl;simp_arith[Ry,jX,oh,hlen,g,Dz,e]
structure Fd(l:List (Str×Str)):Prop where
 few:l.length<=8
 name:∀x∈l,nameB x.1=aq
 up:(l.map (·.1)).Pairwise λa b=>strLt a b=aq
 within:∀x∈l,x.2=bI ""\/x.2∈l.map (·.1)
 ends:∀x∈l,∃n,n<=l.length/\Ends (jb l) x.1 n
theorem aon(h:strLt a b=aq):a≠b:=λe=>by
 subst e;exact absurd (of_decide_eq_true h) (abj _)
theorem MJ(l:List (Str×Str)):dM (.many 2) cz SJ [] (l.map bZ) C=aa ((l.map (·.1)).map .str,C):=by
 have:=nG (T:=.many 2) (ft:=cz) (fe:=SJ) (fs:=[]) (C:=C) bZ (λ_=>aq) (λx=>.str x.1) (l:=l) λx _=>⟨[.str x.1,.str x.2],rfl,rfl,λ_=>⟨.im (.str x.1),_,rfl,rfl⟩⟩
 rw[tY.mpr λ_ _=>rfl] at this;rw[fj];exact this
theorem abV(h:Fd l):H9 [.im (.tuple (l.map bZ))] C=aa (.im (.bool aq),C):=by
 have h8:=h.few;have a1:=xV (C:=C) (n:=2) (most:=8) bZ l az az λx _=>⟨[.str x.1,.str x.2],rfl,rfl,by show 2<=1000;decide⟩
 have t1:=MJ (C:=C) l;have t2:dM .one cz Lz [] ((l.map (·.1)).map .str) C=aa (cN l.length (.bool aq),C):=by
  have:=sV (T:=.one) (fe:=Lz) (fs:=[]) (C:=C) gh (l:=l.map (·.1)) λz m=>by
   obtain⟨x,hx,rfl⟩:=cY.mp m
   have:=Ew (C:=C) (h.name x hx)
   exact⟨[.str x.1],_,rfl,by simp_arith[cI,mj,this];rfl⟩
  rw[bD] at this;exact this
 have t3:=Nq (C:=C) ((l.map (·.1)).map .str) (by rw[bD,bD];lia) (by
  rw[tZ];exact h.up.imp λ{a b} hab=>by show aa (Vl.im (.bool (strLt a b)))=_;rw[hab])
 have t4:dM (.many 2) cz abg [aa (.im (.list ((l.map (·.1)).map .str)))] (l.map bZ) C=aa (cN l.length (.bool aq),C):=
  sV bZ λx hx=>by
   refine⟨[.str x.1,.str x.2],[aa (.im (.str x.1)),aa (.im (.str x.2)),aa (.im (.list ((l.map (·.1)).map .str)))],rfl,?_⟩
   have i:=Jh x.2 (l.map (·.1));by_cases e:x.2=bI ""
   .have d1:=dW e;simp_arith[cI,iu,gm,Ah,sW,d1]
   .have d1:=jy e;have d2:=dW ((h.within x hx).resolve_left e);rw[d2] at i;simp_arith[cI,iu,gm,Ah,sW,d1,↓i]
 have nd:(l.map (·.1)).Nodup:=h.up.imp λhab=>aon hab
 have t5:yE (.many 2) cz abe abf [] (l.map bZ) [] C=aa (b8 (iI l),C):=by
  have:=Ws (C:=C) l [] nd h8;rw[show b8 (iI [])=[] from rfl,gm] at this;exact this
 have t6:dM .one cz Sy [aa (.im (.dict (b8 (iI l))))] ((l.map (·.1)).map .str) C=aa (cN l.length (.bool aq),C):=by
  have:=sV (T:=.one) (fe:=Sy) (fs:=[aa (.im (.dict (b8 (iI l))))]) (C:=C) gh (l:=l.map (·.1)) λz m=>by
   obtain⟨x,hx,rfl⟩:=cY.mp m
   obtain⟨n,hn,he⟩:=h.ends x hx
   have:=ap9 (C:=C) he hn h8
   exact⟨[.str x.1],_,rfl,by simp_arith[cI,iu,gm,this];rfl⟩
  rw[bD] at this;exact this
 have b:=sU l.length;have g:(l.length<=1000000)=True:=eqT;refine fW [aa (.im (.tuple (l.map bZ))),ao,ao] rfl rfl ?_ rfl rfl;simp_arith[HY,a1,t1,t2,t3,t4,t5,t6,b.1,b.2,g,qW,Aq,Wg]
theorem tB{α:Type}{D:α->aB}(h:∀a,lq (D a)=aq):∀l:List α,ji (l.map D)=aq
 |[]=>rfl
 |a::l=>by
  show(lq (D a)&&ji (l.map D))=aq
  rw[h a,tB h l];rfl
theorem O7{own:List Str}(h:z∈own):qK (.str z) (.list (own.map .str))=aa (.im (.bool aq)):=by
 rw[Jh,dW h]
theorem abW{own:List Str}(h:z∈own):u5 (.str z) (.list (own.map .str))=aa (.im (.bool aA)):=by
 have i:=O7 h;unfold qK at i;unfold u5;cases hb:inB (.str z) (.list (own.map .str)) with
 |none=>rw[hb] at i;cases i
 |some b=>
  rw[hb] at i;cases b with
  |true=>rfl
  |false=>cases i
theorem abX(hz:∀z∈zs,nameB z=aq)(h:mD zs own r):HB [.im (bV r),.im (.list (own.map .str))] C=aa (.im (.bool aq),C):=by
 have a:=wB (C:=C) h.num.1;have b:=Ew (C:=C) (hz _ h.who);have c:=ac6 (C:=C) h.rank;have d:=O7 h.part;have e:=ae6 (C:=C) h.days.1 h.days.2.1;refine fW [aa (.im (bV r)),aa (.im (.list (own.map .str))),ao,ao,ao,ao,ao,ao] rfl rfl ?_ rfl rfl;simp_arith[Mh,bV,a,b,c,↓d,e,gO]
theorem abG(hz:∀z∈zs,nameB z=aq)(h:mC zs own r):Ht [.im (cX r),.im (.list (own.map .str))] C=aa (.im (.bool aq),C):=by
 have a:=wB (C:=C) h.num.1;have a2:=wB (C:=C) h.most.1;have b:=Ew (C:=C) (hz _ h.giver);have b2:=Ew (C:=C) (hz _ h.taker);have c:=sW r.2.1 r.2.2.1;rw[jy h.ne] at c;have d:=O7 h.part;have e:=ae6 (C:=C) h.days.1 h.days.2.1;refine fW [aa (.im (cX r)),aa (.im (.list (own.map .str))),ao,ao,ao,ao,ao,ao,ao] rfl rfl ?_ rfl rfl;simp_arith[LC,cX,a,a2,b,b2,↓c,↓d,e,gO]
theorem abY(h:nJ own r):HD [.im (bR r),.im (.list (own.map .str))] C=aa (.im (.bool aq),C):=by
 have hm:=h.many;have a:=abW h.part;have b:=wB (C:=C) h.sum.1;have c:=xV (C:=C) (n:=2) (most:=6) gA r.2.2 az az λs _=>⟨[.int s.1,.str s.2],rfl,rfl,by show 2<=1000;decide⟩
 have t:dM (.many 2) cz aaM [aa (.im (.list (own.map .str)))] (r.2.2.map gA) C=aa (cN r.2.2.length (.bool aq),C):=
  sV gA λs hs=>by
   obtain⟨s1,s9,hw⟩:=h.seats s hs
   have k:=ac6 (C:=C) ⟨s1,s9⟩
   refine⟨[.int s.1,.str s.2],[aa (.im (.int s.1)),aa (.im (.str s.2)),aa (.im (.list (own.map .str)))],rfl,?_⟩
   by_cases e:s.2=bI ""
   .have d1:=dW e;simp_arith[cI,iu,gm,gO,Ah,k,sW,d1]
   .have d1:=jy e;have i:=O7 (hw.resolve_left e);simp_arith[cI,iu,gm,gO,Ah,k,sW,d1,↓i]
 have bt:=sU r.2.2.length;have g:(r.2.2.length<=1000000)=True:=eqT;refine fW [aa (.im (bR r)),aa (.im (.list (own.map .str))),ao,ao,ao] rfl rfl ?_ rfl rfl;simp_arith[Mi,bR,fJ,↓a,b,c,t,bt.1,bt.2,g,qW]
def jo(r:cR):List Key:=[.inr r.1,.inl r.2.1]
structure BV(zs:List Str)(ht:mO):Prop where
 names:∀z∈zs,nameB z=aq
 parts:Fd ht.ps
 r20:ht.ranks.length<=20
 ranks:∀r∈ht.ranks,mD zs (ht.ps.map (·.1)) r
 Ds:(ht.ranks.map (·.1)).Pairwise (·<·)
 jq:ht.leaves.length<=16
 leaves:∀r∈ht.leaves,mC zs (ht.ps.map (·.1)) r
 G6:(ht.leaves.map (·.1)).Pairwise (·<·)
 iK:ht.rules.length<=10
 rules:∀r∈ht.rules,nJ (ht.ps.map (·.1)) r
 Zz:(ht.rules.map jo).Pairwise λa b=>eF a b=aq
theorem ae7{ns:List Int}(h:ns.Pairwise (·<·)):(ns.map pA).Pairwise (λa b=>wZ a b=aa (.im (.bool aq))):=by
 rw[tZ];exact h.imp λ{a b} hab=>by show aa (Vl.im (.bool (decide (a<b))))=_;rw[dW hab]
section
variable{C:Ce}{zs:List Str}{ht:mO}(h:BV zs ht)
include h
theorem MK:xR [.im (.tuple (ht.ranks.map bV)),.im (.list ((ht.ps.map (·.1)).map .str))] C=aa (.im (.bool aq),C):=by
 have hl:=h.r20;have a:=xV (C:=C) (n:=6) (most:=20) bV ht.ranks az az λr _=>⟨[.int r.1,.str r.2.1,.int r.2.2.1,.str r.2.2.2.1,.int r.2.2.2.2.1,.int r.2.2.2.2.2],rfl,rfl,by show 6<=1000;decide⟩
 have t:dM .one cz SM [aa (.im (.list ((ht.ps.map (·.1)).map .str)))] (ht.ranks.map bV) C=aa (cN ht.ranks.length (.bool aq),C):=
  sV bV λr hr=>by
   have k:=abX (C:=C) h.names (h.ranks r hr)
   exact⟨[bV r],[aa (.im (bV r)),aa (.im (.list ((ht.ps.map (·.1)).map .str)))],rfl,by simp_arith[cI,iu,gm,k]⟩
 have u:=nG (T:=.one) (ft:=cz) (fe:=abh) (fs:=[]) (C:=C) bV (λ_=>aq) (λr=>.int r.1) (l:=ht.ranks) λr _=>⟨[bV r],rfl,rfl,λ_=>⟨.im (.int r.1),[aa (.im (bV r))],by simp_arith[cI,mj,bV],rfl⟩⟩
 rw[tY.mpr λ_ _=>rfl] at u;have ri:=Nq (C:=C) (ht.ranks.map λr=>.int r.1) (by rw[bD];lia) (by have:=ae7 h.Ds;rw[fj] at this;exact this);have b:=sU ht.ranks.length;have g:(ht.ranks.length<=1000000)=True:=eqT;have n:=tB (D:=λr:fZ=>pA r.1) (λ_=>rfl) ht.ranks;refine fW [aa (.im (.tuple (ht.ranks.map bV))),aa (.im (.list ((ht.ps.map (·.1)).map .str)))] rfl rfl ?_ rfl rfl;simp_arith[Ia,a,t,u,ri,b.1,b.2,g,n,qW,gO]
theorem abH:Bq [.im (.tuple (ht.leaves.map cX)),.im (.list ((ht.ps.map (·.1)).map .str))] C=aa (.im (.bool aq),C):=by
 have hl:=h.jq;have a:=xV (C:=C) (n:=7) (most:=16) cX ht.leaves az az λr _=>⟨[.int r.1,.str r.2.1,.str r.2.2.1,.str r.2.2.2.1,.int r.2.2.2.2.1,.int r.2.2.2.2.2.1,.int r.2.2.2.2.2.2],rfl,rfl,by show 7<=1000;decide⟩
 have t:dM .one cz Sg [aa (.im (.list ((ht.ps.map (·.1)).map .str)))] (ht.leaves.map cX) C=aa (cN ht.leaves.length (.bool aq),C):=
  sV cX λr hr=>by
   have k:=abG (C:=C) h.names (h.leaves r hr)
   exact⟨[cX r],[aa (.im (cX r)),aa (.im (.list ((ht.ps.map (·.1)).map .str)))],rfl,by simp_arith[cI,iu,gm,k]⟩
 have u:=nG (T:=.one) (ft:=cz) (fe:=aaY) (fs:=[]) (C:=C) cX (λ_=>aq) (λr=>.int r.1) (l:=ht.leaves) λr _=>⟨[cX r],rfl,rfl,λ_=>⟨.im (.int r.1),[aa (.im (cX r))],by simp_arith[cI,mj,cX],rfl⟩⟩
 rw[tY.mpr λ_ _=>rfl] at u;have ri:=Nq (C:=C) (ht.leaves.map λr=>.int r.1) (by rw[bD];lia) (by have:=ae7 h.G6;rw[fj] at this;exact this);have b:=sU ht.leaves.length;have g:(ht.leaves.length<=1000000)=True:=eqT;have n:=tB (D:=λr:j8=>pA r.1) (λ_=>rfl) ht.leaves;refine fW [aa (.im (.tuple (ht.leaves.map cX))),aa (.im (.list ((ht.ps.map (·.1)).map .str)))] rfl rfl ?_ rfl rfl;simp_arith[HQ,a,t,u,ri,b.1,b.2,g,n,qW,gO]
theorem ak2:zH [.im (.tuple (ht.rules.map bR)),.im (.list ((ht.ps.map (·.1)).map .str))] C=aa (.im (.bool aq),C):=by
 have hl:=h.iK;have a:=xV (C:=C) (n:=3) (most:=10) bR ht.rules az az λr _=>⟨[.str r.1,.int r.2.1,fJ r.2.2],rfl,rfl,by show 3<=1000;decide⟩
 have t:dM .one cz SN [aa (.im (.list ((ht.ps.map (·.1)).map .str)))] (ht.rules.map bR) C=aa (cN ht.rules.length (.bool aq),C):=
  sV bR λr hr=>by
   have k:=abY (C:=C) (h.rules r hr)
   exact⟨[bR r],[aa (.im (bR r)),aa (.im (.list ((ht.ps.map (·.1)).map .str)))],rfl,by simp_arith[cI,iu,gm,k]⟩
 have u:=nG (T:=.many 3) (ft:=cz) (fe:=abi) (fs:=[]) (C:=C) bR (λ_=>aq) (λr=>.tuple [.str r.1,.int r.2.1]) (l:=ht.rules) λr _=>⟨[.str r.1,.int r.2.1,fJ r.2.2],rfl,rfl,λ_=>⟨.im (.tuple [.str r.1,.int r.2.1]),[aa (.im (.str r.1)),aa (.im (.int r.2.1)),aa (.im (fJ r.2.2))],by simp_arith[cI,mj],rfl⟩⟩
 rw[tY.mpr λ_ _=>rfl] at u;have ri:=Nq (C:=C) (ht.rules.map λr=>.tuple [.str r.1,.int r.2.1]) (by rw[bD];lia) (by
  rw[tZ];have:=h.Zz;rw[tZ] at this;exact this.imp λ{p q} hpq=>by
   show(if([uY p.1,.inl p.2.1]:List Key).map cA=[uY q.1,.inl q.2.1].map cA then aa (eF [.inr p.1,.inl p.2.1] [.inr q.1,.inl q.2.1]) else ao).map (λb=>Vl.im (.bool b))=_
   rw[bC (show([uY p.1,.inl p.2.1]:List Key).map cA=[uY q.1,.inl q.2.1].map cA from rfl)];unfold jo at hpq;rw[hpq];rfl)
 have b:=sU ht.rules.length;have g:(ht.rules.length<=1000000)=True:=eqT;have n:=tB (D:=λr:cR=>HH [.str r.1,.int r.2.1]) (λ_=>rfl) ht.rules;refine fW [aa (.im (.tuple (ht.rules.map bR))),aa (.im (.list ((ht.ps.map (·.1)).map .str)))] rfl rfl ?_ rfl rfl;simp_arith[Ib,a,t,u,ri,b.1,b.2,g,n,qW]
theorem acs:um [.im (eE ht)] C=aa (.im (.bool aq),C):=by
 have a:zB [.im (eE ht),.im (.int 4)] C=aa (.im (.bool aq),C):=Wt (C:=C) [.tuple (ht.ps.map bZ),.tuple (ht.ranks.map bV),.tuple (ht.leaves.map cX),.tuple (ht.rules.map bR)] (by show 4<=1000;decide);have p:=abV (C:=C) h.parts;have t:dM (.many 2) cz Tp [] (ht.ps.map bZ) C=aa ((ht.ps.map (·.1)).map .str,C):=MJ ht.ps;have r:=MK (C:=C) h;have l:=abH (C:=C) h;have u:=ak2 (C:=C) h;unfold eE at a⊢;refine fW [aa (.im (.tuple [.tuple (ht.ps.map bZ),.tuple (ht.ranks.map bV),.tuple (ht.leaves.map cX),.tuple (ht.rules.map bR)])),ao,ao,ao,ao,ao] rfl rfl ?_ rfl rfl;have g8:=h.parts.few;have g:(ht.ps.length<=1000000)=True:=eqT;simp_arith[Bt,a,p,t,r,l,u,g,gO]
end
def nj(ru:List cR):List Str->List cR
 |[]=>[]
 |z::os=>if ru.filter (λr=>decide (r.1=z))=[] then nj ru os else ru.filter λr=>decide (r.1=z)
def xu:List cR->Option cR
 |[]=>ao
 |r::l=>match xu l with
  |none=>aa r
  |some y=>if r.2.1<y.2.1 then aa y else aa r
def Gi(ru:List cR)(os:List Str)(z:Str)(rR:Int):List nR:=match xu ((nj ru os).filter λr=>decide (r.2.1<=rR)) with
 |none=>[]
 |some r=>r.2.2.map λs=>(s.1,if s.2=bI "" then z else s.2)
def mX(r:cR):aB:=.tuple [.int r.2.1,fJ r.2.2]
theorem Nr(ru:List cR):∀os,∃z,nj ru os=[]\/nj ru os=ru.filter λr=>decide (r.1=z)
 |[]=>⟨bI "",.inl rfl⟩
 |z::os=>by
  rw[nj];split
  .exact Nr ru os
  .exact⟨z,.inr rfl⟩
theorem amW(ru:List cR)(os:List Str):(nj ru os).length<=ru.length:=by
 obtain⟨z,h|h⟩:=Nr ru os
 .rw[h];exact j5 _
 .rw[h];exact zp _ _
theorem akE(h:(ru.map λr=>(r.1,r.2.1)).Nodup)(os:List Str):((nj ru os).map (·.2.1)).Nodup:=by
 obtain⟨z,e|e⟩:=Nr ru os
 .rw[e];exact lJ
 .rw[e];have h2:((ru.filter λr=>decide (r.1=z)).map λr=>(r.1,r.2.1)).Nodup:=h.sublist (List.filter_sublist.map _);have e2:(ru.filter λr=>decide (r.1=z)).map (λr=>(r.1,r.2.1))=((ru.filter λr=>decide (r.1=z)).map (·.2.1)).map λb=>(z,b):=by
   rw[fj];refine vO λr hr=>?_
   have:=of_decide_eq_true (o7.mp hr).2
   show(r.1,r.2.1)=(z,r.2.1)
   rw[this]
  rw[e2] at h2;exact av7 (λb=>(z,b)) (λa b hne e=>hne (by rw[e])) h2
theorem aoo(ru:List cR)(z:Str):dM (.many 3) aba abb [aa (.im (.str z))] (ru.map bR) C=aa ((ru.filter λr=>decide (r.1=z)).map mX,C):=
 nG bR (λr=>decide (r.1=z)) mX λr _=>⟨[.str r.1,.int r.2.1,fJ r.2.2],rfl,by simp_arith[cI,iu,gm,sW],λ_=>⟨.im (mX r),[aa (.im (.str r.1)),aa (.im (.int r.2.1)),aa (.im (fJ r.2.2)),aa (.im (.str z))],by simp_arith[cI,iu,gm,mX],rfl⟩⟩
theorem afW(r:cR):lq (mX r)=aq:=by
 show(aq&&(ji (r.2.2.map gA)&&aq))=aq
 rw[Ep];rfl
theorem acu(h10:ht.rules.length<=10)(v1:Option Vl):∀(os:List Str)(v2 v3:Option Vl),∃fl aW,jW (bY 2) abd (os.map .str) [aa (.im (eE ht)),v1,v2,v3] C=aa (fl,aW,C)/\
  ((nj ht.rules os=[]/\fl=.nx)\/(nj ht.rules os≠[]/\fl=.rt (.ow (.list ((nj ht.rules os).map mX)))))
 |[],v2,v3=>⟨_,_,rfl,.inl ⟨rfl,rfl⟩⟩
 |z::os,v2,v3=>by
  have t:=aoo (C:=C) ht.rules z;have fl:(ht.rules.filter λr=>decide (r.1=z)).length<=10:=kI (zp _ _) h10;have n:=tB (D:=mX) afW (ht.rules.filter λr=>decide (r.1=z));rw[nj,dU];generalize ht.rules.filter (λr=>decide (r.1=z))=f at t fl n;cases f with
  |nil=>
   rw[bC rfl]
   obtain⟨fl,aW,e,hh⟩:=acu (C:=C) h10 v1 os (aa (.im (.str z))) (aa (.ow (.list [])))
   refine⟨fl,aW,?_,hh⟩
   rw[sI] at t;unfold jW;simp_arith[t,ji,Li,e]
  |cons a r=>
   rw[bB bF];have g:(r.length+1<=1000000)=True:=eq_true (by rw[fY] at fl;lia)
   refine⟨_,[aa (.im (eE ht)),v1,aa (.im (.str z)),aa (.ow (.list ((a::r).map mX)))],?_,.inr ⟨bF,rfl⟩⟩
   rw[dU] at t n⊢;unfold jW;simp_arith[t,n,RC,g]
theorem ak3(hN:Names zs)(hP:jV zs ps)(hG:uX zs ps ht)(z:Str):
  My [.im (eE ht),.im (.str z)] C=aa (.ow (.list ((nj ht.rules (up ps z)).map mX)),C):=by
 have p:=Tt (C:=C) hN hP hG z
 obtain⟨fl,aW,e,hh⟩:=acu (C:=C) hG.iK (aa (.im (.str z))) (up ps z) ao ao
 refine fW [aa (.im (eE ht)),aa (.im (.str z)),ao,ao] rfl rfl ?_ rfl rfl;rcases hh with⟨h1,rfl⟩|⟨h1,rfl⟩
 .rw[h1,sI];simp_arith[Mx,jX,p,e]
 .simp_arith[Mx,jX,p,e]
theorem ad9:∀l:List cR,Gf (l.map mX)=aa (l.map λr=>(r.2.1,[fJ r.2.2]))
 |[]=>rfl
 |r::l=>by
  show((L2.pairD (mX r)).bind λx=>(Gf (l.map mX)).map λt=>x::t)=_
  rw[ad9 l];rfl
theorem afX:∀l:List cR,yG (l.map λr=>(r.2.1,[fJ r.2.2]))=(xu l).map λr=>(r.2.1,[fJ r.2.2])
 |[]=>rfl
 |r::l=>by
  rw[dU,yG,afX l,xu];cases xu l with
  |none=>rfl
  |some y=>
   simp only[lC];split<;>rfl
theorem Od:∀(r:cR)(l:List cR),∃y,xu (r::l)=aa y/\y∈r::l
 |r,[]=>⟨r,rfl,eV⟩
 |r,a::l=>by
  obtain⟨y,e,hy⟩:=Od a l
  rw[xu,e];simp only;split
  .exact⟨y,rfl,fQ _ hy⟩
  .exact⟨r,rfl,eV⟩
theorem aea(hN:Names zs)(hP:jV zs ps)(hG:uX zs ps ht)(z:Str)(rR:Int):
  Im [.im (eE ht),.im (.str z),.im (.int rR)] C=aa (.im (fJ (Gi ht.rules (up ps z) z rR)),C):=by
 have p:=ak3 (C:=C) hN hP hG z;have t:dM (.many 2) abr abt [aa (.im (.int rR))] ((nj ht.rules (up ps z)).map mX) C=aa (((nj ht.rules (up ps z)).filter λr=>decide (r.2.1<=rR)).map mX,C):=
  nG mX (λr=>decide (r.2.1<=rR)) mX λr _=>⟨[.int r.2.1,fJ r.2.2],rfl,by simp_arith[cI,iu,gm],λ_=>⟨.im (mX r),[aa (.im (.int r.2.1)),aa (.im (fJ r.2.2)),aa (.im (.int rR))],by simp_arith[cI,iu,gm,mX],rfl⟩⟩
 have nd:(((nj ht.rules (up ps z)).filter λr=>decide (r.2.1<=rR)).map (·.2.1)).Nodup:=(akE hG.unlike (up ps z)).sublist (List.filter_sublist.map _);have hl:((nj ht.rules (up ps z)).filter λr=>decide (r.2.1<=rR)).length<=10:=kI (zp _ _) (kI (amW _ _) hG.iK);have n:=tB (D:=mX) afW ((nj ht.rules (up ps z)).filter λr=>decide (r.2.1<=rR));have hm:∀r∈(nj ht.rules (up ps z)).filter (λr=>decide (r.2.1<=rR)),r.2.2.length<=6:=λr hr=>by
  have hr:=(o7.mp hr).1
  obtain⟨y,e|e⟩:=Nr ht.rules (up ps z)
  .rw[e] at hr;exact nomatch hr
  .rw[e] at hr;exact(hG.rules r (o7.mp hr).1).many
 unfold Gi
 generalize(nj ht.rules (up ps z)).filter (λr=>decide (r.2.1<=rR))=f at t nd hl n hm
 refine fW [aa (.im (eE ht)),aa (.im (.str z)),aa (.im (.int rR)),ao,ao,ao] rfl rfl ?_ rfl rfl;cases f with
 |nil=>
  rw[sI] at t;simp_arith[M4,p,t,ji,Li];rfl
 |cons a r=>
  obtain⟨y,e,hy⟩:=Od a r
  have y6:=hm y hy;have mx:PK [.list (mX a::r.map mX)]=aa (.im (.tuple [.int y.2.1,fJ y.2.2])):=by
   show((Gf ((a::r).map mX)).bind λl=>if(l.map (·.1)).Nodup then(yG l).map (λx=>Vl.im (.tuple (.int x.1::x.2))) else ao)=_
   rw[ad9]
   show(if(((a::r).map λr=>(r.2.1,[fJ r.2.2])).map (·.1)).Nodup then _ else ao)=_
   rw[bC (by rw[fj];exact nd),afX,e];rfl
  have g:(r.length+1<=1000000)=True:=eq_true (by rw[fY] at hl;lia);have t2:dM (.many 2) cz Tj [aa (.im (.str z))] (y.2.2.map gA) C=aa ((y.2.2.map λs=>(s.1,if s.2=bI "" then z else s.2)).map gA,C):=by
   have:=nG (T:=.many 2) (ft:=cz) (fe:=Tj) (fs:=[aa (.im (.str z))]) (C:=C) gA (λ_=>aq) (λs=>gA (s.1,if s.2=bI "" then z else s.2)) (l:=y.2.2) λs _=>by
    refine⟨[.int s.1,.str s.2],rfl,rfl,λ_=>⟨.im (gA (s.1,if s.2=bI "" then z else s.2)),[aa (.im (.int s.1)),aa (.im (.str s.2)),aa (.im (.str z))],?_,rfl⟩⟩
    by_cases e:s.2=bI ""
    .have d1:=dW e;rw[bC e];simp_arith[cI,iu,gm,sW,d1,gA]
    .have d1:=jy e;rw[bB e];simp_arith[cI,iu,gm,sW,d1,gA]
   rw[tY.mpr λ_ _=>rfl] at this;rw[fj];exact this
  have g2:(y.2.2.length<=1000000)=True:=eqT;have n2:=tB (D:=gA) (λ_=>rfl) (y.2.2.map λs=>(s.1,if s.2=bI "" then z else s.2));rw[e];rw[dU] at t n;have tp:rF [.list ((y.2.2.map λs=>(s.1,if s.2=bI "" then z else s.2)).map gA)]=aa (.im (.tuple ((y.2.2.map λs=>(s.1,if s.2=bI "" then z else s.2)).map gA))):=rfl;have rs:∀e f:En,rst (.im (.tuple [.int y.2.1,fJ y.2.2])) e f=e:=λe f=>by
   show(if(aq&&(ji (y.2.2.map gA)&&aq))=aq then e else _)=e
   rw[Ep];rfl
  simp_arith[M4,p,t,n,RC,g,↓mx,rs,fJ,t2,g2,n2,tp]
def yQ:Nat->aB->Bool
 |0,_=>aA
 |_+1,.int _=>aq
 |_+1,.str _=>aq
 |n+1,.list ds=>decide (ds.length<=1000)&&ds.all (yQ n)
 |n+1,.tuple ds=>decide (ds.length<=1000)&&ds.all (yQ n)
 |_+1,_=>aA
theorem ac7:∀(ds:List aB),(∀d∈ds,f [.im d,.im d] C=aa (.im (.bool aq),C))->dM (.many 2) cz (acp f) [] (mU ds ds) C=aa (cN ds.length (.bool aq),C)
 |[],_=>rfl
 |x::xs,h=>by
  have ih:=ac7 xs λd m=>h d (fQ _ m)
  have h1:=h x eV;rw[mU];unfold dM;rw[fY,vN];simp_arith[uJ,cz,cI,mj,h1,ih]
theorem Fe:∀(n:Nat)(d:aB),yQ n d=aq->sY n [.im d,.im d] C=aa (.im (.bool aq),C)
 |0,_,h=>by cases h
 |n+1,d,h=>by
  cases d<;>first|cases h|skip
  .rename_i i;have e:decide (i=i)=aq:=dW rfl;refine Qn (k:=2) (n:=2) (en:=[aa (.im (.int i)),aa (.im (.int i))]) (e1:=[aa (.im (.int i)),aa (.im (.int i))]) rfl rfl ?_ rfl rfl;simp_arith[Fy,j9,CV,qL,Ab,isNone,gO,CP,e]
  .rename_i z;have e:decide (z=z)=aq:=dW rfl;refine Qn (k:=2) (n:=2) (en:=[aa (.im (.str z)),aa (.im (.str z))]) (e1:=[aa (.im (.str z)),aa (.im (.str z))]) rfl rfl ?_ rfl rfl;simp_arith[Fy,j9,CV,qL,Ab,isNone,gO,CP,e]
  all_goals
   rename_i ds;unfold yQ at h;rw[j0] at h;have h1:(ds.length<=1000000)=True:=eq_true (by have:=of_decide_eq_true h.1;lia);have t:=ac7 (C:=C) ds λd m=>Fe n d (lB.mp h.2 d m)
   have b:=sU ds.length;have e:decide ((ds.length:Int)=ds.length)=aq:=dW rfl
  .refine Qn (k:=2) (n:=2) (en:=[aa (.im (.list ds)),aa (.im (.list ds))]) (e1:=[aa (.im (.list ds)),aa (.im (.list ds))]) rfl rfl ?_ rfl rfl;simp_arith[Fy,j9,CV,qL,Ab,isNone,gO,GD,ae2,t,b.1,b.2,qW,h1,e]
  .refine Qn (k:=2) (n:=2) (en:=[aa (.im (.tuple ds)),aa (.im (.tuple ds))]) (e1:=[aa (.im (.tuple ds)),aa (.im (.tuple ds))]) rfl rfl ?_ rfl rfl;simp_arith[Fy,j9,CV,qL,Ab,isNone,gO,GD,apJ (rfl:ds.length=ds.length),t,b.1,b.2,qW,h1,e]
def vo(rk:List fZ)(os:List Str)(rank bK:Int):List Str:=(mQ strLt (dedup (rk.map (·.2.1)))).filter λwho=>decide (rank<=Fx rk who os bK)
theorem aeb(rk:List fZ)(os:List Str)(rank bK:Int):(vo rk os rank bK).length<=rk.length:=by
 refine kI (zp _ _) ?_;rw[(Ej _).length_eq];refine kI (Eo _) ?_;rw[bD];exact bU _
section
variable{C:Ce}{zs:List Str}{ps:List (Str×Str)}{ht:mO}(hN:Names zs)(hP:jV zs ps)(hG:uX zs ps ht)
include hN hP hG
theorem alN(rank:Int)(z:Str)(bK:Int):Mq [.im (eE ht),.im (.int rank),.im (.str z),.im (.int bK)] C=aa (.ow (.list ((vo ht.ranks (up ps z) rank bK).map .str)),C):=by
 have Ks:=hG.r20;have t1:dM .one cz Sh [] (ht.ranks.map bV) C=aa ((ht.ranks.map (·.2.1)).map .str,C):=by
  have:=nG (T:=.one) (ft:=cz) (fe:=Sh) (fs:=[]) (C:=C) bV (λ_=>aq) (λr=>.str r.2.1) (l:=ht.ranks) λr _=>⟨[bV r],rfl,rfl,λ_=>⟨.im (.str r.2.1),_,by simp_arith[cI,mj];rfl,rfl⟩⟩
  rw[tY.mpr λ_ _=>rfl] at this;rw[fj];exact this
 have t2:N5 ((ht.ranks.map (·.2.1)).map .str)=aa ((mQ strLt (dedup (ht.ranks.map (·.2.1)))).map .str):=by
  unfold N5;rw[bC (by rw[bD,bD];lia),UL]
 have t3:dM .one aaZ aa0 [aa (.im (eE ht)),aa (.im (.str z)),aa (.im (.int bK)),aa (.im (.int rank))] ((mQ strLt (dedup (ht.ranks.map (·.2.1)))).map .str) C=aa ((vo ht.ranks (up ps z) rank bK).map .str,C):=by
  refine nG gh (λwho=>decide (rank<=Fx ht.ranks who (up ps z) bK)) gh λwho _=>⟨[.str who],rfl,?_,λ_=>⟨.im (.str who),_,rfl,rfl⟩⟩
  simp_arith[cI,iu,gm,acr hN hP hG who z bK]
 have hl:=aeb ht.ranks (up ps z) rank bK;have h2:((vo ht.ranks (up ps z) rank bK).length<=1000000)=True:=eqT;refine fW [aa (.im (eE ht)),aa (.im (.int rank)),aa (.im (.str z)),aa (.im (.int bK)),ao] rfl rfl ?_ rfl rfl;simp_arith[T4,Kg,t1,t2,t3,h2]
end
theorem asO(hne:a≠b)(h:strLt b a=aA):strLt a b=aq:=by
 cases e:strLt a b with
 |true=>rfl
 |false=>
  have:=Pg (a:=.inr a) (b:=.inr b) rfl e h;exact absurd (Ua this) hne
theorem aj2(ps:List (Str×Str))(h8:ps.length<=60)(nd:(ps.map (·.1)).Nodup):∃ps':List (Str×Str),ps'.Perm ps/\(ps'.map (·.1)).Pairwise (λa b=>strLt a b=aq)/\oO [.list (ps.map bZ)]=aa (.ow (.list (ps'.map bZ))):=by
 cases ps with
 |nil=>exact⟨[],xK _,uO,rfl⟩
 |cons r rs=>
  have hall:(((r::rs).map bZ).all λp=>decide (tL p=aa [aA,aA]))=aq:=by
   rw[lB];intro p hp
   obtain⟨q,_,rfl⟩:=cY.mp hp
   exact dW rfl
  have hs:yD ((r::rs).map bZ)=aa (qM ((r::rs).map bZ)):=by
   unfold yD;rw[bC (by rw[bD];lia),show intsOf ((r::rs).map bZ)=ao from rfl,show strsOf ((r::rs).map bZ)=ao from rfl]
   show(if(((r::rs).map bZ).all λp=>decide (tL p=aa [aA,aA]))=aq then aa (qM ((r::rs).map bZ)) else ao)=_
   exact bC hall
  obtain⟨ps',p1,p2⟩:=abD (acR (ds:=(r::rs).map bZ) λd hd=>by obtain⟨p,_,rfl⟩:=cY.mp hd;rfl)
  have Kr:(ps'.map (·.1)).Nodup:=(p1.map (·.1)).nodup_iff.mpr nd;have ek:ps'.map (λx=>([.inr x.1,.inr x.2]:List Key))=pM (((r::rs).map bZ).map yC):=by
   have e1:(ps'.map bZ).map yC=ps'.map (λx=>([.inr x.1,.inr x.2]:List Key)):=by
    rw[fj];exact vO λx _=>rfl
   have e2:(qM ((r::rs).map bZ)).map yC=pM (((r::rs).map bZ).map yC):=by
    unfold qM;rw[fj]
    refine(vO λk _=>?_).trans (Mt _)
    show(keysOf (k.map oY)).getD []=k
    rw[NZ];rfl
   rw[<-e1,<-p2,e2]
  have up:=ae5 (ks:=((r::rs).map bZ).map yC) (sh:=[aA,aA]) λk hk=>by
   obtain⟨d,hd,rfl⟩:=cY.mp hk
   obtain⟨x,_,rfl⟩:=cY.mp hd
   rfl
  rw[<-ek,tZ] at up
  refine⟨ps',p1,?_,?_⟩
  .rw[tZ];have GR:ps'.Pairwise λa b=>a.1≠b.1:=tZ.mp Kr
   refine(up.and GR).imp λ{x y} hxy=>asO hxy.2 ?_
   have:=hxy.1;unfold eF at this;rw[bB (λz=>hxy.2 (Ua z).symm)] at this;exact this
  .unfold oO zM;simp only[hs,p2,lC]
theorem acv:∀ru:List cR,Dh (ru.map bR)=aa (ru.map jo)
 |[]=>rfl
 |r::ru=>by
  show((YJ (bR r)).bind λk=>(Dh (ru.map bR)).map λt=>k::t)=_
  rw[acv ru];rfl
theorem aj3(r:cR)(ru:List cR)(h10:ru.length<60)(nd:((r::ru).map jo).Nodup):∃lz:List cR,lz.Perm (r::ru)/\(lz.map jo).Pairwise (λa b=>eF a b=aq)/\O2 [.list ((r::ru).map bR)]=aa (.ow (.list (lz.map bR))):=by
 have ty:∀k∈(r::ru).map jo,k.map cA=[aA,aq]:=λk hk=>by
  obtain⟨x,_,rfl⟩:=cY.mp hk
  rfl
 have hlt:∀i∈nA ((r::ru).map jo),i<(r::ru).length:=λi hi=>by
  have:=qZ.mp ((M8 _).mem_iff.mp hi);rw[bD] at this;exact this
 have pm:((nA ((r::ru).map jo)).map λi=>(r::ru).getD i r).Perm (r::ru):=by
  have:=(M8 ((r::ru).map jo)).map λi=>(r::ru).getD i r
  refine this.trans (aaR ?_);refine DK bF λi h1 h2=>?_
  rw[Ay,List.getElem_range,zj,fU h2];rfl
 have ek:((nA ((r::ru).map jo)).map λi=>(r::ru).getD i r).map jo=pM ((r::ru).map jo):=by
  unfold pM;rw[fj];refine vO λi hi=>?_
  have:=hlt i hi;show jo ((r::ru).getD i r)=((r::ru).map jo).getD i _;rw[zj,zj,jC,fU this];rfl
 have ed:QH ((r::ru).map jo) ((r::ru).map bR)=((nA ((r::ru).map jo)).map λi=>(r::ru).getD i r).map bR:=by
  unfold QH;rw[fj];refine vO λi hi=>?_
  have:=hlt i hi
  show((r::ru).map bR).getD i .none=bR ((r::ru).getD i r)
  rw[zj,zj,jC,fU this];rfl
 have up:=ae5 ty;rw[<-ek] at up
 refine⟨_,pm,?_,?_⟩
 .have Kr:=(pm.map jo).nodup_iff.mpr nd;have GR:(((nA ((r::ru).map jo)).map λi=>(r::ru).getD i r).map jo).Pairwise λa b=>a≠b:=Kr
  refine(av6.mp (up.and GR)).imp λ{a b} h=>?_
  obtain⟨ha,hb,h1,h2⟩:=h
  have ta:=ty a ((pm.map jo).mem_iff.mp ha);have tb:=ty b ((pm.map jo).mem_iff.mp hb);cases e:eF a b with
  |true=>rfl
  |false=>exact absurd (afx (ta.trans tb.symm) e h1) h2
 .have ha:((ru.map jo).length<63/\((ru.map jo).all λk=>decide (k.map cA=(jo r).map cA))=aq)/\(jo r::ru.map jo).Nodup:=by
   refine⟨⟨by rw[bD];lia,?_⟩,nd⟩
   rw[lB];intro k hk;exact dW ((ty k (fQ _ hk)).trans rfl)
  show((Dh ((r::ru).map bR)).bind λks=>_)=_
  rw[acv]
  show(if((ru.map jo).length<63/\((ru.map jo).all λk=>decide (k.map cA=(jo r).map cA))=aq)/\(jo r::ru.map jo).Nodup then aa (Vl.ow (.list (QH ((r::ru).map jo) ((r::ru).map bR)))) else ao)=_
  rw[bC ha,ed]
theorem aec(ds:List aB)(n:Nat):qN ds ao (aa (n:Int))=ds.take n:=by
 unfold qN;rw[show HT.cQ ds.length 0 ao=0 from rfl,show HT.cQ ds.length ds.length (aa (n:Int))=min n ds.length from HT.Wx _ _ n,List.drop_zero,Nat.sub_zero,<-List.take_eq_take_min]
theorem aop(ds:List aB)(n:Nat):qN ds (aa (n:Int)) ao=ds.drop n:=by
 unfold qN;rw[show HT.cQ ds.length 0 (aa (n:Int))=min n ds.length from HT.Wx _ _ n,show HT.cQ ds.length ds.length ao=ds.length from rfl];by_cases h:n<=ds.length
 .rw[aju h,Rm (by rw[t7];exact bU _)]
 .rw[Nat.min_eq_right az,ah5 (bU _),ah5 az];exact List.take_nil
theorem yf{α:Type}(D:α->aB)(l:List α)(h:0<=k):zb ao (aa k) (.list (l.map D))=aa (.ow (.list ((l.take k.toNat).map D))):=by
 obtain⟨n,rfl⟩:=Rj h
 show aa (Vl.ow (.list (qN (l.map D) ao (aa (n:Int)))))=_;rw[aec,Tg];rfl
theorem O8{α:Type}(D:α->aB)(l:List α)(h:0<=k):zb (aa k) ao (.list (l.map D))=aa (.ow (.list ((l.drop k.toNat).map D))):=by
 obtain⟨n,rfl⟩:=Rj h
 show aa (Vl.ow (.list (qN (l.map D) (aa (n:Int)) ao)))=_;rw[aop,aj4];rfl
theorem aoq(ss:List nR)(h:0<=k):zb ao (aa k) (fJ ss)=aa (.im (fJ (ss.take k.toNat))):=by
 obtain⟨n,rfl⟩:=Rj h
 show aa (Vl.im (.tuple (qN (ss.map gA) ao (aa (n:Int)))))=_;rw[aec];unfold fJ;rw[Tg];rfl
theorem aqa{α:Type}(D:α->aB)(l:List α):zb (aa (-1)) ao (.list (l.map D))=aa (.ow (.list ((l.drop (l.length-1)).map D))):=by
 show aa (Vl.ow (.list (qN (l.map D) (aa (-1)) ao)))=_;unfold qN;rw[show HT.cQ (l.map D).length 0 (aa (-1))=((-1:Int)+((l.map D).length:Int)).toNat from rfl,show HT.cQ (l.map D).length (l.map D).length ao=(l.map D).length from rfl,bD,show((-1:Int)+(l.length:Int)).toNat=l.length-1 by lia,Rm (by rw[t7,bD];exact bU _),aj4]
theorem ac8{α:Type}(D:α->aB):∀(l:List α)(n:Nat),(l.map D).eraseIdx n=(l.eraseIdx n).map D
 |[],_=>rfl
 |_::_,0=>rfl
 |x::l,n+1=>congrArg (D x::·) (ac8 D l n)
theorem acw{α:Type}:∀{l:List α}{n:Nat}{x:α},l[n]?=aa x->(x::l.eraseIdx n).Perm l
 |[],_,_,h=>by cases h
 |y::l,0,x,h=>by cases h;exact .refl _
 |y::l,n+1,x,h=>(Sv y x _).trans ((acw (l:=l) (n:=n) h).cons y)
abbrev jP(b:Nat)(zs:List Str)(v2 v3 v4 v5 v6 v7 v8 v9 v10 v11 cU dw cV cW:Option Vl):En:=[aa (.ce b),aa (.im (.list (zs.map .str))),v2,v3,v4,v5,v6,v7,v8,v9,v10,v11,cU,dw,cV,cW]
section
variable{v2 v3 v4 v5 v6 v7 v8 v9 v10 v11 cU dw cV cW:Option Vl}
theorem alO{xs:List Str}(h8:xs.length=8)(h:Bf L C b (j+8)):∃(od:List Str)(w4 w5:Option Vl)(C':Ce),jW (bY 5) MF (kZ 0 8) (jP b zs v2 (aa (.ow (.list []))) (aa (.ow (.list (xs.map .str)))) v5 v6 v7 v8 v9 v10 v11 cU dw cV cW) C=aa (.nx,jP b zs v2 (aa (.ow (.list (od.map .str)))) w4 w5 v6 v7 v8 v9 v10 v11 cU dw cV cW,C')/\od.Perm xs/\Bf L C' b j:=by
 obtain⟨aW,C',e,od,lf,w5,he,h1,h2,hp,hB⟩:=uV (g:=bY 5) (body:=MF) (aK:=kZ 0 8) (aj:=jP b zs v2 (aa (.ow (.list []))) (aa (.ow (.list (xs.map .str)))) v5 v6 v7 v8 v9 v10 v11 cU dw cV cW) (C:=C)
  (λi aj C1=>∃(od lf:List Str)(w5:Option Vl),aj=jP b zs v2 (aa (.ow (.list (od.map .str)))) (aa (.ow (.list (lf.map .str)))) w5 v6 v7 v8 v9 v10 v11 cU dw cV cW/\od.length=i/\lf.length+i=8/\(od++lf).Perm xs/\Bf L C1 b (j+(8-i)))
  ⟨[],xs,v5,rfl,rfl,h8,.refl _,h⟩ (λi d aj C1 hd hI=>by
   obtain⟨od,lf,w5,rfl,h1,h2,hp,hB⟩:=hI
   obtain⟨rfl,hi⟩:=zV hd
   rw[afR j (by lia:i<8)] at hB
   obtain⟨t,C2,e1,t0,t1,oJ⟩:=kO (m:=(lf.length:Int)) hB az az
   have hk:t.toNat<lf.length:=az;have q1:(lf.map gh)[t.toNat]?=aa (.str lf[t.toNat]):=by rw[jC,fU hk];rfl
   have q2:(lf.map gh).eraseIdx t.toNat=(lf.eraseIdx t.toNat).map .str:=ac8 _ _ _;have pm:(lf[t.toNat]::lf.eraseIdx t.toNat).Perm lf:=acw (fU hk);have ll:(lf.eraseIdx t.toNat).length=lf.length-1:=List.length_eraseIdx_of_lt hk;have g1:(0<=t/\t<((1000000:Nat):Int))=True:=eq_true ⟨t0,az⟩;have g2:(od.length<1000000)=True:=eqT
   refine⟨_,.nx,jP b zs v2 (aa (.ow (.list ((od++[lf[t.toNat]]).map .str)))) (aa (.ow (.list ((lf.eraseIdx t.toNat).map .str)))) (aa (.im (.int (0+i)))) v6 v7 v8 v9 v10 v11 cU dw cV cW,C2,rfl,?_,.inl rfl,od++[lf[t.toNat]],lf.eraseIdx t.toNat,_,rfl,by simp[h1],by rw[ll];lia,?_,oJ⟩
   .rw[j4];simp_arith[MF,jP,Yj,Dg,e1,g1,q1,g2,q2,ne_eq,not_false_eq_true,Nat.reduceEqDiff]
   .rw[qX]
    exact((pm.append_left od).trans (.refl _)).trans hp)
 subst he;have e0:lf=[]:=ZW.mp (by rw[show(kZ 0 8).length=8 from zN 0 8] at h2;lia);subst e0;rw[mj] at hp
 exact⟨od,_,w5,C',e,hp,hB⟩
end
def cJ(row:Int)(od:List Str):List (Str×Str):=match od with
 |[a,b,c,d,e,f,g,h]=>if row=0 then[(a,bI ""),(b,a),(c,a),(d,a),(e,a),(f,a),(g,a),(h,a)] else[(a,bI ""),(b,a),(c,b),(d,c),(e,d),(f,e),(g,f),(h,g)]
 |_=>[]
theorem Dt{od:List Str}(h:od.length=8):∃a b c d e f g i,od=[a,b,c,d,e,f,g,i]:=by
 match od,h with
 |[a,b,c,d,e,f,g,i],_=>exact⟨a,b,c,d,e,f,g,i,rfl⟩
theorem aqb(h:od.length=8)(hr:row=0\/row=1):dM .one cz abT [aa (.im (.list (od.map .str))),aa (.im (.int row))] (kZ 0 8) C=aa ((cJ row od).map bZ,C):=by
 obtain⟨a,b,c,d,e,f,g,i,rfl⟩:=Dt h
 rcases hr with rfl|rfl
 .rfl
 .rfl
theorem ae8(h:od.length=8):(cJ row od).map (·.1)=od:=by
 obtain⟨a,b,c,d,e,f,g,i,rfl⟩:=Dt h
 unfold cJ;simp only;split<;>rfl
theorem afY(h:od.length=8):(cJ row od).length=8:=by
 have:=congrArg vY (ae8 (row:=row) h);rw[bD] at this;lia
theorem asQ(h:od.length=8):jV (od++more) (cJ row od):=by
 obtain⟨a,b,c,d,e,f,g,k,rfl⟩:=Dt h
 unfold cJ;simp only;split
 .intro i x hx
  match i,hx with
  |0,hx=>cases hx;exact⟨rfl,.inl rfl⟩
  |1,hx=>cases hx;exact⟨rfl,.inr ⟨0,az,rfl⟩⟩
  |2,hx=>cases hx;exact⟨rfl,.inr ⟨0,az,rfl⟩⟩
  |3,hx=>cases hx;exact⟨rfl,.inr ⟨0,az,rfl⟩⟩
  |4,hx=>cases hx;exact⟨rfl,.inr ⟨0,az,rfl⟩⟩
  |5,hx=>cases hx;exact⟨rfl,.inr ⟨0,az,rfl⟩⟩
  |6,hx=>cases hx;exact⟨rfl,.inr ⟨0,az,rfl⟩⟩
  |7,hx=>cases hx;exact⟨rfl,.inr ⟨0,az,rfl⟩⟩
  |n+8,hx=>cases hx
 .intro i x hx
  match i,hx with
  |0,hx=>cases hx;exact⟨rfl,.inl rfl⟩
  |1,hx=>cases hx;exact⟨rfl,.inr ⟨0,az,rfl⟩⟩
  |2,hx=>cases hx;exact⟨rfl,.inr ⟨1,az,rfl⟩⟩
  |3,hx=>cases hx;exact⟨rfl,.inr ⟨2,az,rfl⟩⟩
  |4,hx=>cases hx;exact⟨rfl,.inr ⟨3,az,rfl⟩⟩
  |5,hx=>cases hx;exact⟨rfl,.inr ⟨4,az,rfl⟩⟩
  |6,hx=>cases hx;exact⟨rfl,.inr ⟨5,az,rfl⟩⟩
  |7,hx=>cases hx;exact⟨rfl,.inr ⟨6,az,rfl⟩⟩
  |n+8,hx=>cases hx
section
variable{b L j:Nat}{zs od:List Str}{v2 v4 v5 v6 v7 v8 v9 v10 v11 cU dw cV cW:Option Vl}(h9:zs.length=9)(h8:od.length=8)
include h9 h8
theorem amX(h:Bf L C b (j+6))(k0:0<=k)(k9:k<=100)(hl:rk.length<1000):
  ∃(r:fZ)(w10 w11:Option Vl)(C':Ce),Ih (jP b zs v2 (aa (.ow (.list (od.map .str)))) v4 (aa (.im (.int k))) v6 (aa (.ow (.list (rk.map bV)))) v8 v9 v10 v11 cU dw cV cW) C=aa (.nx,jP b zs v2 (aa (.ow (.list (od.map .str)))) v4 (aa (.im (.int k))) v6 (aa (.ow (.list ((rk++[r]).map bV)))) v8 v9 w10 w11 cU dw cV cW,C')/\mD zs od r/\r.1=3*k/\Bf L C' b j:=by
 refine hide λGG gg=>?_
 obtain⟨d1,C1,e1,a1,b1,oJ⟩:=kO (m:=100000) h bA bA
 obtain⟨d2,C2,e2,a2,b2,hB2⟩:=kO (m:=100000) oJ bA bA
 obtain⟨u,C3,e3,a3,b3,hB3⟩:=kO (m:=2) hB2 bA bA
 obtain⟨d3,i3,x3,y3⟩:∃d3:Int,gF [pA 99999,.int d2] u=aa (.int d3)/\0<=d3/\d3<=99999:=by
  obtain rfl|rfl:u=0\/u=1:=az
  .exact⟨99999,rfl,az,az⟩
  .exact⟨d2,rfl,az,az⟩
 obtain⟨lo,hi,es,h1,h2,h3⟩:=ago d1 d3
 obtain⟨k1,C4,e4,a4,b4,xH⟩:=kO (m:=9) hB3 bA bA
 obtain⟨who,m1,_,i1⟩:=BR (zs:=zs) a4 az
 obtain⟨k2,C5,e5,a5,b5,Ar⟩:=kO (m:=9) xH bA bA
 obtain⟨k3,C6,e6,a6,b6,Kq⟩:=kO (m:=8) Ar bA bA
 obtain⟨wh,m2,_,i2⟩:=BR (zs:=od) a6 az
 have mu:pX (.int 3) (.int k)=aa (.im (.int (3*k))):=mul_eq (.inl az);have t1:cD (.tuple [.int (3*k)]) (.tuple [.str who,.int (1+k2),.str wh])=aa (.im (.tuple [.int (3*k),.str who,.int (1+k2),.str wh])):=JC (by show 1+3<=_;lia);have t2:cD (.tuple [.int (3*k),.str who,.int (1+k2),.str wh]) (.tuple [.int lo,.int hi])=aa (.im (bV (3*k,who,1+k2,wh,lo,hi))):=JC (by show 4+2<=_;lia);have g:(rk.length<1000000)=True:=eqT;refine gg ⟨(3*k,who,1+k2,wh,lo,hi),aa (.ow (.list [.int lo,.int hi])),aa (.im (.tuple [.str who,.int (1+k2),.str wh])),C6,?_,⟨⟨by show 0<=3*k;lia,by show 3*k<=2000;lia⟩,m1,⟨by show 1<=1+k2;lia,by show 1+k2<=9;lia⟩,m2,⟨by show 0<=lo;lia,h1,by show hi<=99999;lia⟩⟩,rfl,Kq⟩;rw[j4];simp_arith[Ih,jP,e1,e2,e3,i3,es,e4,i1,e5,e6,i2,mu,t1,t2,g,xm,CT]
theorem alP(hz:zs.Nodup)(h:Bf L C b (j+6))(k0:0<=k)(k9:k<=100)(hl:lv.length<1000):
  ∃(r:j8)(w10 w12 w13 w14:Option Vl)(C':Ce),Ig (jP b zs v2 (aa (.ow (.list (od.map .str)))) v4 (aa (.im (.int k))) v6 v7 (aa (.ow (.list (lv.map cX)))) v9 v10 v11 cU dw cV cW) C=aa (.nx,jP b zs v2 (aa (.ow (.list (od.map .str)))) v4 (aa (.im (.int k))) v6 v7 (aa (.ow (.list ((lv++[r]).map cX)))) v9 w10 v11 w12 w13 w14 cW,C')/\mC zs od r/\r.1=2*k/\Bf L C' b j:=by
 refine hide λGG gg=>?_
 obtain⟨d1,C1,e1,a1,b1,oJ⟩:=kO (m:=100000) h bA bA
 obtain⟨d2,C2,e2,a2,b2,hB2⟩:=kO (m:=100000) oJ bA bA
 obtain⟨lo,hi,es,h1,h2,h3⟩:=ago d1 d2
 obtain⟨k1,C3,e3,a3,b3,hB3⟩:=kO (m:=9) hB2 bA bA
 obtain⟨gv,m1,n1,i1⟩:=BR (zs:=zs) a3 az
 obtain⟨k2,C4,e4,a4,b4,xH⟩:=kO (m:=8) hB3 bA bA
 have md:=mod_eq (i:=k1+1+k2) (j:=9) az
 obtain⟨q,qe,q0,q9,qn⟩:∃q:Int,(k1+1+k2)%9=q/\0<=q/\q<9/\q≠k1:=⟨_,rfl,az,az,az⟩
 rw[qe] at md
 obtain⟨tk,m2,n2,i2⟩:=BR (zs:=zs) q0 az
 have ne:gv≠tk:=λz=>by
  subst z;have o1:k1.toNat<zs.length:=az;have o2:q.toNat<zs.length:=az;rw[fU o1] at n1;rw[fU o2] at n2;have:=(aiX (h₀:=o1) (h₁:=o2) hz).mp ((jj n1).trans (jj n2).symm);lia
 obtain⟨k3,C5,e5,a5,b5,Ar⟩:=kO (m:=8) xH bA bA
 obtain⟨wh,m3,_,i3⟩:=BR (zs:=od) a5 az
 obtain⟨k4,C6,e6,a6,b6,Kq⟩:=kO (m:=1000000000) Ar bA bA
 have pw:tG (.int 10) (.int 9)=aa (.im (.int 1000000000)):=by rfl
 have mu:pX (.int 2) (.int k)=aa (.im (.int (2*k))):=mul_eq (.inl az);have t1:cD (.tuple [.int (2*k)]) (.tuple [.str gv,.str tk])=aa (.im (.tuple [.int (2*k),.str gv,.str tk])):=JC (by show 1+2<=_;lia);have t2:cD (.tuple [.int (2*k),.str gv,.str tk]) (.tuple [.str wh,.int lo,.int hi,.int (1000000000-k4)])=aa (.im (cX (2*k,gv,tk,wh,lo,hi,1000000000-k4))):=JC (by show 3+4<=_;lia);have g:(lv.length<1000000)=True:=eqT;refine gg ⟨(2*k,gv,tk,wh,lo,hi,1000000000-k4),aa (.ow (.list [.int lo,.int hi])),aa (.im (.int k1)),aa (.im (.tuple [.str gv,.str tk])),aa (.im (.str wh)),C6,?_,⟨⟨by show 0<=2*k;lia,by show 2*k<=2000;lia⟩,m1,m2,ne,m3,⟨by show 0<=lo;lia,h1,by show hi<=99999;lia⟩,⟨by show 0<=1000000000-k4;lia,by show 1000000000-k4<=1000000000;lia⟩⟩,rfl,Kq⟩;rw[j4];simp_arith[Ig,jP,e1,e2,es,e3,i1,e4,md,i2,e5,i3,e6,pw,mu,t1,t2,g,xm,CT]
theorem alQ(h:Bf L C b (j+120)):∃(rk:List fZ)(w5 w10 w11:Option Vl)(C':Ce),jW (bY 5) Ih (kZ 0 20) (jP b zs v2 (aa (.ow (.list (od.map .str)))) v4 v5 v6 (aa (.ow (.list []))) v8 v9 v10 v11 cU dw cV cW) C=aa (.nx,jP b zs v2 (aa (.ow (.list (od.map .str)))) v4 w5 v6 (aa (.ow (.list (rk.map bV)))) v8 v9 w10 w11 cU dw cV cW,C')/\rk.length=20/\(∀r∈rk,mD zs od r)/\rk.map (·.1)=(dh 20).map (λi:Nat=>3*(i:Int))/\Bf L C' b j:=by
 obtain⟨aW,C',e,rk,w5,w10,w11,he,hl,hR,hm,hB⟩:=uV (g:=bY 5) (body:=Ih) (aK:=kZ 0 20) (aj:=jP b zs v2 (aa (.ow (.list (od.map .str)))) v4 v5 v6 (aa (.ow (.list []))) v8 v9 v10 v11 cU dw cV cW) (C:=C)
  (λi aj C1=>∃(rk:List fZ)(w5 w10 w11:Option Vl),aj=jP b zs v2 (aa (.ow (.list (od.map .str)))) v4 w5 v6 (aa (.ow (.list (rk.map bV)))) v8 v9 w10 w11 cU dw cV cW/\rk.length=i/\(∀r∈rk,mD zs od r)/\rk.map (·.1)=(dh i).map (λi:Nat=>3*(i:Int))/\Bf L C1 b (j+6*(20-i)))
  ⟨[],v5,v10,v11,rfl,rfl,(λ_ m=>nomatch m),rfl,h⟩ (λi d aj C1 hd hI=>by
   obtain⟨rk,w5,w10,w11,rfl,hl,hR,hm,hB⟩:=hI
   obtain⟨rfl,hi⟩:=zV hd
   rw[JD j 6 (by lia:i<20)] at hB
   obtain⟨r,iK,Ku,C2,e,ro,rn,hB2⟩:=amX (v2:=v2) (v4:=v4) (v6:=v6) (v8:=v8) (v9:=v9) (v10:=w10) (v11:=w11) (cU:=cU) (dw:=dw) (cV:=cV) (cW:=cW) (k:=0+(i:Int)) (rk:=rk) h9 h8 hB az az az
   refine⟨_,.nx,_,C2,rfl,e,.inl rfl,rk++[r],_,iK,Ku,rfl,by simp[hl],λx hx=>?_,?_,hB2⟩
   .rcases eO.mp hx with hx|hx
    .exact hR x hx
    .rw[gU.mp hx];exact ro
   .rw[j4,hm,R4,j4];show _++[r.1]=_++[3*(i:Int)]
    rw[rn,akF])
 subst he;rw[zN] at hl hm hB
 exact⟨rk,w5,w10,w11,C',e,hl,hR,hm,hB⟩
theorem ak4(hz:zs.Nodup)(h:Bf L C b (j+96)):∃(lv:List j8)(w5 w10 w12 w13 w14:Option Vl)(C':Ce),jW (bY 5) Ig (kZ 0 16) (jP b zs v2 (aa (.ow (.list (od.map .str)))) v4 v5 v6 v7 (aa (.ow (.list []))) v9 v10 v11 cU dw cV cW) C=aa (.nx,jP b zs v2 (aa (.ow (.list (od.map .str)))) v4 w5 v6 v7 (aa (.ow (.list (lv.map cX)))) v9 w10 v11 w12 w13 w14 cW,C')/\lv.length=16/\(∀r∈lv,mC zs od r)/\lv.map (·.1)=(dh 16).map (λi:Nat=>2*(i:Int))/\Bf L C' b j:=by
 obtain⟨aW,C',e,lv,w5,w10,w12,w13,w14,he,hl,hR,hm,hB⟩:=uV (g:=bY 5) (body:=Ig) (aK:=kZ 0 16) (aj:=jP b zs v2 (aa (.ow (.list (od.map .str)))) v4 v5 v6 v7 (aa (.ow (.list []))) v9 v10 v11 cU dw cV cW) (C:=C)
  (λi aj C1=>∃(lv:List j8)(w5 w10 w12 w13 w14:Option Vl),aj=jP b zs v2 (aa (.ow (.list (od.map .str)))) v4 w5 v6 v7 (aa (.ow (.list (lv.map cX)))) v9 w10 v11 w12 w13 w14 cW/\lv.length=i/\(∀r∈lv,mC zs od r)/\lv.map (·.1)=(dh i).map (λi:Nat=>2*(i:Int))/\Bf L C1 b (j+6*(16-i)))
  ⟨[],v5,v10,cU,dw,cV,rfl,rfl,(λ_ m=>nomatch m),rfl,h⟩ (λi d aj C1 hd hI=>by
   obtain⟨lv,w5,w10,w12,w13,w14,rfl,hl,hR,hm,hB⟩:=hI
   obtain⟨rfl,hi⟩:=zV hd
   rw[JD j 6 (by lia:i<16)] at hB
   obtain⟨r,iK,Kv,Kw,Ky,C2,e,ro,rn,hB2⟩:=alP (v2:=v2) (v4:=v4) (v6:=v6) (v7:=v7) (v9:=v9) (v10:=w10) (v11:=v11) (cU:=w12) (dw:=w13) (cV:=w14) (cW:=cW) (k:=0+(i:Int)) (lv:=lv) h9 h8 hz hB az az az
   refine⟨_,.nx,_,C2,rfl,e,.inl rfl,lv++[r],_,iK,Kv,Kw,Ky,rfl,by simp[hl],λx hx=>?_,?_,hB2⟩
   .rcases eO.mp hx with hx|hx
    .exact hR x hx
    .rw[gU.mp hx];exact ro
   .rw[j4,hm,R4,j4];show _++[r.1]=_++[2*(i:Int)]
    rw[rn,akF])
 subst he;rw[zN] at hl hm hB
 exact⟨lv,w5,w10,w12,w13,w14,C',e,hl,hR,hm,hB⟩
end
theorem alR(h8:od.length=8)(h:Bf L C b (j+12)):
  ∃(ss:List nR)(C':Ce),dM .one cz Uk [aa (.ce b),aa (.im (.list (od.map .str)))] (kZ 0 6) C=aa (ss.map gA,C')/\ss.length=6/\(∀s∈ss,PB od s)/\Bf L C' b j:=by
 obtain⟨ys,C',e,hB,hl,hr⟩:=Nf (T:=.one) (fe:=Uk) (fs:=[aa (.ce b),aa (.im (.list (od.map .str)))]) (λi C1=>Bf L C1 b (j+2*(6-i))) (λ_ y=>∃s:nR,y=gA s/\PB od s) (aK:=kZ 0 6) (C:=C) (k:=0) h (λi d C1 hd hB=>by
  obtain⟨rfl,hi⟩:=zV hd
  rw[Ml] at hB⊢;rw[JD j 2 (by lia:i<6)] at hB
  obtain⟨k1,C2,e1,a1,b1,oJ⟩:=kO (m:=9) hB bA bA
  obtain⟨k2,C3,e2,a2,b2,hB2⟩:=kO (m:=10) oJ bA bA
  have ad:cD (.list [.str (bI ""),.str (bI "")]) (.list (od.map .str))=aa (.ow (.list ([gh (bI ""),.str (bI "")]++od.map .str))):=add_l (by rw[bD];show 2+od.length<=_;lia)
  obtain⟨pt,mp,_,ip⟩:=BR (zs:=bI ""::bI ""::od) (k:=k2) a2 (by rw[fY,fY];lia)
  rw[dU,dU] at ip
  refine⟨_,.im (gA (1+k1,pt)),[aa (.im (.int (0+i))),aa (.ce b),aa (.im (.list (od.map .str)))],C3,gA (1+k1,pt),rfl,?_,rfl,⟨_,rfl,by show 1<=1+k1;lia,by show 1+k1<=9;lia,?_⟩,hB2⟩
  .simp_arith[cI,iu,gm,e1,e2,ad,ip,gA]
  .rcases cg.mp mp with e|mp
   .exact .inl e
   .rcases cg.mp mp with e|mp
    .exact .inl e
    .exact .inr mp)
 rw[zN] at hB hl
 obtain⟨ss,rfl,hs⟩:∃ss:List nR,ys=ss.map gA/\∀s∈ss,PB od s:=by
  clear e hl hB;induction ys with
  |nil=>exact⟨[],rfl,λ_ m=>(nomatch m)⟩
  |cons y ys ih=>
   obtain⟨s,rfl,hs⟩:=hr 0 y rfl
   obtain⟨ss,rfl,h2⟩:=ih λi z hz=>hr (i+1) z (by simpa using hz)
   exact⟨s::ss,rfl,λx hx=>by
    rcases cg.mp hx with rfl|hx
    .exact hs
    .exact h2 x hx⟩
 exact⟨ss,C',e,by simpa using hl,hs,hB⟩
theorem aor(rs:List cR)(p:Str)(s:Int)(ss:List nR):0<(xr rs p s ss).length:=by
 unfold xr;split
 .rename_i h;cases rs with
  |nil=>cases h
  |cons _ _=>rw[bD];exact akG _
 .rw[gJ];exact akG _
theorem aos(h:∀r∈rs,1000<=r.2.1)(hs:1000<=s):∀r∈xr rs p s ss,1000<=r.2.1:=λr hr=>by
 unfold xr at hr;split at hr
 .obtain⟨q,hq,rfl⟩:=cY.mp hr
  have:=h q hq;split<;>exact this
 .rcases eO.mp hr with hr|hr
  .exact h r hr
  .rw[gU.mp hr];exact hs
section
variable{b L j:Nat}{zs od:List Str}{v2 v4 v5 v6 v7 v8 v9 v10 v11 cU dw cV cW:Option Vl}(h8:od.length=8)
include h8
theorem amY(h:Bf L C b (j+13))(k0:0<=k)(k9:k<=100)(hl:rs.length<1000)(hr:∀r∈rs,nJ od r)(hb:∀r∈rs,1000<=r.2.1)(nd:(rs.map kj).Nodup):
  ∃(rs':List cR)(w15:Option Vl)(C':Ce),Ie (jP b zs v2 (aa (.ow (.list (od.map .str)))) v4 (aa (.im (.int k))) v6 v7 v8 (aa (.ow (.dict (gq rs)))) v10 v11 cU dw cV cW) C=aa (.nx,jP b zs v2 (aa (.ow (.list (od.map .str)))) v4 (aa (.im (.int k))) v6 v7 v8 (aa (.ow (.dict (gq rs')))) v10 v11 cU dw cV w15,C')/\(∀r∈rs',nJ od r)/\(∀r∈rs',1000<=r.2.1)/\(rs'.map kj).Nodup/\rs'.length<=rs.length+1/\0<rs'.length/\Bf L C' b j:=by
 refine hide λGG gg=>?_
 obtain⟨ss,C1,e1,s6,hS,oJ⟩:=alR (j:=j+1) h8 h
 obtain⟨k1,C2,e2,a2,b2,hB2⟩:=kO (m:=3) oJ bA bA
 obtain⟨wh,m1,_,i1⟩:=BR (zs:=od) a2 az
 have pw:tG (.int 10) (.int 9)=aa (.im (.int 1000000000)):=by rfl
 have mu:pX (.int 7) (.int k)=aa (.im (.int (7*k))):=mul_eq (.inl az)
 obtain⟨p1,p2,p3⟩:=apC hr (p:=wh) (s:=1000000000-7*k) (ss:=ss) ⟨m1,⟨by show 0<=1000000000-7*k;lia,by show 1000000000-7*k<=1000000000;lia⟩,by show ss.length<=6;lia,hS⟩ nd
 have pk:=arh rs wh (1000000000-7*k) ss;have g:((gq rs).length<1000000)=True:=eq_true (by unfold gq;rw[bD];lia);have n1:=Ep ss;have g1:(ss.length<=1000000)=True:=eqT;refine gg ⟨_,aa (.ow (.list (ss.map gA))),C2,?_,p1,aos hb az,p2,p3,aor _ _ _ _,hB2⟩;unfold mG at pk;unfold fJ at pk;simp_arith[Ie,jP,oh,yO (m:=6) az az,show(6:Int).toNat=6 from rfl,e1,n1,g1,e2,i1,pw,mu,rF,vB,yz,pk,g]
theorem ak5(h:Bf L C b (j+130)):∃(rs:List cR)(w5 w15:Option Vl)(C':Ce),jW (bY 5) Ie (kZ 0 10) (jP b zs v2 (aa (.ow (.list (od.map .str)))) v4 v5 v6 v7 v8 (aa (.ow (.dict []))) v10 v11 cU dw cV cW) C=aa (.nx,jP b zs v2 (aa (.ow (.list (od.map .str)))) v4 w5 v6 v7 v8 (aa (.ow (.dict (gq rs)))) v10 v11 cU dw cV w15,C')/\(∀r∈rs,nJ od r)/\(∀r∈rs,1000<=r.2.1)/\(rs.map kj).Nodup/\rs.length<=10/\0<rs.length/\Bf L C' b j:=by
 obtain⟨aW,C',e,rs,w5,w15,he,hR,hG,hN,hl,hp,hB⟩:=uV (g:=bY 5) (body:=Ie) (aK:=kZ 0 10) (aj:=jP b zs v2 (aa (.ow (.list (od.map .str)))) v4 v5 v6 v7 v8 (aa (.ow (.dict []))) v10 v11 cU dw cV cW) (C:=C)
  (λi aj C1=>∃(rs:List cR)(w5 w15:Option Vl),aj=jP b zs v2 (aa (.ow (.list (od.map .str)))) v4 w5 v6 v7 v8 (aa (.ow (.dict (gq rs)))) v10 v11 cU dw cV w15/\(∀r∈rs,nJ od r)/\(∀r∈rs,1000<=r.2.1)/\(rs.map kj).Nodup/\rs.length<=i/\(0<i->0<rs.length)/\Bf L C1 b (j+13*(10-i)))
  ⟨[],v5,cW,rfl,(λ_ m=>nomatch m),(λ_ m=>nomatch m),lJ,bU _,(λz=>absurd z (Bh _)),h⟩ (λi d aj C1 hd hI=>by
   obtain⟨rs,w5,w15,rfl,hR,hG,hN,hl,hp,hB⟩:=hI
   obtain⟨rfl,hi⟩:=zV hd
   rw[JD j 13 (by lia:i<10)] at hB
   obtain⟨rs',Kz,C2,e,q1,qg,q2,q3,q4,hB2⟩:=amY (zs:=zs) (v2:=v2) (v4:=v4) (v6:=v6) (v7:=v7) (v8:=v8) (v10:=v10) (v11:=v11) (cU:=cU) (dw:=dw) (cV:=cV) (cW:=w15) (k:=0+(i:Int)) (rs:=rs) h8 hB az az az hR hG hN
   exact⟨_,.nx,_,C2,rfl,e,.inl rfl,rs',_,Kz,rfl,q1,qg,q2,az,λ_=>q4,hB2⟩)
 subst he;rw[zN] at hl hp hB
 exact⟨rs,w5,w15,C',e,hR,hG,hN,hl,hp bA,hB⟩
end
theorem aot(hl:rs.length<=10)(hn:(rs.map kj).Nodup):
  ∃rs':List cR,rs'.Perm rs/\oO [.dict (gq rs)]=aa (.ow (.list (rs'.map λr=>mG r.1 r.2.1)))/\dM .one cz Uj [aa (.im (.dict (gq rs)))] (rs'.map λr=>mG r.1 r.2.1) C=aa (rs'.map bR,C):=by
 obtain⟨rs',p,e⟩:=apD rs hl
 refine⟨rs',p,e,?_⟩
 have:=nG (T:=.one) (ft:=cz) (fe:=Uj) (fs:=[aa (.im (.dict (gq rs)))]) (C:=C) (λr:cR=>mG r.1 r.2.1) (λ_=>aq) bR (l:=rs') λr hr=>⟨[mG r.1 r.2.1],rfl,rfl,λ_=>⟨.im (bR r),[aa (.im (mG r.1 r.2.1)),aa (.im (.dict (gq rs)))],by
  have i:=asF (p.mem_iff.mp hr) hn;unfold mG at i⊢;have a:cD (.tuple [.str r.1,.int r.2.1]) (.tuple [fJ r.2.2])=aa (.im (bR r)):=JC (by show 2+1<=_;lia);simp_arith[cI,iu,gm,i,a],rfl⟩⟩
 rw[tY.mpr λ_ _=>rfl] at this;exact this
structure Gr(zs od:List Str)(row:Int)(rk:List fZ)(lv:List j8)(ru:List cR):Prop where
 z9:zs.length=9
 names:Names zs
 Dt:od.length=8
 perm:od.Perm (zs.take 8)
 row:row=0\/row=1
 r20:rk.length=20
 ranks:∀r∈rk,mD zs od r
 atP:rk.map (·.1)=(dh 20).map (λi:Nat=>3*(i:Int))
 jq:lv.length=16
 leaves:∀r∈lv,mC zs od r
 atQ:lv.map (·.1)=(dh 16).map (λi:Nat=>2*(i:Int))
 rules:∀r∈ru,nJ od r
 unlike:(ru.map kj).Nodup
 iK:ru.length<=10
 u1:0<ru.length
 big:∀r∈ru,1000<=r.2.1
theorem aou(h9:zs.length=9)(hN:Names zs)(h:Bf L C b (j+400)):
  ∃(od:List Str)(row:Int)(rk:List fZ)(lv:List j8)(ru:List cR)(C':Ce),Oa [.ce b,.im (.list (zs.map .str))] C=aa (.im (.tuple [.list ((cJ row od).map bZ),.list (rk.map bV),.list (lv.map cX),.list (ru.map bR)]),C')/\Gr zs od row rk lv ru/\Bf L C' b j:=by
 refine hide λGG gg=>?_
 obtain⟨row,C1,e1,a1,b1,oJ⟩:=kO (m:=2) (k:=j+399) h bA bA
 have hr:row=0\/row=1:=az;have l8:(zs.take 8).length=8:=by rw[lZ];lia
 obtain⟨od,w4,w5,C2,e2,pm,hB2⟩:=alO (zs:=zs) (xs:=zs.take 8) (v2:=aa (.im (.int row))) (v5:=ao) (v6:=ao) (v7:=ao) (v8:=ao) (v9:=ao) (v10:=ao) (v11:=ao) (cU:=ao) (dw:=ao) (cV:=ao) (cW:=ao) (j:=j+391) l8 oJ
 have o8:od.length=8:=by rw[pm.length_eq];exact l8
 have pc:=aqb (C:=C2) o8 hr;have p8:=afY (row:=row) o8
 obtain⟨rk,x5,x10,x11,C3,e3,r20,hR,rn,hB3⟩:=alQ (zs:=zs) (v2:=aa (.im (.int row))) (v4:=w4) (v5:=w5) (v6:=aa (.ow (.list ((cJ row od).map bZ)))) (v8:=aa (.ow (.list []))) (v9:=aa (.ow (.dict []))) (v10:=ao) (v11:=ao) (cU:=ao) (dw:=ao) (cV:=ao) (cW:=ao) (j:=j+271) h9 o8 hB2
 obtain⟨lv,y5,y10,y12,y13,y14,C4,e4,jq,hL,ln,xH⟩:=ak4 (zs:=zs) (v2:=aa (.im (.int row))) (v4:=w4) (v5:=x5) (v6:=aa (.ow (.list ((cJ row od).map bZ)))) (v7:=aa (.ow (.list (rk.map bV)))) (v9:=aa (.ow (.dict []))) (v10:=x10) (v11:=x11) (cU:=ao) (dw:=ao) (cV:=ao) (cW:=ao) (j:=j+175) h9 o8 hN.1 hB3
 obtain⟨rs,z5,z15,C5,e5,hU,hbg,nd,iK,u1,Ar⟩:=ak5 (zs:=zs) (v2:=aa (.im (.int row))) (v4:=w4) (v5:=y5) (v6:=aa (.ow (.list ((cJ row od).map bZ)))) (v7:=aa (.ow (.list (rk.map bV)))) (v8:=aa (.ow (.list (lv.map cX)))) (v10:=y10) (v11:=x11) (cU:=y12) (dw:=y13) (cV:=y14) (cW:=ao) (j:=j+45) o8 xH
 obtain⟨ru,q1,eS,eK⟩:=aot (C:=C5) iK nd
 have t8:=yf gh zs (k:=8) bA;rw[show(8:Int).toNat=8 from rfl] at t8;have g3:(ru.length<=1000000)=True:=eq_true (by rw[q1.length_eq];lia);have n3:=Ni ru;have g4:((cJ row od).length<=1000000)=True:=eqT;have n4:ji ((cJ row od).map bZ)=aq:=tB (D:=bZ) (λ_=>rfl) _;refine gg ⟨od,row,rk,lv,ru,C5,fW (jP b zs ao ao ao ao ao ao ao ao ao ao ao ao ao ao) rfl rfl ?_ rfl (h.eq Ar),⟨h9,hN,o8,pm,hr,r20,hR,rn,jq,hL,ln,λr hr=>hU r (q1.mem_iff.mp hr),(q1.map kj).nodup_iff.mpr nd,by rw[q1.length_eq];exact iK,by rw[q1.length_eq];exact u1,λr hr=>hbg r (q1.mem_iff.mp hr)⟩,Ar.mono az⟩;simp only[jP] at e2 e3 e4 e5;simp_arith[Wl,jP,e1,jO,jN,jQ,t8,Oz,jX,oh,yO (m:=8) az az,yO (m:=20) az az,yO (m:=16) az az,yO (m:=10) az az,show(8:Int).toNat=8 from rfl,show(20:Int).toNat=20 from rfl,show(16:Int).toNat=16 from rfl,show(10:Int).toNat=10 from rfl,e2,pc,n4,g4,Cp,e3,e4,e5,eS,eK,g3,n3]
theorem arv{ru:List cR}(h:(ru.map kj).Nodup):(ru.map jo).Nodup:=
 tZ.mpr ((tZ.mp h).imp λ{a b} h e=>h (by
  have e:[(uY a.1:Key),.inl a.2.1]=[.inr b.1,.inl b.2.1]:=e;have e1:a.1=b.1:=by injection e with e1 _;injection e1
  have e2:a.2.1=b.2.1:=by injection e with _ e2;injection e2 with e2 _;injection e2
  show(a.1,a.2.1)=(b.1,b.2.1)
  rw[e1,e2]))
theorem aov(ru:List cR)(h:ru.length<60)(nd:(ru.map kj).Nodup):∃lz:List cR,lz.Perm ru/\(lz.map jo).Pairwise (λa b=>eF a b=aq)/\O3 [.list (ru.map bR)]=aa (.ow (.list (lz.map bR))):=by
 cases ru with
 |nil=>exact⟨[],.refl _,uO,rfl⟩
 |cons r ru=>
  obtain⟨lz,p,up,e⟩:=aj3 r ru (by rw[fY] at h;lia) (arv nd)
  refine⟨lz,p,up,?_⟩
  unfold O3;rw[e]
structure Mk(ps:List (Str×Str))(rk:List fZ)(lv:List j8)(ru:List cR)(ht:mO):Prop where
 parts:ht.ps.Perm ps
 up:(ht.ps.map (·.1)).Pairwise (λa b=>strLt a b=aq)
 ranks:ht.ranks=rk
 leaves:ht.leaves=lv
 rules:ht.rules.Perm ru
 Zz:(ht.rules.map jo).Pairwise (λa b=>eF a b=aq)
theorem yg(hp:ps.length<=60)(hr:rk.length<=60)(hv:lv.length<=60)(hu:ru.length<60)(np:(ps.map (·.1)).Nodup)(nu:(ru.map kj).Nodup):
  ∃ht:mO,yc [.im (.list (ps.map bZ)),.im (.list (rk.map bV)),.im (.list (lv.map cX)),.im (.list (ru.map bR))] C=aa (.im (eE ht),C)/\Mk ps rk lv ru ht:=by
 obtain⟨ps',p1,p2,e1⟩:=aj2 ps hp np
 obtain⟨lz,q1,q2,e2⟩:=aov ru hu nu
 refine⟨⟨ps',rk,lv,lz⟩,fW [aa (.im (.list (ps.map bZ))),aa (.im (.list (rk.map bV))),aa (.im (.list (lv.map cX))),aa (.im (.list (ru.map bR)))] rfl rfl ?_ rfl rfl,⟨p1,p2,rfl,rfl,q1,q2⟩⟩
 simp_arith[Wm,e1,e2,rF];rfl
theorem mD.own{zs own own':List Str}{r:fZ}(h:mD zs own r)(s:∀z,z∈own->z∈own'):mD zs own' r:=⟨h.num,h.who,h.rank,s _ h.part,h.days⟩
theorem mC.own{zs own own':List Str}{r:j8}(h:mC zs own r)(s:∀z,z∈own->z∈own'):mC zs own' r:=⟨h.num,h.giver,h.taker,h.ne,s _ h.part,h.days,h.most⟩
theorem nJ.own{own own':List Str}{r:cR}(h:nJ own r)(s:∀z,z∈own->z∈own'):nJ own' r:=⟨s _ h.part,h.sum,h.many,λx hx=>by
 obtain⟨a,b,c⟩:=h.seats x hx
 exact⟨a,b,c.imp id (s _)⟩⟩
theorem mD.YK{zs zs' own:List Str}(h:mD zs own r)(s:∀z,z∈zs->z∈zs'):mD zs' own r:=⟨h.num,s _ h.who,h.rank,h.part,h.days⟩
theorem mC.YK{zs zs' own:List Str}(h:mC zs own r)(s:∀z,z∈zs->z∈zs'):mC zs' own r:=⟨h.num,s _ h.giver,s _ h.taker,h.ne,h.part,h.days,h.most⟩
section
variable{zs:List Str}{ps:List (Str×Str)}(hN:Names zs)(hP:jV zs ps)
include hN hP
theorem aqc:∀(i:Nat)(x:Str×Str),ps[i]?=aa x->∃n,n<=i+1/\Ends (jb ps) x.1 n:=by
 have nd:=vZ hN hP;intro i;induction i using Nat.strongRecOn with
 |ind i ih=>
  intro x hx
  obtain⟨h1,h2⟩:=hP i x hx
  have lx:jb ps x.1=aa x.2:=(sS nd).mpr (lX hx);rcases h2 with h2|⟨k,hk,hz⟩
  .exact⟨1,az,.last (by rw[lx,h2])⟩
  .have hi:=(jZ.mp hx).1;have hk':k<ps.length:=az
   obtain⟨h3,_⟩:=hP k ps[k] (fU hk')
   rw[hz] at h3;have e3:=jj h3
   obtain⟨n,hn,he⟩:=ih k hk ps[k] (fU hk')
   rw[<-e3] at he
   refine⟨n+1,az,.step lx (λz=>?_) he⟩
   have:=hN.2 x.2 (lX hz);rw[z,TF] at this;cases this
theorem ac9(h8:ps.length<=8)(pm:ps'.Perm ps)(up:(ps'.map (·.1)).Pairwise (λa b=>strLt a b=aq)):Fd ps':=by
 have nd:=vZ hN hP;have lk:=aci pm nd;have fe:jb ps'=jb ps:=funext lk
 refine⟨by rw[pm.length_eq];exact h8,λx hx=>MT hN hP (cY.mpr ⟨x,pm.mem_iff.mp hx,rfl⟩),up,λx hx=>?_,λx hx=>?_⟩
 .obtain⟨i,hi,e⟩:=tX (pm.mem_iff.mp hx)
  obtain⟨_,h2⟩:=hP i x (by rw[fU hi,e])
  rcases h2 with h2|⟨k,hk,hz⟩
  .exact .inl h2
  .have hk':k<ps.length:=az
   obtain⟨h3,_⟩:=hP k ps[k] (fU hk')
   rw[hz] at h3;exact .inr ((pm.map (·.1)).mem_iff.mpr (cY.mpr ⟨ps[k],vR hk',(jj h3).symm⟩))
 .obtain⟨i,hi,e⟩:=tX (pm.mem_iff.mp hx)
  obtain⟨n,hn,he⟩:=aqc hN hP i x (by rw[fU hi,e])
  exact⟨n,by rw[pm.length_eq];lia,by rw[fe];exact he⟩
theorem afZ(h8:ps.length<=8)(M:Mk ps rk lv ru ht)(r20:rk.length<=20)(rr:∀r∈rk,mD zs (ps.map (·.1)) r)(KC:(rk.map (·.1)).Pairwise (·<·))(jq:lv.length<=16)(ll:∀r∈lv,mC zs (ps.map (·.1)) r)(lu:(lv.map (·.1)).Pairwise (·<·))(iK:ru.length<=10)(uu:∀r∈ru,nJ (ps.map (·.1)) r):BV zs ht:=by
 have s:∀z,z∈ps.map (·.1)->z∈ht.ps.map (·.1):=λz hz=>(M.parts.map (·.1)).mem_iff.mpr hz
 refine⟨hN.2,ac9 hN hP h8 M.parts M.up,by rw[M.ranks];exact r20,λr hr=>?_,by rw[M.ranks];exact KC,by rw[M.leaves];exact jq,λr hr=>?_,by rw[M.leaves];exact lu,by rw[M.rules.length_eq];exact iK,λr hr=>nJ.own (uu r (M.rules.mem_iff.mp hr)) s,M.Zz⟩
 .rw[M.ranks] at hr;exact mD.own (rr r hr) s
 .rw[M.leaves] at hr;exact mC.own (ll r hr) s
end
theorem up3(n:Nat)(c:Int)(hc:0<c):((dh n).map (λi:Nat=>c*(i:Int))).Pairwise (·<·):=by
 rw[tZ];exact List.pairwise_lt_range.imp λ{a b} h=>Int.mul_lt_mul_of_pos_left az hc
section
variable{zs od:List Str}{row:Int}{rk:List fZ}{lv:List j8}{ru:List cR}(G:Gr zs od row rk lv ru)
include G
theorem Gr.Qs:(od++zs.drop 8).Perm zs:=by
 have:=G.perm.append_right (zs.drop 8);rw[Rn] at this;exact this
theorem Gr.nm:Names (od++zs.drop 8):=⟨G.Qs.nodup_iff.mpr G.names.1,λz hz=>G.names.2 z (G.Qs.mem_iff.mp hz)⟩
theorem Gr.po:jV (od++zs.drop 8) (cJ row od):=asQ G.Dt
theorem Gr.keys:(cJ row od).map (·.1)=od:=ae8 G.Dt
theorem Gr.p8:(cJ row od).length=8:=afY G.Dt
theorem Gr.rk'(r:fZ)(h:mD zs od r):mD (od++zs.drop 8) ((cJ row od).map (·.1)) r:=by
 rw[G.keys];exact mD.YK h λz hz=>G.Qs.mem_iff.mpr hz
theorem Gr.lv'(r:j8)(h:mC zs od r):mC (od++zs.drop 8) ((cJ row od).map (·.1)) r:=by
 rw[G.keys];exact mC.YK h λz hz=>G.Qs.mem_iff.mpr hz
theorem Gr.Ds:(rk.map (·.1)).Pairwise (·<·):=by rw[G.atP];exact up3 20 3 bA
theorem Gr.G6:(lv.map (·.1)).Pairwise (·<·):=by rw[G.atQ];exact up3 16 2 bA
theorem Gr.Av:((cJ row od).map (·.1)).Nodup:=vZ G.nm G.po
theorem Gr.gen(M:Mk (cJ row od) rk lv ru ht):uX (od++zs.drop 8) (cJ row od) ht:=by
 have p8:=G.p8;have r20:=G.r20;have jq:=G.jq;have iK:=G.iK
 refine⟨M.parts,az,by rw[M.ranks];lia,by rw[M.leaves];lia,by rw[M.rules.length_eq];exact iK,λr hr=>?_,by rw[M.ranks];exact G.Ds,λr hr=>?_,by rw[M.leaves];exact G.G6.imp λh=>Int.ne_of_lt h,λr hr=>?_,(M.rules.map kj).nodup_iff.mpr G.unlike⟩
 .rw[M.ranks] at hr;exact G.rk' r (G.ranks r hr)
 .rw[M.leaves] at hr;exact G.lv' r (G.leaves r hr)
 .rw[G.keys];exact G.rules r (M.rules.mem_iff.mp hr)
end
structure Ly(n:Nat)(d:aB):Prop where
 lay:d.canLay0=aq
 dep:d.depth<=n
 nod:pP d=aq
theorem arw(n:Nat)(i:Int):Ly n (.int i):=⟨rfl,j5 _,rfl⟩
theorem af0:∀{ds:List aB},(∀d∈ds,Ly n d)->K7 ds=aq/\Bb ds<=n/\lF ds=aq
 |[],_=>⟨rfl,j5 _,rfl⟩
 |d::ds,h=>by
  obtain⟨h1,h2,h3⟩:=af0 λx hx=>h x (fQ _ hx)
  have k:=h d eV
  refine⟨?_,?_,?_⟩
  .show(d.canLay0&&K7 ds)=aq
   rw[k.lay,h1];rfl
  .show max d.depth (Bb ds)<=n;exact Nat.max_le.mpr ⟨k.dep,h2⟩
  .show(pP d&&lF ds)=aq
   rw[k.nod,h3];rfl
theorem arx(h:∀d∈ds,Ly n d):Ly (n+1) (.list ds):=by
 obtain⟨h1,h2,h3⟩:=af0 h
 exact⟨h1,aaF h2,h3⟩
theorem Ly.shaped(h:Ly n d)(h64:n<=64):nD d=aq:=by
 unfold nD;rw[h.lay,dW (kI h.dep h64)];rfl
theorem amZ(h:ss.length<=6):yQ (n+3) (fJ ss)=aq:=by
 show(decide ((ss.map gA).length<=1000)&&(ss.map gA).all (yQ (n+2)))=aq
 rw[dW (by rw[bD];lia),Tu,lB];intro d hd
 obtain⟨s,_,rfl⟩:=cY.mp hd
 rfl
theorem eq_empty(h:∀d∈ds,Ly n d)(h63:n<=63):lW (.list ds) (.list [])=aa (.im (.bool ds.isEmpty)):=by
 have L:=arx h;have s1:=L.shaped az;have e:yX (.list ds) (.list [])=aa ds.isEmpty:=by
  show(if pP (.list ds)&&pP (.list [])&&(nD (.list ds)&&nD (.list [])) then aa (Ik (.list ds) (.list [])) else ao)=_
  rw[L.nod,s1];cases ds<;>rfl
 simp only[lW,e,lC]
theorem af1:∀{l:List cR}{y:cR},xu l=aa y->∀x∈l,x.2.1<=y.2.1
 |[],y,h,x,hx=>nomatch hx
 |r::l,y,h,x,hx=>by
  rw[xu] at h;cases e:xu l with
  |none=>
   rw[e] at h;cases h;rcases cg.mp hx with rfl|hx
   .exact Br _
   .cases l with
    |nil=>exact nomatch hx
    |cons a t=>
     obtain⟨w,ew,_⟩:=Od a t
     rw[ew] at e;cases e
  |some w=>
   have ih:=af1 e;rw[e] at h;by_cases c:r.2.1<w.2.1
   .simp only[c,if_true] at h;cases h;rcases cg.mp hx with rfl|hx
    .lia
    .exact ih x hx
   .simp only[c,if_false] at h;cases h;rcases cg.mp hx with rfl|hx
    .exact Br _
    .have:=ih x hx;lia
theorem af2{α β:Type}{f:α->β}:∀{l:List α},(l.map f).Nodup->∀{x y:α},x∈l->y∈l->f x=f y->x=y
 |[],_,x,y,hx,_,_=>nomatch hx
 |a::l,nd,x,y,hx,hy,e=>by
  rw[dU,mK] at nd;rcases cg.mp hx with hx1|hx1
  .rcases cg.mp hy with hy1|hy1
   .rw[hx1,hy1]
   .exact absurd (cY.mpr ⟨y,hy1,by rw[<-e,hx1]⟩) nd.1
  .rcases cg.mp hy with hy1|hy1
   .exact absurd (cY.mpr ⟨x,hx1,by rw[e,hy1]⟩) nd.1
   .exact af2 nd.2 hx1 hy1 e
section
variable{ru:List cR}{r:cR}(nd:(ru.map kj).Nodup)(hr:r∈ru)(os:List Str)
include nd hr
theorem acy:nj ru (r.1::os)=ru.filter λx=>decide (x.1=r.1):=by
 rw[nj];refine bB λz=>?_
 have:r∈ru.filter λx=>decide (x.1=r.1):=o7.mpr ⟨hr,dW rfl⟩
 rw[z] at this;exact nomatch this
theorem alS:Gi ru (r.1::os) r.1 r.2.1=r.2.2.map λs=>(s.1,if s.2=bI "" then r.1 else s.2):=by
 unfold Gi;rw[acy nd hr os];have hm:r∈(ru.filter λx=>decide (x.1=r.1)).filter λx=>decide (x.2.1<=r.2.1):=o7.mpr ⟨o7.mpr ⟨hr,dW rfl⟩,dW (Br _)⟩
 have hall:∀x∈(ru.filter λx=>decide (x.1=r.1)).filter (λx=>decide (x.2.1<=r.2.1)),x∈ru/\x.1=r.1/\x.2.1<=r.2.1:=λx hx=>by
  obtain⟨h1,h2⟩:=o7.mp hx
  obtain⟨h3,h4⟩:=o7.mp h1
  exact⟨h3,of_decide_eq_true h4,of_decide_eq_true h2⟩
 generalize(ru.filter λx=>decide (x.1=r.1)).filter (λx=>decide (x.2.1<=r.2.1))=f at hm hall
 cases f with
 |nil=>exact nomatch hm
 |cons a l=>
  obtain⟨y,e,hy⟩:=Od a l
  have ge:=af1 e r hm
  obtain⟨h1,h2,h3⟩:=hall y hy
  have:y=r:=af2 nd h1 hr (by show(y.1,y.2.1)=(r.1,r.2.1);rw[h2,show y.2.1=r.2.1 by lia]);rw[e,this]
theorem alT(h:∀x∈ru,x.1=r.1->¬x.2.1<r.2.1):Gi ru (r.1::os) r.1 (r.2.1-1)=[]:=by
 unfold Gi;rw[acy nd hr os,Z2.mpr λx hx=>?_]
 .rfl
 .obtain⟨h3,h4⟩:=o7.mp hx
  have:=h x h3 (of_decide_eq_true h4);simp only[decide_eq_true_eq];lia
end
theorem am0(z:Str)(ss:List nR):dM (.many 2) cz Rz [aa (.im (.str z))] (ss.map gA) C=aa ((ss.map λs=>(s.1,if s.2=bI "" then z else s.2)).map gA,C):=by
 have:=nG (T:=.many 2) (ft:=cz) (fe:=Rz) (fs:=[aa (.im (.str z))]) (C:=C) gA (λ_=>aq) (λs=>gA (s.1,if s.2=bI "" then z else s.2)) (l:=ss) λs _=>by
  refine⟨[.int s.1,.str s.2],rfl,rfl,λ_=>⟨.im (gA (s.1,if s.2=bI "" then z else s.2)),[aa (.im (.int s.1)),aa (.im (.str s.2)),aa (.im (.str z))],?_,rfl⟩⟩
  by_cases e:s.2=bI ""
  .have d1:=dW e;rw[bC e];simp_arith[cI,iu,gm,d1,gA,W8]
  .have d1:=jy e;rw[bB e];simp_arith[cI,iu,gm,d1,gA,W8]
 rw[tY.mpr λ_ _=>rfl] at this;rw[fj];exact this
theorem am1(z:Str)(t:Int)(ru:List cR):dM .one aaB aaC [aa (.im (.str z)),aa (.im (.int t))] (ru.map bR) C=aa ((ru.filter λr=>decide (r.1=z)&&decide (r.2.1<t)).map (λr=>.int r.2.1),C):=
 nG bR (λr=>decide (r.1=z)&&decide (r.2.1<t)) (λr=>.int r.2.1) λr _=>by
  have i0:bQ (bR r) (.int 0)=aa (.im (.str r.1)):=rfl;have i1:bQ (bR r) (.int 1)=aa (.im (.int r.2.1)):=rfl
  refine⟨[bR r],rfl,?_,λ_=>⟨.im (.int r.2.1),[aa (.im (bR r)),aa (.im (.str z)),aa (.im (.int t))],by simp_arith[cI,iu,gm,i1],rfl⟩⟩
  by_cases c:r.1=z
  .have d1:=dW c;simp_arith[cI,iu,gm,i0,i1,sW,d1]
  .have d1:=jy c;simp_arith[cI,iu,gm,i0,i1,sW,d1]
section
variable{zs:List Str}{ps:List (Str×Str)}{ht:mO}{ru:List cR}(hN:Names zs)(hP:jV zs ps)(hG:uX zs ps ht)(pm:ht.rules.Perm ru)
include hN hP hG pm
theorem alU(hr:r∈ru):∃w6 w7,Hj [aa (.im (eE ht)),v1,aa (.im (.list (ru.map bR))),aa (.im (.str r.1)),aa (.im (.int r.2.1)),aa (.im (fJ r.2.2)),v6,v7] C=aa (.nx,[aa (.im (eE ht)),v1,aa (.im (.list (ru.map bR))),aa (.im (.str r.1)),aa (.im (.int r.2.1)),aa (.im (fJ r.2.2)),w6,w7],C):=by
 have hr':r∈ht.rules:=pm.mem_iff.mpr hr;have ro:=hG.rules r hr'
 obtain⟨x,hx,ex⟩:=cY.mp ro.part
 obtain⟨i,hi,e⟩:=tX hx
 obtain⟨_,_,_,_,hu⟩:=W9 hN hP (i:=i) (x:=x) (by rw[fU hi,e])
 rw[ex] at hu;have s1:=aea (C:=C) hN hP hG r.1 r.2.1;have s2:=aea (C:=C) hN hP hG r.1 (r.2.1-1);rw[hu] at s1 s2;rw[alS hG.unlike hr' (up ps x.2)] at s1;have m6:=ro.many;have sc:=am0 (C:=C) r.1 r.2.2;have g6:(r.2.2.length<=1000000)=True:=eqT
 obtain⟨ss,hss⟩:∃ss,ss=r.2.2.map λs=>(s.1,if s.2=bI "" then r.1 else s.2):=⟨_,rfl⟩
 have l6:ss.length<=6:=by rw[hss,bD];exact m6
 rw[<-hss] at s1 sc;have nl:=Ep ss;have g6':(ss.length<=1000000)=True:=eqT;have sm:=Fe (C:=C) 4 (.list [fJ ss]) (by
  show(decide ([fJ ss].length<=1000)&&[fJ ss].all (yQ 3))=aq
  rw[dW (by show 1<=1000;decide),Tu,lB];intro d hd;rw[gU.mp hd];exact amZ (n:=0) l6)
 have lc:=am1 (C:=C) r.1 r.2.1 ru;have fl:(ru.filter λx=>decide (x.1=r.1)&&decide (x.2.1<r.2.1)).length<=10:=kI (zp _ _) (by rw[<-pm.length_eq];exact hG.iK);have hls:(ru.filter λx=>decide (x.1=r.1)&&decide (x.2.1<r.2.1))=[]->∀x∈ht.rules,x.1=r.1->¬x.2.1<r.2.1:=λz x hx e1 e2=>by
  have:=Z2.mp z x (pm.mem_iff.mp hx);rw[dW e1,dW e2] at this;exact this rfl
 generalize(ru.filter λx=>decide (x.1=r.1)&&decide (x.2.1<r.2.1))=f at lc fl hls
 have g7:(f.length<=1000000)=True:=eqT;have n7:ji (f.map λr=>pA r.2.1)=aq:=tB (D:=λr:cR=>pA r.2.1) (λ_=>rfl) f;have ee:=eq_empty (ds:=f.map λr=>pA r.2.1) (n:=0) (λd hd=>by obtain⟨y,_,rfl⟩:=cY.mp hd;exact arw _ _) bA;unfold fJ at s1 s2 sm
 refine⟨aa (.im (fJ ss)),aa (.ow (.list (f.map λr=>.int r.2.1))),?_⟩
 cases f with
 |nil=>
  rw[alT hG.unlike hr' (up ps x.2) (hls rfl)] at s2;have s0:=Fe (C:=C) 4 (.tuple []) rfl;rw[sI] at lc n7 ee s2;simp_arith[Hj,fJ,sc,g6',nl,rF,s1,sm,lc,ee,Li,ji,s2,s0]
 |cons a l=>
  rw[dU] at lc n7 ee;rw[fY] at g7;simp_arith[Hj,fJ,sc,g6',nl,rF,s1,sm,lc,n7,g7,ee,RC]
theorem am2:LQ [.im (eE ht),.im dp,.im (.list (ru.map bR))] C=aa (.im (.bool aq),C):=by
 obtain⟨aW,C',e,w3,w4,w5,w6,w7,he,hC⟩:=uV (g:=oG 3 (cZ (bY 3) (cZ (bY 4) (cZ (bY 5) oE)))) (body:=Hj) (aK:=ru.map bR) (aj:=[aa (.im (eE ht)),aa (.im dp),aa (.im (.list (ru.map bR))),ao,ao,ao,ao,ao]) (C:=C)
  (λi aj C1=>∃w3 w4 w5 w6 w7:Option Vl,aj=[aa (.im (eE ht)),aa (.im dp),aa (.im (.list (ru.map bR))),w3,w4,w5,w6,w7]/\C1=C) ⟨ao,ao,ao,ao,ao,rfl,rfl⟩ (λi d aj C1 hd hI=>by
   obtain⟨w3,w4,w5,w6,w7,rfl,rfl⟩:=hI
   obtain⟨r,hr,rfl⟩:=cY.mp (lX hd)
   obtain⟨u6,u7,e⟩:=alU (C:=C1) (v1:=aa (.im dp)) (v6:=w6) (v7:=w7) hN hP hG pm hr
   exact⟨_,.nx,_,C1,rfl,e,.inl rfl,_,_,_,u6,u7,rfl,rfl⟩)
 subst he hC;refine fW [aa (.im (eE ht)),aa (.im dp),aa (.im (.list (ru.map bR))),ao,ao,ao,ao,ao] rfl rfl ?_ rfl rfl;simp_arith[SX,jX,e]
end
def stL(st:List (Str×Int)):List (Str×aB):=st.map λx=>(x.1,.int x.2)
theorem Xg(st:List (Str×Int))(z:Str):qI (b8 (stL st)) (.str z)=aa ((gQ st z).map .int):=by
 rw[Ng];unfold stL gQ;rw[ajB,Sw,Sw];rfl
def xx(st:List (Str×Int))(z:Str)(v:Int):List (Str×Int):=if z∈st.map (·.1) then st.map (λx=>if x.1=z then(z,v) else x) else st++[(z,v)]
theorem ae9:∀st:List (Str×Int),gQ (st.map λx=>if x.1=z then(z,v) else x) p=if z=p then(gQ st p).map λ_=>v else gQ st p
 |[]=>by
  split<;>rfl
 |x::st=>by
  rw[dU,adW,adW,ae9 st];by_cases h:x.1=z
  .rw[bC h];by_cases h2:z=p
   .rw[bC h2,bC h2,bC (h.trans h2)];rfl
   .rw[bB h2,bB h2,bB h2,bB (λe=>h2 (h.symm.trans e))]
  .rw[bB h];by_cases h2:z=p
   .rw[bC h2,bC h2,bB (λe=>h (e.trans h2.symm)),bB (λe=>h (e.trans h2.symm))]
   .rw[bB h2,bB h2]
theorem aow(st:List (Str×Int))(z p:Str)(v:Int):gQ (xx st z v) p=if z=p then aa v else gQ st p:=by
 unfold xx;split
 .rename_i h;rw[ae9];by_cases e:z=p
  .subst e;rw[bC rfl,bC rfl];cases k:gQ st z with
   |none=>exact absurd h (Ja.mp k)
   |some w=>rfl
  .rw[bB e,bB e]
 .rename_i h;have:=apL st [z] v p;rw[dU,sI] at this;rw[this];by_cases e:z=p
  .subst e;rw[bB h,bC (gU.mpr rfl),bC rfl]
  .rw[bB e];split
   .rfl
   .rename_i k;rw[bB (λm=>e (gU.mp m).symm),Ja.mpr k]
theorem aed(st:List (Str×Int))(z:Str)(v:Int):(xx st z v).length<=st.length+1:=by
 unfold xx;split
 .rw[bD];exact xP _
 .rw[gJ];exact bU _
theorem arz(st:List (Str×Int))(z:Str)(v:Int):putD (b8 (stL st)) (.str z) (.int v)=aa (b8 (stL (xx st z v))):=by
 have ks:(stL st).map (·.1)=st.map (·.1):=by
  unfold stL;rw[fj];rfl
 by_cases h:z∈st.map (·.1)
 .show(if(dO f9 (b8 (stL st))).isSome then aa (oV f9 (.inr z) (.str z) (.int v) (b8 (stL st))) else ao)=_
  rw[BP];refine congrArg aa ?_;unfold oV xx;rw[bC h,bC]
  .unfold b8 stL;rw[fj,fj,fj,fj];refine vO λx _=>?_
   by_cases e:x.1=z
   .simp[Fw,e]
   .simp[Fw,e]
  .obtain⟨x,hx,e⟩:=cY.mp h
   refine aaL.mpr ⟨(.str x.1,.int x.2),cY.mpr ⟨(x.1,.int x.2),cY.mpr ⟨x,hx,rfl⟩,rfl⟩,dW ((Fw _ _).mpr e)⟩
 .rw[adU (by rw[ks];exact h)];unfold xx stL;rw[bB h,j4];rfl
theorem am3(l:List Str)(h:l.length<64):oO [.list (l.map .str)]=aa (.ow (.list ((mQ strLt l).map .str))):=by
 have hs:yD (l.map .str)=aa ((mQ strLt l).map .str):=by
  unfold yD;rw[bC (by rw[bD];exact h)];cases l with
  |nil=>rfl
  |cons x l=>
   rw[show intsOf ((x::l).map gh)=ao from rfl,UL]
 unfold oO zM;simp only[hs,lC]
def zg(i j:Int):Int:=if j>i then j else i
theorem mx2(i j:Int):Gd [.int i,.int j]=aa (.im (.int (zg i j))):=rfl
def GF(os:List Str)(bK:Int)(r:fZ):Bool:=decide (r.2.2.2.2.1<=bK)&&(decide (bK<=r.2.2.2.2.2)&&decide (r.2.2.2.1∈os))
def mV(os:List Str)(bK:Int)(st:List (Str×Int))(r:fZ):List (Str×Int):=if GF os bK r=aq then xx st r.2.1 (zg r.2.2.1 ((gQ st r.2.1).getD 0)) else st
theorem afa(os:List Str)(bK:Int)(p:Str)(r:fZ):wV p os bK r=(decide (r.2.1=p)&&GF os bK r):=by
 unfold wV GF;cases decide (r.2.1=p)<;>cases decide (r.2.2.2.1∈os)<;>cases decide (r.2.2.2.2.1<=bK)<;>cases decide (bK<=r.2.2.2.2.2)<;>rfl
theorem Xh(os:List Str)(bK:Int)(p:Str):∀(l:List fZ)(st:List (Str×Int)),gQ (l.foldl (mV os bK) st) p=((l.filter (wV p os bK)).map (·.2.2.1)).foldl (λo v=>aa (zg v (o.getD 0))) (gQ st p)
 |[],st=>rfl
 |r::l,st=>by
  rw[vV,Xh os bK p l,Lh,afa];unfold mV;by_cases h:GF os bK r=aq
  .rw[bC h,aow,h];by_cases e:r.2.1=p
   .rw[bC e,dW e,aj5,bC rfl,dU,vV,e]
   .rw[bB e,jy e,aj5,bB jK]
  .rw[bB h,show GF os bK r=aA from aiQ.mpr h,Bool.and_false,bB jK]
theorem aee:∀(vs:List Int)(o:Option Int),(vs.foldl (λo v=>aa (zg v (o.getD 0))) o).getD 0=vs.foldl max (o.getD 0)
 |[],_=>rfl
 |v::vs,o=>by
  rw[vV,vV,aee vs];refine congrArg (λx=>vs.foldl max x) ?_;show zg v (o.getD 0)=max (o.getD 0) v;unfold zg;split<;>lia
theorem ada:∀(vs:List Int)(o:Option Int),(vs.foldl (λo v=>aa (zg v (o.getD 0))) o).isSome=(o.isSome||!vs.isEmpty)
 |[],o=>by cases o<;>rfl
 |v::vs,o=>by
  rw[vV,ada vs];cases o<;>rfl
theorem afb(rk:List fZ)(os:List Str)(bK:Int)(p:Str):(gQ (rk.foldl (mV os bK) []) p).getD 0=Fx rk p os bK:=by
 rw[Xh,aee];rfl
theorem aqd(z:Str)(v:Int)(h:(st.map (·.1)).Nodup):((xx st z v).map (·.1)).Nodup:=by
 unfold xx;split
 .rw[fj];have:((λx:Str×Int=>x.1) ∘ λx=>if x.1=z then(z,v) else x)=λx=>x.1:=by
   funext x
   show(if x.1=z then(z,v) else x).1=x.1
   split
   .rename_i e;exact e.symm
   .rfl
  rw[this];exact h
 .rename_i hz;rw[j4,mZ]
  refine⟨h,ZZ _ _,λa ha b hb e=>hz ?_⟩
  have e2:b=z:=gU.mp hb;rw[<-e2,<-e];exact ha
theorem af3(os:List Str)(bK:Int):∀(l:List fZ)(st:List (Str×Int)),(st.map (·.1)).Nodup->((l.foldl (mV os bK) st).map (·.1)).Nodup
 |[],_,h=>h
 |r::l,st,h=>by
  rw[vV];refine af3 os bK l _ ?_;unfold mV;split
  .exact aqd _ _ h
  .exact h
theorem afc(os:List Str)(bK:Int):∀(l:List fZ)(st:List (Str×Int)),(l.foldl (mV os bK) st).length<=st.length+l.length
 |[],_=>bU _
 |r::l,st=>by
  rw[vV,fY];refine kI (afc os bK l _) ?_;unfold mV;split
  .have:=aed st r.2.1 (zg r.2.2.1 ((gQ st r.2.1).getD 0));lia
  .lia
theorem ak6(l:List Str):(dedup l).Nodup:=akS l
theorem aox{os:List Str}(h1:1<=rank):
  mQ strLt (((rk.foldl (mV os bK) []).map (·.1)).filter λp=>decide (rank<=(gQ (rk.foldl (mV os bK) []) p).getD 0))=vo rk os rank bK:=by
 refine(WY QF (λ_ _=>trivial) ?_ ?_).symm
 .unfold vo;refine ac1 ?_ ?_ λp=>?_
  .exact((Ej _).nodup_iff.mpr (ak6 _)).sublist air
  .exact(af3 os bK rk [] lJ).sublist air
  .rw[o7,o7,(Ej _).mem_iff,amn,afb];refine and_congr_left λhd=>?_
   have hd:=of_decide_eq_true hd;have ne:rk.filter (wV p os bK)≠[]:=λz=>by
    unfold Fx at hd;rw[z] at hd;have:rank<=0:=hd;lia
   refine iff_of_true ?_ ?_
   .obtain⟨r,t,e⟩:=ahQ ne
    have hr:r∈rk.filter (wV p os bK):=by rw[e];exact eV
    obtain⟨h2,h3⟩:=o7.mp hr
    rw[afa,j0] at h3;exact cY.mpr ⟨r,h2,of_decide_eq_true h3.1⟩
   .have:gQ (rk.foldl (mV os bK) []) p≠ao:=λz=>by
     have q:=Xh os bK p rk [];rw[z] at q;have s:=ada ((rk.filter (wV p os bK)).map (·.2.2.1)) (gQ ([]:List (Str×Int)) p);rw[<-q] at s
     obtain⟨r,t,e⟩:=ahQ ne
     rw[e] at s;cases s
    exact Classical.not_not.mp λm=>this (Ja.mpr m)
 .unfold vo
  exact(V3 QF (λ_ _=>trivial)).filter _
abbrev ig(ps:List (Str×Str)):aB:=.dict (b8 (oH ps ps))
theorem arA(ps:List (Str×Str)):Km (ig ps)=aa ((ps.map (·.1)).map .str):=by
 show(if(dO f9 (b8 (oH ps ps))).isSome then aa ((b8 (oH ps ps)).map (·.1)) else ao)=_
 rw[BP];show aa ((b8 (oH ps ps)).map (·.1))=_;unfold b8 oH;rw[fj,fj,fj];rfl
theorem arB(st:List (Str×Int)):Km (.dict (b8 (stL st)))=aa ((st.map (·.1)).map .str):=by
 show(if(dO f9 (b8 (stL st))).isSome then aa ((b8 (stL st)).map (·.1)) else ao)=_
 rw[BP];show aa ((b8 (stL st)).map (·.1))=_;unfold b8 stL;rw[fj,fj,fj];rfl
theorem ags(hN:Names zs)(hP:jV zs ps)(hx:x∈ps):bQ (ig ps) (.str x.1)=aa (.im (.list ((up ps x.1).map .str))):=by
 obtain⟨i,hi,rfl⟩:=tX hx
 obtain⟨_,_,_,_,hu⟩:=W9 hN hP (fU hi)
 obtain⟨o,ho1,ho2⟩:=apE hN hP ps[i].1
 cases o with
 |none=>
  rw[hu] at ho2;cases ho2
 |some d=>
  have ho2:d=.list ((up ps ps[i].1).map .str):=ho2;subst ho2;simp only[bQ,ig,rQ,ho1,lC]
theorem asR(h:gQ st p=aa v):bQ (.dict (b8 (stL st))) (.str p)=aa (.im (.int v)):=by
 have:=Xg st p;rw[h] at this;simp only[bQ,rQ,this,lC]
section
variable{C:Ce}{zs zn:List Str}{ps:List (Str×Str)}{ht:mO}{o4:Vl}{v4 v5 v6 v7 v8 v9 v10 v11 cU dw cV cW jr ir:Option Vl}(hN:Names zs)(hP:jV zs ps)(hG:uX zs ps ht)
abbrev fP(ht:mO)(ps:List (Str×Str))(zn:List Str)(v4 v5 v6 v7 v8 v9 v10 v11 cU dw cV cW jr ir:Option Vl):En:=[aa (.im (eE ht)),aa (.im (.list (ps.map bZ))),aa (.im (.list (ht.ranks.map bV))),aa (.im (.list (zn.map .str))),v4,v5,v6,v7,v8,v9,v10,v11,cU,dw,cV,cW,jr,ir]
include hN hP
theorem aoy(hx:x∈ps)(hl:st.length<1000):
  zx (fP ht ps zn (aa (.ow (ig ps))) v5 (aa (.im (.str x.1))) v7 v8 (aa (.im (.int bK))) (aa (.ow (.dict (b8 (stL st))))) (aa (.im (.int r.1))) (aa (.im (.str r.2.1))) (aa (.im (.int r.2.2.1))) (aa (.im (.str r.2.2.2.1))) (aa (.im (.int r.2.2.2.2.1))) (aa (.im (.int r.2.2.2.2.2))) ir) C
  =aa (.nx,fP ht ps zn (aa (.ow (ig ps))) v5 (aa (.im (.str x.1))) v7 v8 (aa (.im (.int bK))) (aa (.ow (.dict (b8 (stL (mV (up ps x.1) bK st r)))))) (aa (.im (.int r.1))) (aa (.im (.str r.2.1))) (aa (.im (.int r.2.2.1))) (aa (.im (.str r.2.2.2.1))) (aa (.im (.int r.2.2.2.2.1))) (aa (.im (.int r.2.2.2.2.2))) ir,C):=by
 have ix:=ags hN hP hx;have ii:=Jh r.2.2.2.1 (up ps x.1)
 let en:En:=fP ht ps zn (aa (.ow (ig ps))) v5 (aa (.im (.str x.1))) v7 v8 (aa (.im (.int bK))) (aa (.ow (.dict (b8 (stL st))))) (aa (.im (.int r.1))) (aa (.im (.str r.2.1))) (aa (.im (.int r.2.2.1))) (aa (.im (.str r.2.2.2.1))) (aa (.im (.int r.2.2.2.2.1))) (aa (.im (.int r.2.2.2.2.2))) ir
 have t1:xq (aN 10) (aN 12) (aP (.int 0)) en C=aa (.im (((gQ st r.2.1).map pA).getD (.int 0)),en,C):=get_eq (e1:=en) (e2:=en) (e3:=en) (aC:=b8 (stL st)) (dk:=.str r.2.1) (r:=.im (.int 0)) rfl rfl rfl (Xg st r.2.1) rfl rfl;have tg:((gQ st r.2.1).map pA).getD (.int 0)=.int ((gQ st r.2.1).getD 0):=by cases gQ st r.2.1<;>rfl
 rw[tg] at t1;simp only[en,fP,ig] at t1;have mx:=mx2 r.2.2.1 ((gQ st r.2.1).getD 0);have pk:=arz st r.2.1 (zg r.2.2.1 ((gQ st r.2.1).getD 0));have g:((b8 (stL st)).length<1000000)=True:=eq_true (by unfold b8 stL;rw[bD,bD];lia);unfold mV GF;by_cases h1:r.2.2.2.2.1<=bK
 .have d1:=dW h1;by_cases h2:bK<=r.2.2.2.2.2
  .have d2:=dW h2;by_cases h3:r.2.2.2.1∈up ps x.1
   .have d3:=dW h3;rw[d3] at ii;simp_arith[zx,fP,ig,d1,d2,d3,ix,↓ii,t1,mx,vB,yz,pk,g]
   .have d3:=jy h3;rw[d3] at ii;simp_arith[zx,fP,ig,d1,d2,d3,ix,↓ii]
  .have d2:=jy h2;simp_arith[zx,fP,ig,d1,d2]
 .have d1:=jy h1;simp_arith[zx,fP,ig,d1]
theorem aef(hx:x∈ps)(bK:Int):∀(l:List fZ)(st:List (Str×Int))(v11 cU dw cV cW jr:Option Vl),st.length+l.length<1000->∃w11 w12 w13 w14 w15 w16,jW (oG 6 (cZ (bY 11) (cZ (bY 12) (cZ (bY 13) (cZ (bY 14) (cZ (bY 15) (cZ (bY 16) oE))))))) zx (l.map bV)
   (fP ht ps zn (aa (.ow (ig ps))) v5 (aa (.im (.str x.1))) v7 v8 (aa (.im (.int bK))) (aa (.ow (.dict (b8 (stL st))))) v11 cU dw cV cW jr ir) C
  =aa (.nx,fP ht ps zn (aa (.ow (ig ps))) v5 (aa (.im (.str x.1))) v7 v8 (aa (.im (.int bK))) (aa (.ow (.dict (b8 (stL (l.foldl (mV (up ps x.1) bK) st)))))) w11 w12 w13 w14 w15 w16 ir,C)
 |[],st,v11,cU,dw,cV,cW,jr,_=>⟨v11,cU,dw,cV,cW,jr,rfl⟩
 |r::l,st,v11,cU,dw,cV,cW,jr,hl=>by
  rw[fY] at hl;have s:=aoy (C:=C) (ht:=ht) (zn:=zn) (v5:=v5) (v7:=v7) (v8:=v8) (ir:=ir) hN hP hx (bK:=bK) (st:=st) (r:=r) az;have dl:(mV (up ps x.1) bK st r).length<=st.length+1:=by
   unfold mV;split
   .exact aed _ _ _
   .lia
  obtain⟨w11,w12,w13,w14,w15,w16,e⟩:=aef hx bK l (mV (up ps x.1) bK st r) (aa (.im (.int r.1))) (aa (.im (.str r.2.1))) (aa (.im (.int r.2.2.1))) (aa (.im (.str r.2.2.2.1))) (aa (.im (.int r.2.2.2.2.1))) (aa (.im (.int r.2.2.2.2.2))) az
  refine⟨w11,w12,w13,w14,w15,w16,?_⟩
  rw[dU];unfold jW;rw[show oG 6 (cZ (bY 11) (cZ (bY 12) (cZ (bY 13) (cZ (bY 14) (cZ (bY 15) (cZ (bY 16) oE)))))) (bV r) (fP ht ps zn (aa (.ow (ig ps))) v5 (aa (.im (.str x.1))) v7 v8 (aa (.im (.int bK))) (aa (.ow (.dict (b8 (stL st))))) v11 cU dw cV cW jr ir)=aa (fP ht ps zn (aa (.ow (ig ps))) v5 (aa (.im (.str x.1))) v7 v8 (aa (.im (.int bK))) (aa (.ow (.dict (b8 (stL st))))) (aa (.im (.int r.1))) (aa (.im (.str r.2.1))) (aa (.im (.int r.2.2.1))) (aa (.im (.str r.2.2.2.1))) (aa (.im (.int r.2.2.2.2.1))) (aa (.im (.int r.2.2.2.2.2))) ir) from rfl];simp only[s];exact e
include hG
theorem Vt{x:Str×Str}(hn:1<=n):
  ∃w17,K9 (fP ht ps zn v4 v5 (aa (.im (.str x.1))) v7 v8 (aa (.im (.int bK))) (aa (.ow (.dict (b8 (stL (ht.ranks.foldl (mV (up ps x.1) bK) [])))))) v11 cU (aa (.im (.int n))) cV cW jr ir) C
  =aa (.nx,fP ht ps zn v4 v5 (aa (.im (.str x.1))) v7 v8 (aa (.im (.int bK))) (aa (.ow (.dict (b8 (stL (ht.ranks.foldl (mV (up ps x.1) bK) [])))))) v11 cU (aa (.im (.int n))) cV cW jr w17,C):=by
 have hd:=aox (rk:=ht.ranks) (os:=up ps x.1) (rank:=n) (bK:=bK) hn;have ho:=alN (C:=C) hN hP hG n x.1 bK;have hl:=aeb ht.ranks (up ps x.1) n bK;have r20:=hG.r20;have dl:=afc (up ps x.1) bK ht.ranks [];generalize ht.ranks.foldl (mV (up ps x.1) bK) []=st at hd dl;have dl:st.length<=0+ht.ranks.length:=dl;have ik:=arB st;have c:dM .one aay aaz [aa (.im (.dict (b8 (stL st)))),aa (.im (.int n))] ((st.map (·.1)).map .str) C=aa (((st.map (·.1)).filter λp=>decide (n<=(gQ st p).getD 0)).map .str,C):=
  nG gh (λp=>decide (n<=(gQ st p).getD 0)) gh λp hp=>by
   cases e:gQ st p with
   |none=>exact absurd hp (Ja.mp e)
   |some v=>
    have i:=asR e
    refine⟨[.str p],rfl,?_,λ_=>⟨.im (.str p),_,rfl,rfl⟩⟩
    simp_arith[cI,iu,gm,i];rfl
 have fl:((st.map (·.1)).filter λp=>decide (n<=(gQ st p).getD 0)).length<=20:=kI (zp _ _) (by rw[bD];lia);have so:=am3 ((st.map (·.1)).filter λp=>decide (n<=(gQ st p).getD 0)) az;rw[hd] at so
 generalize(st.map (·.1)).filter (λp=>decide (n<=(gQ st p).getD 0))=f at c fl so
 have g:(f.length<=1000000)=True:=eqT;have sm:=Fe (C:=C) 4 (.list ((vo ht.ranks (up ps x.1) n bK).map .str)) (by
  show(decide (((vo ht.ranks (up ps x.1) n bK).map gh).length<=1000)&&((vo ht.ranks (up ps x.1) n bK).map gh).all (yQ 3))=aq
  rw[dW (by rw[bD];lia),Tu,lB];intro d hd
  obtain⟨z,_,rfl⟩:=cY.mp hd
  rfl)
 refine⟨aa (.ow (.list ((vo ht.ranks (up ps x.1) n bK).map .str))),?_⟩
 simp_arith[K9,fP,Ko,ik,c,g,so,ho,sm]
theorem am4(hx:x∈ps)(Ks:zn.length<=20):
  ∃w10 w11 w12 w13 w14 w15 w16 w17,La (fP ht ps zn (aa (.ow (ig ps))) v5 (aa (.im (.str x.1))) v7 v8 (aa (.im (.int bK))) v10 v11 cU dw cV cW jr ir) C
  =aa (.nx,fP ht ps zn (aa (.ow (ig ps))) v5 (aa (.im (.str x.1))) v7 v8 (aa (.im (.int bK))) w10 w11 w12 w13 w14 w15 w16 w17,C):=by
 have r20:=hG.r20
 obtain⟨w11,w12,w13,w14,w15,w16,e1⟩:=aef (C:=C) (ht:=ht) (zn:=zn) (v5:=v5) (v7:=v7) (v8:=v8) (ir:=ir) hN hP hx bK ht.ranks [] v11 cU dw cV cW jr (by show 0+_<_;lia)
 have c:dM .one cz aaA [aa (.im (eE ht)),aa (.im (.str x.1)),aa (.im (.int bK)),aa (.im (.dict (b8 (stL (ht.ranks.foldl (mV (up ps x.1) bK) [])))))] (zn.map .str) C=aa (cN zn.length (.bool aq),C):=
  sV gh λp _=>by
   have rk:=acr (C:=C) hN hP hG p x.1 bK;have dm:=afb ht.ranks (up ps x.1) bK p;generalize ht.ranks.foldl (mV (up ps x.1) bK) []=st at dm
   let en:En:=[aa (.im (.str p)),aa (.im (eE ht)),aa (.im (.str x.1)),aa (.im (.int bK)),aa (.im (.dict (b8 (stL st))))]
   have t1:xq (aN 4) (aN 0) (aP (.int 0)) en C=aa (.im (((gQ st p).map pA).getD (.int 0)),en,C):=get_eq (e1:=en) (e2:=en) (e3:=en) (aC:=b8 (stL st)) (dk:=.str p) (r:=.im (.int 0)) rfl rfl rfl (Xg st p) rfl rfl;have tg:((gQ st p).map pA).getD (.int 0)=.int ((gQ st p).getD 0):=by cases gQ st p<;>rfl
   rw[tg,dm] at t1;simp only[en] at t1;have sm:=Fe (C:=C) 4 (.int (Fx ht.ranks p (up ps x.1) bK)) rfl
   refine⟨[.str p],en,rfl,?_⟩
   simp_arith[cI,iu,gm,rk,t1,sm,en]
 have b:=sU zn.length;have g:(zn.length<=1000000)=True:=eqT
 obtain⟨u1,f1⟩:=Vt (C:=C) (zn:=zn) (v4:=aa (.ow (ig ps))) (v5:=v5) (v7:=v7) (v8:=v8) (v11:=w11) (cU:=w12) (cV:=w14) (cW:=w15) (jr:=w16) (ir:=ir) (x:=x) (bK:=bK) (n:=1) hN hP hG bA
 obtain⟨u2,f2⟩:=Vt (C:=C) (zn:=zn) (v4:=aa (.ow (ig ps))) (v5:=v5) (v7:=v7) (v8:=v8) (v11:=w11) (cU:=w12) (cV:=w14) (cW:=w15) (jr:=w16) (ir:=u1) (x:=x) (bK:=bK) (n:=5) hN hP hG bA
 obtain⟨u3,f3⟩:=Vt (C:=C) (zn:=zn) (v4:=aa (.ow (ig ps))) (v5:=v5) (v7:=v7) (v8:=v8) (v11:=w11) (cU:=w12) (cV:=w14) (cW:=w15) (jr:=w16) (ir:=u2) (x:=x) (bK:=bK) (n:=9) hN hP hG bA
 generalize ht.ranks.foldl (mV (up ps x.1) bK) []=st at e1 c f1 f2 f3;have lp:jW (bY 13) K9 [.int 1,.int 5,.int 9] (fP ht ps zn (aa (.ow (ig ps))) v5 (aa (.im (.str x.1))) v7 v8 (aa (.im (.int bK))) (aa (.ow (.dict (b8 (stL st))))) w11 w12 w13 w14 w15 w16 ir) C=aa (.nx,fP ht ps zn (aa (.ow (ig ps))) v5 (aa (.im (.str x.1))) v7 v8 (aa (.im (.int bK))) (aa (.ow (.dict (b8 (stL st))))) w11 w12 (aa (.im (.int 9))) w14 w15 w16 u3,C):=by
  have g1:∀(d:aB)(w13 w17:Option Vl),bY 13 d (fP ht ps zn (aa (.ow (ig ps))) v5 (aa (.im (.str x.1))) v7 v8 (aa (.im (.int bK))) (aa (.ow (.dict (b8 (stL st))))) w11 w12 w13 w14 w15 w16 w17)=aa (fP ht ps zn (aa (.ow (ig ps))) v5 (aa (.im (.str x.1))) v7 v8 (aa (.im (.int bK))) (aa (.ow (.dict (b8 (stL st))))) w11 w12 (aa (.im d)) w14 w15 w16 w17):=λ_ _ _=>rfl
  unfold jW;rw[g1];simp only[f1];unfold jW;rw[g1];simp only[f2];unfold jW;rw[g1];simp only[f3];rfl
 refine⟨aa (.ow (.dict (b8 (stL st)))),w11,w12,aa (.im (.int 9)),w14,w15,w16,u3,?_⟩
 have e1:jW (oG 6 (cZ (bY 11) (cZ (bY 12) (cZ (bY 13) (cZ (bY 14) (cZ (bY 15) (cZ (bY 16) oE))))))) zx (ht.ranks.map bV) (fP ht ps zn (aa (.ow (ig ps))) v5 (aa (.im (.str x.1))) v7 v8 (aa (.im (.int bK))) (aa (.ow (.dict []))) v11 cU dw cV cW jr ir) C=_:=e1;simp only[fP,ig] at e1 lp;simp_arith[La,fP,ig,Cp,jX,e1,c,b.1,b.2,g,qW,lp]
end
theorem O9{ps:List (Str×Str)}(h:k<ps.length):∃x∈ps,gF (ps.map bZ) (k:Int)=aa (bZ x):=by
 refine⟨ps[k],vR h,?_⟩
 exact uq (j:=k) (by rw[jC,fU h];rfl)
section
variable{C:Ce}{zs zn:List Str}{ps:List (Str×Str)}{ht:mO}{v4 v5 v6 v7 v8 v9 v10 v11 cU dw cV cW jr ir:Option Vl}(hN:Names zs)(hP:jV zs ps)(hG:uX zs ps ht)
include hN hP
theorem alV(h8:ps.length<=8):∃w6 w7,jW (oG 2 (cZ (bY 6) (cZ (bY 7) oE))) Le (ps.map bZ) (fP ht ps zn (aa (.ow (.dict []))) v5 v6 v7 v8 v9 v10 v11 cU dw cV cW jr ir) C=aa (.nx,fP ht ps zn (aa (.ow (ig ps))) v5 w6 w7 v8 v9 v10 v11 cU dw cV cW jr ir,C):=by
 obtain⟨aW,C',e,w6,w7,he,hC⟩:=uV (g:=oG 2 (cZ (bY 6) (cZ (bY 7) oE))) (body:=Le) (aK:=ps.map bZ) (aj:=fP ht ps zn (aa (.ow (.dict []))) v5 v6 v7 v8 v9 v10 v11 cU dw cV cW jr ir) (C:=C)
  (λi aj C1=>∃(w6 w7:Option Vl),aj=fP ht ps zn (aa (.ow (.dict (b8 (oH ps (ps.take i)))))) v5 w6 w7 v8 v9 v10 v11 cU dw cV cW jr ir/\C1=C)
  ⟨v6,v7,rfl,rfl⟩ (λi d aj C1 hd hI=>by
   obtain⟨w6,w7,rfl,rfl⟩:=hI
   obtain⟨x,hx,rfl⟩:=ari hd
   obtain⟨o,ho1,ho2,hp,hu⟩:=W9 hN hP hx
   have ha:cD (.list [.str x.1]) (.list ((up ps x.2).map .str))=aa (.ow (.list ((up ps x.1).map .str))):=by
    rw[hu];exact add_l (xs:=[.str x.1]) (by have:=XC ps x.2;rw[bD];show 1+_<=_;lia)
   have g:((b8 (oH ps (ps.take i))).length<1000000)=True:=eq_true (by unfold b8 oH;rw[bD,bD,lZ];lia)
   let en:En:=fP ht ps zn (aa (.ow (.dict (b8 (oH ps (ps.take i)))))) v5 (aa (.im (.str x.1))) (aa (.im (.str x.2))) v8 v9 v10 v11 cU dw cV cW jr ir
   have t1:xq (aN 4) (aN 7) (dj aU) en C1=aa (.im (o.getD (.list [])),en,C1):=get_eq (e1:=en) (e2:=en) (e3:=en) (aC:=b8 (oH ps (ps.take i))) (dk:=.str x.2) (r:=.ow (.list [])) rfl rfl rfl ho1 rfl rfl;rw[ho2] at t1;simp only[en,fP] at t1
   refine⟨en,.nx,fP ht ps zn (aa (.ow (.dict (b8 (oH ps (ps.take (i+1))))))) v5 (aa (.im (.str x.1))) (aa (.im (.str x.2))) v8 v9 v10 v11 cU dw cV cW jr ir,C1,rfl,?_,.inl rfl,_,_,rfl,rfl⟩
   simp_arith[Le,en,fP,t1,ha,vB,yz,hp,g])
 rw[bD,List.take_length] at he;subst he hC
 exact⟨_,_,e⟩
omit hN hP in
theorem am5(aM:List fZ)(l0:List Int)(h0:l0.length+3*aM.length<=60):∃(l:List Int)(w8:Option Vl),l.length<=60/\jW (bY 8) Ld (aM.map bV) (fP ht ps zn v4 (aa (.ow (.list (l0.map .int)))) v6 v7 v8 v9 v10 v11 cU dw cV cW jr ir) C=aa (.nx,fP ht ps zn v4 (aa (.ow (.list (l.map .int)))) v6 v7 w8 v9 v10 v11 cU dw cV cW jr ir,C):=by
 obtain⟨aW,C',e,l,w8,hl,he,hC⟩:=uV (g:=bY 8) (body:=Ld) (aK:=aM.map bV) (aj:=fP ht ps zn v4 (aa (.ow (.list (l0.map .int)))) v6 v7 v8 v9 v10 v11 cU dw cV cW jr ir) (C:=C)
  (λi aj C1=>∃(l:List Int)(w8:Option Vl),l.length=l0.length+3*i/\aj=fP ht ps zn v4 (aa (.ow (.list (l.map .int)))) v6 v7 w8 v9 v10 v11 cU dw cV cW jr ir/\C1=C)
  ⟨l0,v8,rfl,rfl,rfl⟩ (λi d aj C1 hd hI=>by
   obtain⟨l,w8,hl,rfl,rfl⟩:=hI
   have hi:=(jZ.mp hd).1;rw[bD] at hi
   obtain⟨r,_,rfl⟩:=cY.mp (lX hd)
   have i4:bQ (bV r) (.int 4)=aa (.im (.int r.2.2.2.2.1)):=rfl;have i5:bQ (bV r) (.int 5)=aa (.im (.int r.2.2.2.2.2)):=rfl
   obtain⟨x,hx⟩:∃d,(if r.2.2.2.2.1-1>0 then r.2.2.2.2.1-1 else 0)=d:=⟨_,rfl⟩
   have ad:cD (.list (l.map .int)) (.list [.int r.2.2.2.2.1,.int r.2.2.2.2.2,.int x])=aa (.ow (.list ((l++[r.2.2.2.2.1,r.2.2.2.2.2,x]).map .int))):=by
    rw[j4];exact add_l (by rw[bD];show l.length+3<=_;lia)
   refine⟨_,.nx,fP ht ps zn v4 (aa (.ow (.list ((l++[r.2.2.2.2.1,r.2.2.2.2.2,x]).map .int)))) v6 v7 (aa (.im (bV r))) v9 v10 v11 cU dw cV cW jr ir,C1,rfl,?_,.inl rfl,l++[r.2.2.2.2.1,r.2.2.2.2.2,x],_,?_,rfl,rfl⟩
   .simp_arith[Ld,fP,i4,i5,Gd,hx,ad]
   .rw[gJ];show l.length+3=_;lia)
 rw[bD] at hl;subst he hC
 exact⟨l,w8,az,e⟩
include hG
theorem aoz(p8:ps.length=8)(Ks:zn.length<=20):
  ∃w6 w10 w11 w12 w13 w14 w15 w16 w17,Lb (fP ht ps zn (aa (.ow (ig ps))) v5 v6 v7 v8 (aa (.im (.int bK))) v10 v11 cU dw cV cW jr ir) C=aa (.nx,fP ht ps zn (aa (.ow (ig ps))) v5 w6 v7 v8 (aa (.im (.int bK))) w10 w11 w12 w13 w14 w15 w16 w17,C):=by
 obtain⟨x0,m0,a0⟩:=O9 (ps:=ps) (k:=0) az
 obtain⟨x4,m4,a4⟩:=O9 (ps:=ps) (k:=4) az
 obtain⟨x7,m7,a7⟩:=O9 (ps:=ps) (k:=7) az
 have px:∀p:Str×Str,bQ (bZ p) (.int 0)=aa (.im (.str p.1)):=λp=>rfl
 obtain⟨aW,C',e,w6,w10,w11,w12,w13,w14,w15,w16,w17,he,hC⟩:=uV (g:=bY 6) (body:=La) (aK:=[.str x0.1,.str x4.1,.str x7.1]) (aj:=fP ht ps zn (aa (.ow (ig ps))) v5 v6 v7 v8 (aa (.im (.int bK))) v10 v11 cU dw cV cW jr ir) (C:=C)
  (λi aj C1=>∃w6 w10 w11 w12 w13 w14 w15 w16 w17,aj=fP ht ps zn (aa (.ow (ig ps))) v5 w6 v7 v8 (aa (.im (.int bK))) w10 w11 w12 w13 w14 w15 w16 w17/\C1=C)
  ⟨v6,v10,v11,cU,dw,cV,cW,jr,ir,rfl,rfl⟩ (λi d aj C1 hd hI=>by
   obtain⟨w6,w10,w11,w12,w13,w14,w15,w16,w17,rfl,rfl⟩:=hI
   obtain⟨x,hx,rfl⟩:∃x∈ps,d=.str x.1:=by
    have:=lX hd;simp only[cg,kE,or_false] at this;rcases this with rfl|rfl|rfl
    .exact⟨x0,m0,rfl⟩
    .exact⟨x4,m4,rfl⟩
    .exact⟨x7,m7,rfl⟩
   obtain⟨iK,Ku,Kv,Kw,Ky,Kz,u16,ZC,e⟩:=am4 (C:=C1) (v5:=v5) (v7:=v7) (v8:=v8) (v10:=w10) (v11:=w11) (cU:=w12) (dw:=w13) (cV:=w14) (cW:=w15) (jr:=w16) (ir:=w17) (bK:=bK) hN hP hG hx Ks
   exact⟨_,.nx,_,C1,rfl,e,.inl rfl,_,iK,Ku,Kv,Kw,Ky,Kz,u16,ZC,rfl,rfl⟩)
 subst he hC
 refine⟨w6,w10,w11,w12,w13,w14,w15,w16,w17,?_⟩
 have a0:gF (ps.map bZ) 0=aa (bZ x0):=a0;have a4:gF (ps.map bZ) 4=aa (bZ x4):=a4;have a7:gF (ps.map bZ) 7=aa (bZ x7):=a7;simp only[fP,ig] at e;simp_arith[Lb,fP,ig,a0,a4,a7,px,jX,e]
theorem am6(p8:ps.length=8)(Ks:zn.length<=20)(r20:ht.ranks.length=20):LK [.im (eE ht),.im (.list (ps.map bZ)),.im (.list (ht.ranks.map bV)),.im (.list (zn.map .str))] C=aa (.im (.bool aq),C):=by
 obtain⟨w6,w7,e1⟩:=alV (C:=C) (ht:=ht) (zn:=zn) (v5:=aa (.ow (.list ([0,99999].map .int)))) (v6:=ao) (v7:=ao) (v8:=ao) (v9:=ao) (v10:=ao) (v11:=ao) (cU:=ao) (dw:=ao) (cV:=ao) (cW:=ao) (jr:=ao) (ir:=ao) hN hP az
 have t1:=yf bV ht.ranks (k:=2) bA;have t2:=aqa bV ht.ranks;rw[show(2:Int).toNat=2 from rfl] at t1;rw[r20] at t2;have l2:(ht.ranks.take 2++ht.ranks.drop 19).length=3:=by rw[gJ,lZ,t7];lia
 have ad:cD (.list ((ht.ranks.take 2).map bV)) (.list ((ht.ranks.drop 19).map bV))=aa (.ow (.list ((ht.ranks.take 2++ht.ranks.drop 19).map bV))):=by
  rw[j4];exact add_l (by rw[bD,bD];rw[gJ] at l2;lia)
 obtain⟨l,w8,hl,e2⟩:=am5 (C:=C) (ht:=ht) (ps:=ps) (zn:=zn) (v4:=aa (.ow (ig ps))) (v6:=w6) (v7:=w7) (v8:=ao) (v9:=ao) (v10:=ao) (v11:=ao) (cU:=ao) (dw:=ao) (cV:=ao) (cW:=ao) (jr:=ao) (ir:=ao) (ht.ranks.take 2++ht.ranks.drop 19) [0,99999] (by rw[l2];show 2+9<=60;decide)
 have ss:Ox (l.map .int)=aa ((mQ ltI (dedup l)).map .int):=by
  unfold Ox;rw[bC (by rw[bD];lia),UT]
 obtain⟨aW,C',e3,x6,x9,x10,x11,x12,x13,x14,x15,x16,x17,he,hC⟩:=uV (g:=bY 9) (body:=Lb) (aK:=(mQ ltI (dedup l)).map .int) (aj:=fP ht ps zn (aa (.ow (ig ps))) (aa (.ow (.list (l.map .int)))) w6 w7 w8 ao ao ao ao ao ao ao ao ao) (C:=C)
  (λi aj C1=>∃w6 w9 w10 w11 w12 w13 w14 w15 w16 w17,aj=fP ht ps zn (aa (.ow (ig ps))) (aa (.ow (.list (l.map .int)))) w6 w7 w8 w9 w10 w11 w12 w13 w14 w15 w16 w17/\C1=C)
  ⟨w6,ao,ao,ao,ao,ao,ao,ao,ao,ao,rfl,rfl⟩ (λi d aj C1 hd hI=>by
   obtain⟨w6,w9,w10,w11,w12,w13,w14,w15,w16,w17,rfl,rfl⟩:=hI
   obtain⟨bK,_,rfl⟩:=cY.mp (lX hd)
   obtain⟨u6,iK,Ku,Kv,Kw,Ky,Kz,u16,ZC,e⟩:=aoz (C:=C1) (v5:=aa (.ow (.list (l.map .int)))) (v6:=w6) (v7:=w7) (v8:=w8) (v10:=w10) (v11:=w11) (cU:=w12) (dw:=w13) (cV:=w14) (cW:=w15) (jr:=w16) (ir:=w17) (bK:=bK) hN hP hG p8 Ks
   exact⟨_,.nx,_,C1,rfl,e,.inl rfl,u6,_,iK,Ku,Kv,Kw,Ky,Kz,u16,ZC,rfl,rfl⟩)
 subst he hC;have ik:=arA ps;have c:dM .one cz aax [aa (.im (eE ht)),aa (.im (ig ps))] ((ps.map (·.1)).map .str) C'=aa (cN (ps.map (·.1)).length (.bool aq),C'):=
  sV gh λz hz=>by
   obtain⟨x,hx,rfl⟩:=cY.mp hz
   have po:=Tt (C:=C') hN hP hG x.1;have ix:=ags hN hP hx;have ul:=XC ps x.1;have sm:=Fe (C:=C') 4 (.list ((up ps x.1).map .str)) (by
    show(decide (((up ps x.1).map gh).length<=1000)&&((up ps x.1).map gh).all (yQ 3))=aq
    rw[dW (by rw[bD];lia),Tu,lB];intro d hd
    obtain⟨z,_,rfl⟩:=cY.mp hd
    rfl)
   refine⟨[.str x.1],[aa (.im (.str x.1)),aa (.im (eE ht)),aa (.im (ig ps))],rfl,?_⟩
   simp_arith[cI,iu,gm,po,ix,sm]
 have b:=sU (ps.map (·.1)).length;have g:((ps.map (·.1)).length<=1000000)=True:=eq_true (by rw[bD];lia);refine fW (fP ht ps zn ao ao ao ao ao ao ao ao ao ao ao ao ao ao) rfl rfl ?_ rfl rfl;simp only[fP,ig,dU,sI] at e1 e2 e3 c ik
 generalize(ps.map (·.1)).length=m at c b g
 simp_arith[SQ,fP,Cp,jX,e1,jO,jQ,jN,t1,t2,ad,e2,Qk,ss,e3,Ko,ik,c,b.1,b.2,g,qW]
end
theorem IV{α:Type}(p:α->Bool):∀l:List α,boolsOf (l.map λx=>.bool (p x))=aa (l.map p)
 |[]=>rfl
 |x::l=>by
  show(match boolsOf (l.map λx=>.bool (p x)) with|some t=>aa (p x::t)|none=>ao)=_
  rw[IV p l];rfl
theorem all_false{α:Type}{p:α->Bool}{l:List α}{x:α}(hx:x∈l)(h:p x=aA):nq [.list (l.map λx=>.bool (p x))]=aa (.im (.bool aA)):=by
 unfold nq;simp only[IV,lC];congr 3;rw[List.all_eq_false]
 exact⟨aA,cY.mpr ⟨x,hx,h⟩,bA⟩
theorem Nt{α:Type}(p:α->Bool)(l:List α):ji (l.map λx=>abU (p x))=aq:=tB (D:=λx=>abU (p x)) (λ_=>rfl) l
theorem Nu{α:Type}{fe:FE}{fs:En}{C:Ce}(D:α->aB)(p:α->Bool){l:List α}(h:∀a∈l,∃ts e,uJ T (D a)=aa ts/\fe (cI ts++fs) C=aa (.im (.bool (p a)),e,C)):dM T cz fe fs (l.map D) C=aa (l.map λa=>.bool (p a),C):=by
 have:=nG (T:=T) (ft:=cz) (fe:=fe) (fs:=fs) (C:=C) D (λ_=>aq) (λa=>.bool (p a)) (l:=l) λa m=>by
  obtain⟨ts,e,h1,h2⟩:=h a m
  exact⟨ts,h1,rfl,λ_=>⟨_,e,h2,rfl⟩⟩
 rw[tY.mpr λ_ _=>rfl] at this;exact this
theorem Jj{n most:Int}(ds:List aB)(h:most<ds.length)(hl:ds.length<=1000):su [.im (.tuple ds),.im (.int n),.im (.int most)] C=aa (.im (.bool aA),C):=by
 have g:(ds.length<=1000000)=True:=eqT;have d:decide ((ds.length:Int)>most)=aq:=dW az;refine fW [aa (.im (.tuple ds)),aa (.im (.int n)),aa (.im (.int most))] rfl rfl ?_ rfl rfl;simp_arith[Lq,j9,qL,g,d]
theorem aqe(h:8<z.length)(hl:z.length<=1000):uo [.im (.str z)] C=aa (.im (.bool aA),C):=by
 have hlen:mF [.str z]=aa (.im (.int z.length)):=by
  have e:De (.str z)=aa z.length:=bC (by show z.length<=1000000;lia);simp only[mF,e];rfl
 have c0:=JB lG lG (aG (aP (.int 1))) (aG (dY mF (dF (aN 0) eG))) (aG (aP (.int 8))) (aj:=[aa (.im (.str z))]) (C:=C) (y:=.int z.length) (a:=aq) (b:=aA) rfl (by simp_arith[hlen];rfl) (by show aa (Vl.im (.bool (decide (1<=(z.length:Int)))))=_;rw[dW az]) rfl (by show aa (Vl.im (.bool (decide ((z.length:Int)<=8))))=_;rw[jy az]);refine fW [aa (.im (.str z))] rfl rfl ?_ rfl rfl;simp_arith[Nm,j9,qL,↓c0]
def far:Str:=Ag (bI "z") 9
theorem afd:far.length=9:=bL
theorem Cy:nameB far=aA:=bL
theorem XX:uo [.im (.str far)] C=aa (.im (.bool aA),C):=aqe (by rw[afd];decide) (by rw[afd];decide)
theorem arC(h:nameB z=aq\/z=far):uo [.im (.str z)] C=aa (.im (.bool (nameB z)),C):=by
 rcases h with h|rfl
 .rw[h];exact Ew h
 .rw[Cy];exact XX
theorem adb:zB [.im (eE ht),.im (.int 4)] C=aa (.im (.bool aq),C):=Wt (C:=C) [.tuple (ht.ps.map bZ),.tuple (ht.ranks.map bV),.tuple (ht.leaves.map cX),.tuple (ht.rules.map bR)] (by show 4<=1000;decide)
theorem aeg(p:H9 [.im (.tuple (ht.ps.map bZ))] C=aa (.im (.bool aA),C)):um [.im (eE ht)] C=aa (.im (.bool aA),C):=by
 have a:=adb (C:=C) (ht:=ht);unfold eE at a⊢;refine fW [aa (.im (.tuple [.tuple (ht.ps.map bZ),.tuple (ht.ranks.map bV),.tuple (ht.leaves.map cX),.tuple (ht.rules.map bR)])),ao,ao,ao,ao,ao] rfl rfl ?_ rfl rfl;simp_arith[Bt,a,p]
theorem Jk(hf:(br&&(bl&&bu))=aA)(hp:Fd ht.ps)
  (r:xR [.im (.tuple (ht.ranks.map bV)),.im (.list ((ht.ps.map (·.1)).map .str))] C=aa (.im (.bool br),C))
  (l:br=aq->Bq [.im (.tuple (ht.leaves.map cX)),.im (.list ((ht.ps.map (·.1)).map .str))] C=aa (.im (.bool bl),C))
  (u:br=aq->bl=aq->zH [.im (.tuple (ht.rules.map bR)),.im (.list ((ht.ps.map (·.1)).map .str))] C=aa (.im (.bool bu),C)):um [.im (eE ht)] C=aa (.im (.bool aA),C):=by
 have a:=adb (C:=C) (ht:=ht);have p:=abV (C:=C) hp;have t:dM (.many 2) cz Tp [] (ht.ps.map bZ) C=aa ((ht.ps.map (·.1)).map .str,C):=MJ ht.ps;unfold eE at a⊢;refine fW [aa (.im (.tuple [.tuple (ht.ps.map bZ),.tuple (ht.ranks.map bV),.tuple (ht.leaves.map cX),.tuple (ht.rules.map bR)])),ao,ao,ao,ao,ao] rfl rfl ?_ rfl rfl;have g8:=hp.few;have g:(ht.ps.length<=1000000)=True:=eqT;cases br with
 |false=>simp_arith[Bt,a,p,t,r,g,gO]
 |true=>
  have l:=l rfl;cases bl with
  |false=>simp_arith[Bt,a,p,t,r,l,g,gO]
  |true=>
   have u:=u rfl rfl;cases bu with
   |false=>simp_arith[Bt,a,p,t,r,l,u,g,gO]
   |true=>cases hf
theorem no9(h:ht.ps.length=9):um [.im (eE ht)] C=aa (.im (.bool aA),C):=by
 have m:=Jj (C:=C) (n:=2) (most:=8) (ht.ps.map bZ) (by rw[bD,h];decide) (by rw[bD,h];decide);refine aeg (fW [aa (.im (.tuple (ht.ps.map bZ))),ao,ao] rfl rfl ?_ rfl rfl);simp_arith[HY,m]
theorem arD(h8:ht.ps.length<=8)(h:∀x∈ht.ps,nameB x.1=aq\/x.1=far)(hx:x∈ht.ps)(hf:x.1=far):um [.im (eE ht)] C=aa (.im (.bool aA),C):=by
 have a1:=xV (C:=C) (n:=2) (most:=8) bZ ht.ps az az λx _=>⟨[.str x.1,.str x.2],rfl,rfl,by show 2<=1000;decide⟩
 have t1:=MJ (C:=C) ht.ps;have t2:dM .one cz Lz [] ((ht.ps.map (·.1)).map .str) C=aa ((ht.ps.map (·.1)).map λz=>.bool (nameB z),C):=
  Nu gh nameB λz m=>by
   obtain⟨y,hy,rfl⟩:=cY.mp m
   have:=arC (C:=C) (h y hy)
   exact⟨[.str y.1],_,rfl,by simp_arith[cI,mj,this];rfl⟩
 have b:=all_false (p:=nameB) (l:=ht.ps.map (·.1)) (x:=x.1) (cY.mpr ⟨x,hx,rfl⟩) (by rw[hf];exact Cy);have n:=Nt nameB (ht.ps.map (·.1));have g:(ht.ps.length<=1000000)=True:=eqT;refine aeg (fW [aa (.im (.tuple (ht.ps.map bZ))),ao,ao] rfl rfl ?_ rfl rfl);simp_arith[HY,a1,t1,t2,b,n,g]
theorem aqf{own:List Str}(h0:0<=r.1)(hf:r.2.1=far):HB [.im (bV r),.im (.list (own.map .str))] C=aa (.im (.bool aA),C):=by
 have a:=wB (C:=C) h0;have b:=XX (C:=C);rw[<-hf] at b;refine fW [aa (.im (bV r)),aa (.im (.list (own.map .str))),ao,ao,ao,ao,ao,ao] rfl rfl ?_ rfl rfl;simp_arith[Mh,bV,a,b]
theorem aoA{own:List Str}(h0:0<=r.1)(hm:0<=r.2.2.2.2.2.2)(hg:nameB r.2.1=aq)(hf:r.2.2.1=far):Ht [.im (cX r),.im (.list (own.map .str))] C=aa (.im (.bool aA),C):=by
 have a:=wB (C:=C) h0;have a2:=wB (C:=C) hm;have b:=Ew (C:=C) hg;have b2:=XX (C:=C);rw[<-hf] at b2;refine fW [aa (.im (cX r)),aa (.im (.list (own.map .str))),ao,ao,ao,ao,ao,ao,ao] rfl rfl ?_ rfl rfl;simp_arith[LC,cX,a,a2,b,b2]
theorem aqg{own:List Str}(hp:r.1∈own)(h0:0<=r.2.1)(h7:r.2.2.length=7):HD [.im (bR r),.im (.list (own.map .str))] C=aa (.im (.bool aA),C):=by
 have a:=abW hp;have b:=wB (C:=C) h0;have c:=Jj (C:=C) (n:=2) (most:=6) (r.2.2.map gA) (by rw[bD,h7];decide) (by rw[bD,h7];decide);refine fW [aa (.im (bR r)),aa (.im (.list (own.map .str))),ao,ao,ao] rfl rfl ?_ rfl rfl;simp_arith[Mi,bR,fJ,↓a,b,c]
section
variable{own:List Str}
theorem alW{rk:List fZ}(h:20<rk.length)(hl:rk.length<=60):xR [.im (.tuple (rk.map bV)),.im (.list (own.map .str))] C=aa (.im (.bool aA),C):=by
 have m:=Jj (C:=C) (n:=6) (most:=20) (rk.map bV) (by rw[bD];lia) (by rw[bD];lia);refine fW [aa (.im (.tuple (rk.map bV))),aa (.im (.list (own.map .str)))] rfl rfl ?_ rfl rfl;simp_arith[Ia,m]
theorem ak7{lv:List j8}(h:16<lv.length)(hl:lv.length<=60):Bq [.im (.tuple (lv.map cX)),.im (.list (own.map .str))] C=aa (.im (.bool aA),C):=by
 have m:=Jj (C:=C) (n:=7) (most:=16) (lv.map cX) (by rw[bD];lia) (by rw[bD];lia);refine fW [aa (.im (.tuple (lv.map cX))),aa (.im (.list (own.map .str)))] rfl rfl ?_ rfl rfl;simp_arith[HQ,m]
theorem alX{ru:List cR}(h:10<ru.length)(hl:ru.length<=60):zH [.im (.tuple (ru.map bR)),.im (.list (own.map .str))] C=aa (.im (.bool aA),C):=by
 have m:=Jj (C:=C) (n:=3) (most:=10) (ru.map bR) (by rw[bD];lia) (by rw[bD];lia);refine fW [aa (.im (.tuple (ru.map bR))),aa (.im (.list (own.map .str)))] rfl rfl ?_ rfl rfl;simp_arith[Ib,m]
theorem am7{rk:List fZ}(hz:∀z∈zs,nameB z=aq)(hl:rk.length<=20)(h:∀r∈rk,mD zs own r\/(0<=r.1/\r.2.1=far))(hx:x∈rk)(hf:x.2.1=far):xR [.im (.tuple (rk.map bV)),.im (.list (own.map .str))] C=aa (.im (.bool aA),C):=by
 have a:=xV (C:=C) (n:=6) (most:=20) bV rk az az λr _=>⟨[.int r.1,.str r.2.1,.int r.2.2.1,.str r.2.2.2.1,.int r.2.2.2.2.1,.int r.2.2.2.2.2],rfl,rfl,by show 6<=1000;decide⟩
 have t:dM .one cz SM [aa (.im (.list (own.map .str)))] (rk.map bV) C=aa (rk.map λr=>.bool (nameB r.2.1),C):=
  Nu bV (λr=>nameB r.2.1) λr hr=>by
   refine⟨[bV r],[aa (.im (bV r)),aa (.im (.list (own.map .str)))],rfl,?_⟩
   rcases h r hr with o|⟨h0,e⟩
   .have k:=abX (C:=C) hz o;rw[hz _ o.who];simp_arith[cI,iu,gm,k]
   .have k:=aqf (C:=C) (own:=own) h0 e;rw[e,Cy];simp_arith[cI,iu,gm,k]
 have b:=all_false (p:=λr:fZ=>nameB r.2.1) hx (by rw[hf];exact Cy);have n:=Nt (λr:fZ=>nameB r.2.1) rk;have g:(rk.length<=1000000)=True:=eqT;refine fW [aa (.im (.tuple (rk.map bV))),aa (.im (.list (own.map .str)))] rfl rfl ?_ rfl rfl;simp_arith[Ia,a,t,b,n,g,gO]
theorem alY{lv:List j8}(hz:∀z∈zs,nameB z=aq)(hl:lv.length<=16)(h:∀r∈lv,mC zs own r\/(0<=r.1/\0<=r.2.2.2.2.2.2/\nameB r.2.1=aq/\r.2.2.1=far))(hx:x∈lv)(hf:x.2.2.1=far):Bq [.im (.tuple (lv.map cX)),.im (.list (own.map .str))] C=aa (.im (.bool aA),C):=by
 have a:=xV (C:=C) (n:=7) (most:=16) cX lv az az λr _=>⟨[.int r.1,.str r.2.1,.str r.2.2.1,.str r.2.2.2.1,.int r.2.2.2.2.1,.int r.2.2.2.2.2.1,.int r.2.2.2.2.2.2],rfl,rfl,by show 7<=1000;decide⟩
 have t:dM .one cz Sg [aa (.im (.list (own.map .str)))] (lv.map cX) C=aa (lv.map λr=>.bool (nameB r.2.2.1),C):=
  Nu cX (λr=>nameB r.2.2.1) λr hr=>by
   refine⟨[cX r],[aa (.im (cX r)),aa (.im (.list (own.map .str)))],rfl,?_⟩
   rcases h r hr with o|⟨h0,hm,hg,e⟩
   .have k:=abG (C:=C) hz o;rw[hz _ o.taker];simp_arith[cI,iu,gm,k]
   .have k:=aoA (C:=C) (own:=own) h0 hm hg e;rw[e,Cy];simp_arith[cI,iu,gm,k]
 have b:=all_false (p:=λr:j8=>nameB r.2.2.1) hx (by rw[hf];exact Cy);have n:=Nt (λr:j8=>nameB r.2.2.1) lv;have g:(lv.length<=1000000)=True:=eqT;refine fW [aa (.im (.tuple (lv.map cX))),aa (.im (.list (own.map .str)))] rfl rfl ?_ rfl rfl;simp_arith[HQ,a,t,b,n,g,gO]
theorem am8{ru:List cR}(hl:ru.length<=10)(h:∀r∈ru,nJ own r\/(r.1∈own/\0<=r.2.1/\r.2.2.length=7))(hx:x∈ru)(hf:x.2.2.length=7):zH [.im (.tuple (ru.map bR)),.im (.list (own.map .str))] C=aa (.im (.bool aA),C):=by
 have a:=xV (C:=C) (n:=3) (most:=10) bR ru az az λr _=>⟨[.str r.1,.int r.2.1,fJ r.2.2],rfl,rfl,by show 3<=1000;decide⟩
 have t:dM .one cz SN [aa (.im (.list (own.map .str)))] (ru.map bR) C=aa (ru.map λr=>.bool (decide (r.2.2.length<=6)),C):=
  Nu bR (λr=>decide (r.2.2.length<=6)) λr hr=>by
   refine⟨[bR r],[aa (.im (bR r)),aa (.im (.list (own.map .str)))],rfl,?_⟩
   rcases h r hr with o|⟨hp,h0,e⟩
   .have k:=abY (C:=C) o;rw[dW o.many];simp_arith[cI,iu,gm,k]
   .have k:=aqg (C:=C) hp h0 e;rw[jy (by rw[e];decide)];simp_arith[cI,iu,gm,k]
 have b:=all_false (p:=λr:cR=>decide (r.2.2.length<=6)) hx (by rw[hf];rfl);have n:=Nt (λr:cR=>decide (r.2.2.length<=6)) ru;have g:(ru.length<=1000000)=True:=eqT;refine fW [aa (.im (.tuple (ru.map bR))),aa (.im (.list (own.map .str)))] rfl rfl ?_ rfl rfl;simp_arith[Ib,a,t,b,n,g]
end
theorem alZ(z:Str)(zs:List Str):u5 (.str z) (.list (zs.map .str))=aa (.im (.bool (!decide (z∈zs)))):=by
 have i:=Jh z zs;unfold qK at i;unfold u5;cases hb:inB (.str z) (.list (zs.map .str)) with
 |none=>rw[hb] at i;cases i
 |some b=>
  rw[hb] at i;have e:b=decide (z∈zs):=by simpa using i
  rw[e];rfl
theorem atR:bQ (.list (d::r)) (.int 0)=aa (.im d):=by
 have:gF (d::r) (0:Int)=aa d:=uq (j:=0) rfl;simp only[bQ,rQ,this,lC]
def rep3(c:Nat):Str:=⟨#[c,c,c]⟩
theorem atU(c:Nat):Cw (.str ⟨#[c]⟩) (.int 3)=aa (.im (.str (rep3 c))):=rfl
theorem atV:Cw (.str (bI "z")) (.int 9)=aa (.im (.str far)):=by
 have h:(2:Int)<=9/\1<=(bI "z").length/\(bI "z").length*(9:Int).toNat<=gG/\(Ag (bI "z") (9:Int).toNat).length<=gG:=bL;exact bC (e:=ao) h
theorem arE:(bI "abcdefghijk").cps.toList=(dh 11).map (97+·):=bL
theorem aoB{ps:List (Str×Str)}(h8:ps.length<=8):∃(sp:Str)(r:List Str),dM .one T6 T7 [aa (.im (.list (ps.map bZ)))] (chars (bI "abcdefghijk")) C=aa ((sp::r).map .str,C)/\r.length<=10/\sp∉ps.map (·.1):=by
 have f1:=amJ (fe:=abF) (C:=C) (ps:=ps) rfl;have g:(ps.length<=1000000)=True:=eqT;have c:dM .one T6 T7 [aa (.im (.list (ps.map bZ)))] ((dh 11).map λi=>gh ⟨#[97+i]⟩) C=aa (((dh 11).filter λi=>!decide (rep3 (97+i)∈ps.map (·.1))).map (λi=>.str (rep3 (97+i))),C):=
  nG (λi:Nat=>gh ⟨#[97+i]⟩) (λi=>!decide (rep3 (97+i)∈ps.map (·.1))) (λi=>.str (rep3 (97+i))) λi _=>by
   have m:=atU (97+i);have ni:=alZ (rep3 (97+i)) (ps.map (·.1))
   refine⟨[.str ⟨#[97+i]⟩],rfl,?_,λ_=>⟨.im (.str (rep3 (97+i))),[aa (.im (.str ⟨#[97+i]⟩)),aa (.im (.list (ps.map bZ)))],by simp_arith[cI,iu,gm,m],rfl⟩⟩
   generalize(!decide (rep3 (97+i)∈ps.map (·.1)))=bb at ni
   simp_arith[cI,iu,gm,m,f1,g,↓ni]
 have e:chars (bI "abcdefghijk")=(dh 11).map λi=>gh ⟨#[97+i]⟩:=by
  unfold chars;rw[arE,fj];rfl
 rw[<-e] at c;have ne:((dh 11).filter λi=>!decide (rep3 (97+i)∈ps.map (·.1)))≠[]:=λz=>by
  have all:∀x∈(dh 11).map (λi=>rep3 (97+i)),x∈ps.map (·.1):=λx hx=>by
   obtain⟨i,hi,rfl⟩:=cY.mp hx
   have:=Z2.mp z i hi;simpa using this
  have nd:((dh 11).map (λi=>rep3 (97+i))).Nodup:=by
   rw[acg,tZ];refine aaw (λ{a b} hab e=>hab ?_) (aaK (n:=11));have:(#[97+a,97+a,97+a]:Array Nat)=#[97+b,97+b,97+b]:=congrArg Str.cps e;simp at this;lia
  have:=Wb nd all;rw[bD,bD,oK] at this;lia
 have le:=zp (λi=>!decide (rep3 (97+i)∈ps.map (·.1))) (dh 11);rw[oK] at le;cases hf:(dh 11).filter λi=>!decide (rep3 (97+i)∈ps.map (·.1)) with
 |nil=>exact absurd hf ne
 |cons i t=>
  rw[hf] at c le;have hi:i∈(dh 11).filter λi=>!decide (rep3 (97+i)∈ps.map (·.1)):=by rw[hf];exact eV
  refine⟨rep3 (97+i),t.map λi=>rep3 (97+i),?_,by rw[bD];rw[fY] at le;lia,?_⟩
  .rw[c,dU,dU,fj];rfl
  .have:=(o7.mp hi).2;simpa using this
theorem am9(z:Str)(n:Nat):dM .one cz T5 [aa (.im (.str z))] (kZ 0 n) C=aa (((dh n).map λk:Nat=>(z,0+(k:Int),([]:List nR))).map bR,C):=by
 have:=nG (T:=.one) (ft:=cz) (fe:=T5) (fs:=[aa (.im (.str z))]) (C:=C) (λk:Nat=>pA (0+(k:Int))) (λ_=>aq) (λk=>bR (z,0+(k:Int),[])) (l:=dh n) λk _=>⟨[.int (0+(k:Int))],rfl,rfl,λ_=>⟨.im (bR (z,0+(k:Int),[])),[aa (.im (.int (0+(k:Int)))),aa (.im (.str z))],by
  simp_arith[cI,iu,gm];rfl,rfl⟩⟩
 rw[tY.mpr λ_ _=>rfl] at this;rw[fj];exact this
theorem ad2(a b c:aB):cD (.list [a,b]) (.list [c])=aa (.ow (.list [a,b,c])):=add_l (by show 2+1<=_;decide)
theorem ad3(a b c d:aB):cD (.list [a,b,c]) (.list [d])=aa (.ow (.list [a,b,c,d])):=add_l (by show 3+1<=_;decide)
theorem ad4(a b c d e:aB):cD (.list [a,b,c,d]) (.list [e])=aa (.ow (.list [a,b,c,d,e])):=add_l (by show 4+1<=_;decide)
theorem ad5(a b c d e f:aB):cD (.list [a,b,c,d,e]) (.list [f])=aa (.ow (.list [a,b,c,d,e,f])):=add_l (by show 5+1<=_;decide)
theorem ad6(a b c d e f g:aB):cD (.list [a,b,c,d,e,f]) (.list [g])=aa (.ow (.list [a,b,c,d,e,f,g])):=add_l (by show 6+1<=_;decide)
theorem ad7(a b c d e f g h:aB):cD (.list [a,b,c,d,e,f,g]) (.list [h])=aa (.ow (.list [a,b,c,d,e,f,g,h])):=add_l (by show 7+1<=_;decide)
theorem atX(a b c d e:aB):cD (.list [a,b]) (.list [c,d,e])=aa (.ow (.list [a,b,c,d,e])):=add_l (by show 2+3<=_;decide)
theorem rK{α:Type}(D:α->aB)(l m:List α)(h:l.length+m.length<=1000):cD (.list (l.map D)) (.list (m.map D))=aa (.ow (.list ((l++m).map D))):=by
 rw[j4];exact add_l (by rw[bD,bD];lia)
theorem ana(ht:mO):lq (eE ht)=aq:=by
 show(ji (ht.ps.map bZ)&&(ji (ht.ranks.map bV)&&(ji (ht.leaves.map cX)&&(ji (ht.rules.map bR)&&aq))))=aq
 rw[tB (D:=bZ) (λ_=>rfl),tB (D:=bV) (λ_=>rfl),tB (D:=cX) (λ_=>rfl),Ni];rfl
abbrev YL:=List (Str×Str)×List fZ×List j8×List cR
def wX(q:YL):aB:=.tuple [.list (q.1.map bZ),.list (q.2.1.map bV),.list (q.2.2.1.map cX),.list (q.2.2.2.map bR)]
def tO(q:YL)(b:Bool):Prop:=∀C:Ce,∃ht:mO,yc [.im (.list (q.1.map bZ)),.im (.list (q.2.1.map bV)),.im (.list (q.2.2.1.map cX)),.im (.list (q.2.2.2.map bR))] C=aa (.im (eE ht),C)/\∀C':Ce,um [.im (eE ht)] C'=aa (.im (.bool b),C')
def Gv(b:Bool)(d:aB):Prop:=lq d=aq/\∀C':Ce,um [.im d] C'=aa (.im (.bool b),C')
theorem ade{C:Ce}{l:List YL}(he:fe=Mr)(h:∀q∈l,tO q b):∃ys:List aB,dM .one cz fe [] (l.map wX) C=aa (ys,C)/\ys.length=l.length/\∀y∈ys,Gv b y:=by
 subst he
 obtain⟨ys,C',e,hC,hl,hr⟩:=Nf (T:=.one) (fe:=Mr) (fs:=[]) (λ_ C1=>C1=C) (λ_ y=>Gv b y) (aK:=l.map wX) (C:=C) (k:=0) rfl (λi d C1 hd hC=>by
  subst hC
  obtain⟨q,hq,rfl⟩:=cY.mp (lX hd)
  obtain⟨ht,f1,f2⟩:=h q hq C1
  have i0:bQ (wX q) (.int 0)=aa (.im (.list (q.1.map bZ))):=rfl;have i1:bQ (wX q) (.int 1)=aa (.im (.list (q.2.1.map bV))):=rfl;have i2:bQ (wX q) (.int 2)=aa (.im (.list (q.2.2.1.map cX))):=rfl;have i3:bQ (wX q) (.int 3)=aa (.im (.list (q.2.2.2.map bR))):=rfl
  refine⟨[wX q],.im (eE ht),[aa (.im (wX q))],C1,eE ht,rfl,?_,rfl,⟨ana ht,f2⟩,rfl⟩
  simp_arith[cI,mj,i0,i1,i2,i3,f1])
 subst hC
 refine⟨ys,e,by rw[hl,bD],λy hy=>?_⟩
 obtain⟨i,hi,rfl⟩:=tX hy
 exact hr i _ (fU hi)
theorem Wu:∀{ys:List aB},(∀y∈ys,lq y=aq)->ji ys=aq
 |[],_=>rfl
 |y::ys,h=>by
  show(lq y&&ji ys)=aq
  rw[h y eV,Wu λx hx=>h x (fQ _ hx)];rfl
theorem arF(hz:∀z∈zs,nameB z=aq)(hp:Fd ps)(r20:rk.length<=20)(rr:∀r∈rk,mD zs (ps.map (·.1)) r)(KC:(rk.map (·.1)).Pairwise (·<·))(jq:lv.length<=16)(ll:∀r∈lv,mC zs (ps.map (·.1)) r)(lu:(lv.map (·.1)).Pairwise (·<·)):BV zs ⟨ps,rk,lv,[]⟩:=
 ⟨hz,hp,r20,rr,KC,jq,ll,lu,j5 _,(λ_ m=>nomatch m),uO⟩
theorem Fq{α β:Type}{f:α->β}{l:List α}{x:α}(h:(l.map f).Nodup)(hx:f x∉l.map f):((l++[x]).map f).Nodup:=by
 rw[j4,mZ]
 exact⟨h,ZZ _ _,λa ha b hb e=>hx (by rw[<-show b=f x from gU.mp hb,<-e];exact ha)⟩
def atY:Str:=bI "ann"
theorem arG:nameB atY=aq:=bL
section
variable{zs od:List Str}{row:Int}{rk:List fZ}{lv:List j8}{ru:List cR}(G:Gr zs od row rk lv ru){pt:Str}(G7:pt∈od)
include G
theorem Gr.fit{rk':List fZ}{lv':List j8}{ht:mO}(M:Mk (cJ row od) rk' lv' lz ht):Fd ht.ps:=ac9 G.nm G.po (by have:=G.p8;lia) M.parts M.up
theorem Gr.sub{rk':List fZ}{lv':List j8}{ht:mO}(M:Mk (cJ row od) rk' lv' lz ht):∀z,z∈od->z∈ht.ps.map (·.1):=λz hz=>(M.parts.map (·.1)).mem_iff.mpr (by rw[G.keys];exact hz)
theorem Gr.YM{rk':List fZ}{lv':List j8}{ht:mO}(M:Mk (cJ row od) rk' lv' lz ht)(b1 b2:Bool):BV zs ⟨ht.ps,if b1 then rk else[],if b2 then lv else[],[]⟩:=by
 have s:=G.sub M;have r20:=G.r20;have jq:=G.jq;refine arF G.names.2 (G.fit M) ?_ ?_ ?_ ?_ ?_ ?_
 .cases b1
  .exact j5 _
  .show rk.length<=20;lia
 .cases b1
  .exact λ_ m=>nomatch m
  .exact λr hr=>mD.own (G.ranks r hr) s
 .cases b1
  .exact uO
  .exact G.Ds
 .cases b2
  .exact j5 _
  .show lv.length<=16;lia
 .cases b2
  .exact λ_ m=>nomatch m
  .exact λr hr=>mC.own (G.leaves r hr) s
 .cases b2
  .exact uO
  .exact G.G6
theorem atZ(h:sp∉(cJ row od).map (·.1)):tO (cJ row od++[(sp,pt)],[],[],[]) aA:=λC=>by
 have p8:=G.p8
 obtain⟨ht,e,M⟩:=yg (C:=C) (ps:=cJ row od++[(sp,pt)]) (rk:=[]) (lv:=[]) (ru:=[]) (by rw[gJ,lA,p8];decide) bA bA bA (Fq G.Av h) lJ
 exact⟨ht,e,λC'=>no9 (by rw[M.parts.length_eq,gJ,lA,p8])⟩
theorem at3:tO ((cJ row od).take 7++[(far,bI "")],[],[],[]) aA:=λC=>by
 have p8:=G.p8;have nm:∀x∈(cJ row od).take 7,nameB x.1=aq:=λx hx=>MT G.nm G.po (cY.mpr ⟨x,Dw hx,rfl⟩)
 obtain⟨ht,e,M⟩:=yg (C:=C) (ps:=(cJ row od).take 7++[(far,bI "")]) (rk:=[]) (lv:=[]) (ru:=[]) (by rw[gJ,lA,lZ,p8];decide) bA bA bA
  (Fq (G.Av.sublist ((Ru _ _).map _)) λm=>by
   obtain⟨x,hx,ex⟩:=cY.mp m
   have:=nm x hx;rw[ex,Cy] at this;cases this) lJ
 refine⟨ht,e,λC'=>arD (x:=(far,bI "")) (by rw[M.parts.length_eq,gJ,lA,lZ,p8];decide) (λx hx=>?_) (M.parts.mem_iff.mpr (gw _ (gU.mpr rfl))) rfl⟩
 rcases eO.mp (M.parts.mem_iff.mp hx) with h|h
 .exact .inl (nm x h)
 .rw[gU.mp h];exact .inr rfl
theorem at4(r:fZ):tO (cJ row od,rk++[r],[],[]) aA:=λC=>by
 have p8:=G.p8;have r20:=G.r20
 obtain⟨ht,e,M⟩:=yg (C:=C) (ps:=cJ row od) (rk:=rk++[r]) (lv:=[]) (ru:=[]) az (by rw[gJ,lA,r20];decide) bA bA G.Av lJ
 refine⟨ht,e,λC'=>Jk (br:=aA) (bl:=aq) (bu:=aq) rfl (G.fit M) ?_ (λz=>nomatch z) λz=>nomatch z⟩
 rw[M.ranks];exact alW (by rw[gJ,lA,r20];decide) (by rw[gJ,lA,r20];decide)
theorem at5(r:fZ)(h0:0<=r.1)(hf:r.2.1=far):tO (cJ row od,rk.take 19++[r],[],[]) aA:=λC=>by
 have p8:=G.p8;have r20:=G.r20
 obtain⟨ht,e,M⟩:=yg (C:=C) (ps:=cJ row od) (rk:=rk.take 19++[r]) (lv:=[]) (ru:=[]) az (by rw[gJ,lA,lZ,r20];decide) bA bA G.Av lJ
 refine⟨ht,e,λC'=>Jk (br:=aA) (bl:=aq) (bu:=aq) rfl (G.fit M) ?_ (λz=>nomatch z) λz=>nomatch z⟩
 rw[M.ranks];refine am7 (x:=r) G.names.2 (by rw[gJ,lA,lZ,r20];decide) (λx hx=>?_) (gw _ (gU.mpr rfl)) hf;rcases eO.mp hx with h|h
 .exact .inl (mD.own (G.ranks x (Dw h)) (G.sub M))
 .rw[gU.mp h];exact .inr ⟨h0,hf⟩
theorem at6(r:j8):tO (cJ row od,[],lv++[r],[]) aA:=λC=>by
 have p8:=G.p8;have jq:=G.jq
 obtain⟨ht,e,M⟩:=yg (C:=C) (ps:=cJ row od) (rk:=[]) (lv:=lv++[r]) (ru:=[]) az bA (by rw[gJ,lA,jq];decide) bA G.Av lJ
 have ra:∀C':Ce,xR [.im (.tuple (ht.ranks.map bV)),.im (.list ((ht.ps.map (·.1)).map .str))] C'=aa (.im (.bool aq),C'):=λC'=>by
  rw[M.ranks];have F:BV zs ⟨ht.ps,[],[],[]⟩:=G.YM M aA aA;exact MK (C:=C') F
 refine⟨ht,e,λC'=>Jk (br:=aq) (bl:=aA) (bu:=aq) rfl (G.fit M) (ra C') (λ_=>?_) λ_ z=>nomatch z⟩
 rw[M.leaves];exact ak7 (by rw[gJ,lA,jq];decide) (by rw[gJ,lA,jq];decide)
theorem at7(r:j8)(h0:0<=r.1)(hm:0<=r.2.2.2.2.2.2)(hg:nameB r.2.1=aq)(hf:r.2.2.1=far):tO (cJ row od,[],lv.take 15++[r],[]) aA:=λC=>by
 have p8:=G.p8;have jq:=G.jq
 obtain⟨ht,e,M⟩:=yg (C:=C) (ps:=cJ row od) (rk:=[]) (lv:=lv.take 15++[r]) (ru:=[]) az bA (by rw[gJ,lA,lZ,jq];decide) bA G.Av lJ
 have ra:∀C':Ce,xR [.im (.tuple (ht.ranks.map bV)),.im (.list ((ht.ps.map (·.1)).map .str))] C'=aa (.im (.bool aq),C'):=λC'=>by
  rw[M.ranks];have F:BV zs ⟨ht.ps,[],[],[]⟩:=G.YM M aA aA;exact MK (C:=C') F
 refine⟨ht,e,λC'=>Jk (br:=aq) (bl:=aA) (bu:=aq) rfl (G.fit M) (ra C') (λ_=>?_) λ_ z=>nomatch z⟩
 rw[M.leaves];refine alY (x:=r) G.names.2 (by rw[gJ,lA,lZ,jq];decide) (λx hx=>?_) (gw _ (gU.mpr rfl)) hf;rcases eO.mp hx with h|h
 .exact .inl (mC.own (G.leaves x (Dw h)) (G.sub M))
 .rw[gU.mp h];exact .inr ⟨h0,hm,hg,hf⟩
theorem agV(hu:lz.length<60)(nu:(lz.map kj).Nodup)(bad:∀(ht:mO)(C':Ce),Mk (cJ row od) rk lv lz ht->zH [.im (.tuple (ht.rules.map bR)),.im (.list ((ht.ps.map (·.1)).map .str))] C'=aa (.im (.bool aA),C')):tO (cJ row od,rk,lv,lz) aA:=λC=>by
 have p8:=G.p8;have r20:=G.r20;have jq:=G.jq
 obtain⟨ht,e,M⟩:=yg (C:=C) (ps:=cJ row od) (rk:=rk) (lv:=lv) (ru:=lz) az az az hu G.Av nu
 have F:BV zs ⟨ht.ps,rk,lv,[]⟩:=G.YM M aq aq
 refine⟨ht,e,λC'=>Jk (br:=aq) (bl:=aq) (bu:=aA) rfl (G.fit M) ?_ (λ_=>?_) λ_ _=>bad ht C' M⟩
 .rw[M.ranks];have k:=MK (C:=C') F;simp only at k;exact k
 .rw[M.leaves];have k:=abH (C:=C') F;simp only at k;exact k
include G7
theorem at8(r:cR)(h1:r.1=pt)(h2:r.2.1=4)(h7:r.2.2.length=7):tO (cJ row od,rk,lv,ru.drop 1++[r]) aA:=by
 have iK:=G.iK;have u1:=G.u1;refine agV G (by rw[gJ,t7];show ru.length-1+1<60;lia) (Fq (G.unlike.sublist ((aiW _ _).map _)) λm=>?_) λht C' M=>?_
 .obtain⟨x,hx,ex⟩:=cY.mp m
  have:=G.big x (aaa hx);have e2:x.2.1=r.2.1:=congrArg N7 ex;lia
 .refine am8 (x:=r) (by rw[M.rules.length_eq,gJ,t7];show ru.length-1+1<=10;lia) (λx hx=>?_) (M.rules.mem_iff.mpr (gw _ (gU.mpr rfl))) h7;rcases eO.mp (M.rules.mem_iff.mp hx) with h|h
  .exact .inl (nJ.own (G.rules x (aaa h)) (G.sub M))
  .rw[gU.mp h];exact .inr ⟨by rw[h1];exact G.sub M pt G7,az,h7⟩
omit G7 in
theorem at9(n:Nat)(hn:n+ru.length=10):tO (cJ row od,rk,lv,ru++((dh n).map (λk:Nat=>(pt,0+(k:Int),([]:List nR)))++[(pt,77,[])])) aA:=by
 have u1:=G.u1;have ln:(ru++((dh n).map (λk:Nat=>(pt,0+(k:Int),([]:List nR)))++[(pt,77,[])])).length=11:=by
  rw[gJ,gJ,bD,oK];show ru.length+(n+1)=11;lia
 have nd1:(((dh n).map (λk:Nat=>(pt,0+(k:Int),([]:List nR)))).map kj).Nodup:=by
  rw[fj,acg,tZ];refine aaw (λ{a b} hab e=>hab ?_) (aaK (n:=n));have:0+(a:Int)=0+(b:Int):=congrArg N7 e;lia
 refine agV G (by rw[ln];decide) ?_ λht C' M=>alX (by rw[M.rules.length_eq,ln];decide) (by rw[M.rules.length_eq,ln];decide)
 rw[j4,mZ]
 refine⟨G.unlike,Fq nd1 λm=>?_,λa ha b hb e=>?_⟩
 .obtain⟨x,hx,ex⟩:=cY.mp m
  obtain⟨k,hk,rfl⟩:=cY.mp hx
  have:=qZ.mp hk;have e2:0+(k:Int)=77:=congrArg N7 ex;lia
 .obtain⟨x,hx,rfl⟩:=cY.mp ha
  obtain⟨y,hy,rfl⟩:=cY.mp hb
  have h1:=G.big x hx;have e2:x.2.1=y.2.1:=congrArg N7 e;rcases eO.mp hy with h|h
  .obtain⟨k,hk,rfl⟩:=cY.mp h
   have:=qZ.mp hk;have e3:x.2.1=0+(k:Int):=e2;lia
  .rw[gU.mp h] at e2;have e3:x.2.1=77:=e2;lia
end
section
variable{C:Ce}{zs od:List Str}{row:Int}{rk:List fZ}{lv:List j8}{ru:List cR}(G:Gr zs od row rk lv ru)
include G
theorem anb:∃ys:List aB,Np [.im (.list ((cJ row od).map bZ)),.im (.list (rk.map bV)),.im (.list (lv.map cX)),.im (.list (ru.map bR))] C=aa (.ow (.list ys),C)/\ys.length=8/\∀y∈ys,Gv aA y:=by
 refine hide λGG gg=>?_
 have p8:=G.p8;have r20:=G.r20;have jq:=G.jq;have iK:=G.iK;have u1:=G.u1
 obtain⟨x0,m0,a0⟩:=O9 (ps:=cJ row od) (k:=0) az
 have px:∀p:Str×Str,bQ (bZ p) (.int 0)=aa (.im (.str p.1)):=λp=>rfl
 have G7:x0.1∈od:=by rw[<-G.keys];exact cY.mpr ⟨x0,m0,rfl⟩
 obtain⟨pt,ept⟩:∃pt,pt=x0.1:=⟨_,rfl⟩
 have px:=px x0;rw[<-ept] at G7 px
 obtain⟨sp,r,ZD,rl,spn⟩:=aoB (C:=C) (ps:=cJ row od) az
 have w1:=atZ G (pt:=pt) spn;have w2:=at3 G;have w3:=at4 G (60,bI "ann",1,pt,0,1);have w4:=at5 G (60,far,1,pt,0,1) (show(0:Int)<=60 by decide) rfl;have w5:=at6 G (40,bI "ann",bI "ben",pt,0,1,2);have w6:=at8 G G7 (pt,4,cN 7 (1,bI "")) rfl rfl rfl;have w7:=at7 G (40,bI "ann",far,pt,0,1,2) (show(0:Int)<=40 by decide) (show(0:Int)<=2 by decide) arG rfl
 obtain⟨n,hn⟩:∃n:Nat,n+ru.length=10:=⟨10-ru.length,az⟩
 have w8:=at9 G (pt:=pt) n hn;have A1:cD (.list ((cJ row od).map bZ)) (.list [.tuple [.str sp,.str pt]])=aa (.ow (.list ((cJ row od++[(sp,pt)]).map bZ))):=rK bZ (cJ row od) [(sp,pt)] (by rw[lA];lia);have A2:cD (.list (((cJ row od).take 7).map bZ)) (.list [.tuple [.str far,.str (bI "")]])=aa (.ow (.list (((cJ row od).take 7++[(far,bI "")]).map bZ))):=rK bZ ((cJ row od).take 7) [(far,bI "")] (by rw[lA,lZ];lia);have A3:cD (.list (rk.map bV)) (.list [.tuple [.int 60,.str (bI "ann"),.int 1,.str pt,.int 0,.int 1]])=aa (.ow (.list ((rk++[(60,bI "ann",1,pt,0,1)]).map bV))):=rK bV rk [(60,bI "ann",1,pt,0,1)] (by rw[lA];lia);have A4:cD (.list ((rk.take 19).map bV)) (.list [.tuple [.int 60,.str far,.int 1,.str pt,.int 0,.int 1]])=aa (.ow (.list ((rk.take 19++[(60,far,1,pt,0,1)]).map bV))):=rK bV (rk.take 19) [(60,far,1,pt,0,1)] (by rw[lA,lZ];lia);have A5:cD (.list (lv.map cX)) (.list [.tuple [.int 40,.str (bI "ann"),.str (bI "ben"),.str pt,.int 0,.int 1,.int 2]])=aa (.ow (.list ((lv++[(40,bI "ann",bI "ben",pt,0,1,2)]).map cX))):=rK cX lv [(40,bI "ann",bI "ben",pt,0,1,2)] (by rw[lA];lia);have A6:cD (.list ((ru.drop 1).map bR)) (.list [.tuple [.str pt,.int 4,.tuple ((cN 7 ((1:Int),bI "")).map gA)]])=aa (.ow (.list ((ru.drop 1++[(pt,4,cN 7 (1,bI ""))]).map bR))):=rK bR (ru.drop 1) [(pt,4,cN 7 (1,bI ""))] (by rw[lA,t7];lia);have A7:cD (.list ((lv.take 15).map cX)) (.list [.tuple [.int 40,.str (bI "ann"),.str far,.str pt,.int 0,.int 1,.int 2]])=aa (.ow (.list ((lv.take 15++[(40,bI "ann",far,pt,0,1,2)]).map cX))):=rK cX (lv.take 15) [(40,bI "ann",far,pt,0,1,2)] (by rw[lA,lZ];lia);have rc:=am9 (C:=C) pt n
 obtain⟨aM,agt⟩:∃aM:List cR,aM=(dh n).map λk:Nat=>(pt,0+(k:Int),([]:List nR)):=⟨_,rfl⟩
 have rl2:aM.length=n:=by rw[agt,bD,oK]
 rw[<-agt] at rc w8;have A8:cD (.list (aM.map bR)) (.list [.tuple [.str pt,.int 77,.tuple []]])=aa (.ow (.list ((aM++[(pt,77,[])]).map bR))):=rK bR aM [(pt,77,[])] (by rw[lA];lia);have A9:=rK bR ru (aM++[(pt,77,[])]) (by rw[gJ,lA];lia);have m7:XN (.tuple [.tuple [.int 1,.str (bI "")]]) (.int 7)=aa (.im (.tuple ((cN 7 ((1:Int),bI "")).map gA))):=rfl
 obtain⟨ys,c,yl,yn⟩:=ade (fe:=Mr) (C:=C) (b:=aA) (l:=[(cJ row od++[(sp,pt)],[],[],[]),((cJ row od).take 7++[(far,bI "")],[],[],[]),(cJ row od,rk++[(60,bI "ann",1,pt,0,1)],[],[]),(cJ row od,rk.take 19++[(60,far,1,pt,0,1)],[],[]),(cJ row od,[],lv++[(40,bI "ann",bI "ben",pt,0,1,2)],[]),(cJ row od,rk,lv,ru.drop 1++[(pt,4,cN 7 (1,bI ""))]),(cJ row od,[],lv.take 15++[(40,bI "ann",far,pt,0,1,2)],[]),(cJ row od,rk,lv,ru++(aM++[(pt,77,[])]))]) rfl (λq hq=>by
  simp only[cg,kE,or_false] at hq;rcases hq with rfl|rfl|rfl|rfl|rfl|rfl|rfl|rfl
  .exact w1
  .exact w2
  .exact w3
  .exact w4
  .exact w5
  .exact w6
  .exact w7
  .exact w8)
 clear w1 w2 w3 w4 w5 w6 w7 w8;have s7:=yf bZ (cJ row od) (k:=7) bA;have s19:=yf bV rk (k:=19) bA;have s15:=yf cX lv (k:=15) bA;have s1:=O8 bR ru (k:=1) bA;rw[show(7:Int).toNat=7 from rfl] at s7;rw[show(19:Int).toNat=19 from rfl] at s19;rw[show(15:Int).toNat=15 from rfl] at s15;rw[show(1:Int).toNat=1 from rfl] at s1;have yl:ys.length=8:=yl;have gy:(ys.length<=1000000)=True:=eqT;have ny:=Wu λy hy=>(yn y hy).1
 have n1:=Nh (sp::r);have g1:(r.length+1<=1000000)=True:=eqT;have n2:=Ni aM;have g2:(aM.length<=1000000)=True:=eqT;have g3:(ru.length<=1000000)=True:=eqT;rw[dU] at ZD n1;have a0:gF ((cJ row od).map bZ) 0=aa (bZ x0):=a0;have tn:(10-(ru.length:Int)).toNat=n:=az;refine gg ⟨ys,fW [aa (.im (.list ((cJ row od).map bZ))),aa (.im (.list (rk.map bV))),aa (.im (.list (lv.map cX))),aa (.im (.list (ru.map bR))),ao,ao,ao,ao,ao,ao] rfl rfl ?_ rfl rfl,yl,yn⟩;simp only[dU,sI,wX] at c;generalize cJ row od=ps at a0 ZD A1 A2 s7 c;generalize ps++[(sp,pt)]=q1 at A1 c;generalize ps.take 7++[(far,bI "")]=q2 at A2 c;generalize rk++[(60,bI "ann",1,pt,0,1)]=q3 at A3 c;generalize rk.take 19++[(60,far,1,pt,0,1)]=q4 at A4 c;generalize lv++[(40,bI "ann",bI "ben",pt,0,1,2)]=q5 at A5 c;generalize ru.drop 1++[(pt,4,cN 7 (1,bI ""))]=q6 at A6 c;generalize lv.take 15++[(40,bI "ann",far,pt,0,1,2)]=q7 at A7 c;generalize ru++(aM++[(pt,77,[])])=q9 at A9 c;simp_arith[Vr,a0,px,atV,ZD,n1,g1,atR,m7,A1,jO,jN,jQ,s7,A2,A3,s19,A4,A5,s1,A6,s15,A7,g3,oh,yO (m:=10-(ru.length:Int)) az az,tn,rc,n2,g2,A8,A9,ad2,ad3,ad4,ad5,ad6,ad7,c,gy,ny]
end
theorem Jl{α:Type}(l:List α)(n:Nat):(l.take n++l.drop (n+1)).Sublist l:=by
 have h:(l.drop (n+1)).Sublist (l.drop n):=by
  have e:l.drop (n+1)=(l.drop n).drop 1:=by rw[List.drop_drop]
  rw[e];exact aiW 1 _
 have:=(rY (l.take n)).append h;rw[Rn] at this;exact this
theorem jV.take(h:jV zs ps)(n:Nat):jV zs (ps.take n):=λi x hx=>by
 refine h i x ?_;rw[Ro] at hx;split at hx
 .exact hx
 .cases hx
theorem af4(hN:Names zs)(hP:jV zs ps)(h8:ps.length<=8)(r20:rk.length<=20)(rr:∀r∈rk,mD zs (ps.map (·.1)) r)(KC:(rk.map (·.1)).Pairwise (·<·))(jq:lv.length<=16)(ll:∀r∈lv,mC zs (ps.map (·.1)) r)(lu:(lv.map (·.1)).Pairwise (·<·))(iK:ru.length<=10)(uu:∀r∈ru,nJ (ps.map (·.1)) r)(nu:(ru.map kj).Nodup):tO (ps,rk,lv,ru) aq:=λC=>by
 obtain⟨ht,e,M⟩:=yg (C:=C) (ps:=ps) (rk:=rk) (lv:=lv) (ru:=ru) az az az az (vZ hN hP) nu
 exact⟨ht,e,λC'=>acs (afZ hN hP h8 M r20 rr KC jq ll lu iK uu)⟩
section
variable{zs od:List Str}{row:Int}{rk:List fZ}{lv:List j8}{ru:List cR}(G:Gr zs od row rk lv ru)
include G
theorem JT(hr:rk'.Sublist rk)(hl:lv'.Sublist lv)(iK:lz.length<=10)(uu:∀r∈lz,nJ od r)(nu:(lz.map kj).Nodup):tO (cJ row od,rk',lv',lz) aq:=by
 have p8:=G.p8;have r20:=G.r20;have jq:=G.jq;exact af4 G.nm G.po az (by have:=hr.length_le;lia) (λr h=>G.rk' r (G.ranks r (hr.subset h))) (G.Ds.sublist (hr.map _)) (by have:=hl.length_le;lia) (λr h=>G.lv' r (G.leaves r (hl.subset h))) (G.G6.sublist (hl.map _)) iK (λr h=>by rw[G.keys];exact uu r h) nu
theorem asS:tO ((cJ row od).take 1,[],[],[]) aq:=
 af4 G.nm (jV.take G.po 1) (by rw[lZ];lia) (j5 _) (λ_ m=>nomatch m) uO (j5 _) (λ_ m=>nomatch m) uO (j5 _) (λ_ m=>nomatch m) lJ
theorem aqh(h:Bf L C b (j+4)):∃(ys:List aB)(C':Ce),O6 [.ce b,.im (.list ((cJ row od).map bZ)),.im (.list (rk.map bV)),.im (.list (lv.map cX)),.im (.list (ru.map bR))] C=aa (.ow (.list ys),C')/\ys.length=6/\(∀y∈ys,Gv aq y)/\Bf L C' b j:=by
 refine hide λGG gg=>?_
 have p8:=G.p8;have r20:=G.r20;have jq:=G.jq;have iK:=G.iK;have u1:=G.u1
 obtain⟨a,C1,e1,a1,b1,oJ⟩:=kO (m:=20) h bA bA
 obtain⟨d,C2,e2,a2,b2,hB2⟩:=kO (m:=16) oJ bA bA
 obtain⟨c,C3,e3,a3,b3,hB3⟩:=kO (m:=(ru.length:Int)) hB2 az az
 obtain⟨t,C4,e4,a4,b4,xH⟩:=kO (m:=6) hB3 bA bA
 have hc:c.toNat<ru.length:=az
 obtain⟨x,ex⟩:∃x,x=ru[c.toNat]:=⟨_,rfl⟩
 have gx:ru[c.toNat]?=aa x:=by rw[fU hc,ex]
 have mx:x∈ru:=lX gx;have ix:gF (ru.map bR) c=aa (bR x):=by
  obtain⟨n,rfl⟩:=Rj a3
  exact uq (j:=n) (by rw[jC,show ru[n]?=aa x from gx];rfl)
 have sx:=aoq x.2.2 a4;have rx:=G.rules x mx;have f1:=yf bV rk a1;have f2:=O8 bV rk (k:=a+1) az;have f3:=yf cX lv a2;have f4:=O8 cX lv (k:=d+1) az;have f5:=yf bR ru a3;have f6:=O8 bR ru (k:=c+1) az;have f7:=yf bZ (cJ row od) (k:=1) bA;rw[show(a+1).toNat=a.toNat+1 by lia] at f2;rw[show(d+1).toNat=d.toNat+1 by lia] at f4;rw[show(c+1).toNat=c.toNat+1 by lia] at f6;rw[show(1:Int).toNat=1 from rfl] at f7;have A1:=rK bV (rk.take a.toNat) (rk.drop (a.toNat+1)) (by rw[lZ,t7];lia);have A2:=rK cX (lv.take d.toNat) (lv.drop (d.toNat+1)) (by rw[lZ,t7];lia);have A3:=rK bR (ru.take c.toNat) (ru.drop (c.toNat+1)) (by rw[lZ,t7];lia)
 obtain⟨y,hy⟩:∃y:cR,y=(x.1,x.2.1,x.2.2.take t.toNat):=⟨_,rfl⟩
 have A4:cD (.list ((ru.take c.toNat).map bR)) (.list [.tuple [.str x.1,.int x.2.1,fJ (x.2.2.take t.toNat)]])=aa (.ow (.list ((ru.take c.toNat++[y]).map bR))):=by
  rw[hy];exact rK bR (ru.take c.toNat) [(x.1,x.2.1,x.2.2.take t.toNat)] (by rw[lZ,lA];lia)
 have A5:=rK bR (ru.take c.toNat++[y]) (ru.drop (c.toNat+1)) (by rw[gJ,lZ,t7,lA];lia);have ks:(ru.take c.toNat++[y]++ru.drop (c.toNat+1)).map kj=ru.map kj:=by
  have e0:ru=ru.take c.toNat++([x]++ru.drop (c.toNat+1)):=by
   rw[List.singleton_append,ex,<-ZP hc,Rn]
  have:(ru.take c.toNat++[y]++ru.drop (c.toNat+1)).map kj=(ru.take c.toNat++([x]++ru.drop (c.toNat+1))).map kj:=by
   rw[qX,j4,j4,j4,j4,hy];rfl
  rw[this,<-e0]
 have w1:=JT G (Jl rk a.toNat) (rY lv) iK G.rules G.unlike;have w2:=JT G (rY rk) (Jl lv d.toNat) iK G.rules G.unlike;have w3:=JT G (rY rk) (rY lv) (lz:=ru.take c.toNat++ru.drop (c.toNat+1)) (by have:=(Jl ru c.toNat).length_le;lia) (λr hr=>G.rules r ((Jl ru c.toNat).subset hr)) (G.unlike.sublist ((Jl ru c.toNat).map _));have w4:=JT G (aaJ rk) (aaJ lv) (lz:=[]) (j5 _) (λ_ m=>nomatch m) lJ;have w5:=asS G;have w6:=JT G (rY rk) (rY lv) (lz:=ru.take c.toNat++[y]++ru.drop (c.toNat+1)) (by have:=congrArg vY ks;rw[bD,bD] at this;lia) (λr hr=>by
  rcases eO.mp hr with hr|hr
  .rcases eO.mp hr with hr|hr
   .exact G.rules r (Dw hr)
   .rw[gU.mp hr,hy]
    exact⟨rx.part,rx.sum,by show(x.2.2.take t.toNat).length<=6;have:=rx.many;rw[lZ];lia,λs hs=>rx.seats s (Dw hs)⟩
  .exact G.rules r (aaa hr)) (by rw[ks];exact G.unlike)
 obtain⟨ys,cc,yl,yn⟩:=ade (fe:=acq) (C:=C4) (b:=aq) (l:=[(cJ row od,rk.take a.toNat++rk.drop (a.toNat+1),lv,ru),(cJ row od,rk,lv.take d.toNat++lv.drop (d.toNat+1),ru),(cJ row od,rk,lv,ru.take c.toNat++ru.drop (c.toNat+1)),(cJ row od,[],[],[]),((cJ row od).take 1,[],[],[]),(cJ row od,rk,lv,ru.take c.toNat++[y]++ru.drop (c.toNat+1))]) rfl (λq hq=>by
  simp only[cg,kE,or_false] at hq;rcases hq with rfl|rfl|rfl|rfl|rfl|rfl
  .exact w1
  .exact w2
  .exact w3
  .exact w4
  .exact w5
  .exact w6)
 clear w1 w2 w3 w4 w5 w6;have yl:ys.length=6:=yl;have gy:(ys.length<=1000000)=True:=eqT;have ny:=Wu λy hy=>(yn y hy).1
 have g3:(ru.length<=1000000)=True:=eqT;refine gg ⟨ys,C4,fW [aa (.ce b),aa (.im (.list ((cJ row od).map bZ))),aa (.im (.list (rk.map bV))),aa (.im (.list (lv.map cX))),aa (.im (.list (ru.map bR))),ao,ao,ao,ao,ao,ao,ao] rfl rfl ?_ rfl (h.eq xH),yl,yn,xH⟩;simp only[dU,sI,wX] at cc;generalize cJ row od=ps at f7 cc;generalize rk.take a.toNat++rk.drop (a.toNat+1)=q1 at A1 cc;generalize lv.take d.toNat++lv.drop (d.toNat+1)=q2 at A2 cc;generalize ru.take c.toNat++ru.drop (c.toNat+1)=q3 at A3 cc;generalize ru.take c.toNat++[y]++ru.drop (c.toNat+1)=q6 at A5 cc;generalize ru.take c.toNat++[y]=q5 at A4 A5;simp_arith[Xe,e1,e2,e3,g3,ix,bR,jO,jN,jQ,f1,f2,A1,f3,f4,A2,f5,f6,A3,f7,atX,e4,sx,A4,A5,ad5,cc,gy,ny]
end
theorem al0(h:∀y∈ys,Gv aA y):dM .one cz Wo [] ys C=aa (cN ys.length (.bool aq),C):=by
 have:=sV (T:=.one) (fe:=Wo) (fs:=[]) (C:=C) (λd:aB=>d) (l:=ys) λd hd=>by
  have k:=(h d hd).2 C
  exact⟨[d],[aa (.im d)],rfl,by simp_arith[cI,mj,k,Gq]⟩
 rw[show ys.map (λd=>d)=ys from Mt ys] at this;exact this
theorem anc(h:∀y∈ys,Gv aq y):dM .one cz Wn [] ys C=aa (cN ys.length (.bool aq),C):=by
 have:=sV (T:=.one) (fe:=Wn) (fs:=[]) (C:=C) (λd:aB=>d) (l:=ys) λd hd=>by
  have k:=(h d hd).2 C
  exact⟨[d],[aa (.im d)],rfl,by simp_arith[cI,mj,k,Gq]⟩
 rw[show ys.map (λd=>d)=ys from Mt ys] at this;exact this
theorem aoC{C:Ce}{v2 v3 v4 v5 v6 v7 v8 v9:Option Vl}(k0:0<=k)(k9:k<=9):
  ∃(C':Ce)(w2 w3 w4 w5 w6 w7 w8 w9:Option Vl),Oc [aa (.sc ns),aa (.im (.int k)),v2,v3,v4,v5,v6,v7,v8,v9] C=aa (.nx,[aa (.sc ns),aa (.im (.int k)),w2,w3,w4,w5,w6,w7,w8,w9],C'):=by
 obtain⟨x,y,hb,x0,y0,y3⟩:=aru (C:=C) (ns:=ns) k0 k9
 have hB0:=arj C x0 y0 y3
 obtain⟨zs,C1,e2,hN,h9,oJ⟩:=aom (m:=9) (j:=799760) hB0 bA bA
 have h9':zs.length=9:=by rw[h9];rfl
 obtain⟨od,row,rk,lv,ru,C2,e3,G,hB2⟩:=aou (j:=799360) h9' hN oJ
 have p8:=G.p8;have r20:=G.r20;have jq:=G.jq;have iK:=G.iK
 obtain⟨ht,e4,M⟩:=yg (C:=C2) (ps:=cJ row od) (rk:=rk) (lv:=lv) (ru:=ru) az az az az G.Av G.unlike
 have hG:=G.gen M;have F:=afZ G.nm G.po az M az (λr h=>G.rk' r (G.ranks r h)) G.Ds az (λr h=>G.lv' r (G.leaves r h)) G.G6 iK (λr h=>by rw[G.keys];exact G.rules r h);have hr:=apF G.nm.2 G.po hG;have is:=acs (C:=C2) F;have rr:=am6 (C:=C2) (zn:=zs) G.nm G.po hG p8 az (by rw[M.ranks];exact r20);rw[M.ranks] at rr;have sr:=am2 (C:=C2) (dp:=.list ((cJ row od).map bZ)) G.nm G.po hG M.rules
 obtain⟨ys,e5,yl,yn⟩:=anb (C:=C2) G
 obtain⟨xs,C3,e6,xl,xn,hB3⟩:=aqh (C:=C2) G (j:=799356) hB2
 have c1:=al0 (C:=C2) yn;have c2:=anc (C:=C3) xn;have b1:=sU ys.length;have b2:=sU xs.length;have g1:(ys.length<=1000000)=True:=eqT;have g2:(xs.length<=1000000)=True:=eqT;have nb:PJ (.bool aq) (.bool aq)=aa (.im (.bool aA)):=rfl;have ne:qJ (.str (eE ht).shown) (.str (eE ht).shown)=aa (.im (.bool aA)):=by simp[qJ,yX]
 refine⟨C3,aa (.ce C.length),aa (.im (.list (zs.map .str))),aa (.im (.list ((cJ row od).map bZ))),aa (.im (.list (rk.map bV))),aa (.im (.list (lv.map cX))),aa (.im (.list (ru.map bR))),aa (.im (eE ht)),aa (.im (.str (eE ht).shown)),?_⟩
 simp_arith[Oc,JP,hb,intsOf,e2,e3,e4,hr,is,nb,rr,sr,ne,e5,c1,b1.1,b1.2,g1,e6,c2,b2.1,b2.2,g2,qW]
theorem aoD(ns:List Int)(h:ns.length<=63):∃C',Gu [.sc ns] []=aa (.im (.bool aq),C'):=by
 obtain⟨m,hm,m1,m2⟩:∃m:Int,(1+if(ns.length:Int)<3 then(ns.length:Int) else 3)=m/\0<=m/\m<=4:=⟨_,rfl,by split<;>lia,by split<;>lia⟩
 obtain⟨aW,C',e,v1,v2,v3,v4,v5,v6,v7,v8,v9,he⟩:=uV (g:=bY 1) (body:=Oc) (aK:=kZ 0 m.toNat) (aj:=[aa (.sc ns),ao,ao,ao,ao,ao,ao,ao,ao,ao]) (C:=[])
  (λi aj C1=>∃v1 v2 v3 v4 v5 v6 v7 v8 v9:Option Vl,aj=[aa (.sc ns),v1,v2,v3,v4,v5,v6,v7,v8,v9])
  ⟨ao,ao,ao,ao,ao,ao,ao,ao,ao,rfl⟩ (λi d aj C1 hd hI=>by
   obtain⟨v1,v2,v3,v4,v5,v6,v7,v8,v9,rfl⟩:=hI
   obtain⟨rfl,hi⟩:=zV hd
   obtain⟨C2,w2,w3,w4,w5,w6,w7,w8,w9,e⟩:=aoC (C:=C1) (ns:=ns) (k:=0+(i:Int)) (v2:=v2) (v3:=v3) (v4:=v4) (v5:=v5) (v6:=v6) (v7:=v7) (v8:=v8) (v9:=v9) az az
   exact⟨_,.nx,_,C2,rfl,e,.inl rfl,_,w2,w3,w4,w5,w6,w7,w8,w9,rfl⟩)
 subst he
 refine⟨C'.take 0,?_⟩
 unfold Gu fN;rw[bC (show[Vl.sc ns].length=1 from rfl),show([Vl.sc ns].map aa++cN (10-[Vl.sc ns].length) ao)=[aa (.sc ns),ao,ao,ao,ao,ao,ao,ao,ao,ao] from rfl];simp_arith[Ym,jX,oh,Ac,Pu,hm,yO (m:=m) az az,e,Jy]
theorem all_mk{l:aaO}{w:dD}{K:bw}{h:cu}{fa:aH}(X:K.In h)(G:h.Ns iw mg)(hfa:mg "law"=aa (.ref fa))
  (d0:gZ K "is_name" Nj)
  (d1:gZ K "is_number" Ue)
  (d2:gZ K "is_house" M3)
  (d3:gZ K "are_parts" zG)
  (d4:gZ K "comes_to_an_end" Rx)
  (d5:gZ K "are_ranks" HW)
  (d6:gZ K "is_rank_row" Th)
  (d7:gZ K "are_leaves" HJ)
  (d8:gZ K "is_leave_row" Sx)
  (d9:gZ K "are_rules" HX)
  (d10:gZ K "is_rule_row" Mf)
  (d11:gZ K "is_tuple_of" Ti)
  (d12:gZ K "are_tuples_of" Lp)
  (d13:gZ K "is_rising" Mu)
  (d14:gZ K "is_from_nought" RL)
  (d15:gZ K "is_rank" Vo)
  (d16:gZ K "are_days" UW)
  (d17:gZ K "parts_over" Mp)
  (d18:gZ K "rank_of" Nk)
  (d19:gZ K "holders_of" HN)
  (d20:gZ K "seats_of" Il)
  (d21:gZ K "rules_for" Mw)
  (d22:gZ K "_law_box" XQ)
  (d23:gZ K "_law_take" Xc)
  (d24:gZ K "_law_names" EY)
  (d25:gZ K "_law_same" Ji)
  (d26:gZ K "_law_great" Fb)
  (d27:gZ K "_law_house" Wj)
  (d28:gZ K "_law_ranks_right" DX)
  (d29:gZ K "_law_seats_right" Hs)
  (d30:gZ K "_law_beyond" By)
  (d31:gZ K "_law_less" O4)
  (d32:gZ K "law" JF)
  (Qp:lM K iw "abs"=aa ao)
  (pJ:lM K iw "all"=aa ao)
  (Gg:lM K iw "bool"=aa ao)
  (JG:lM K iw "int"=aa ao)
  (oN:lM K iw "isinstance"=aa ao)
  (rJ:lM K iw "len"=aa ao)
  (Gh:lM K iw "list"=aa ao)
  (Gs:lM K iw "max"=aa ao)
  (Yk:lM K iw "min"=aa ao)
  (sX:lM K iw "range"=aa ao)
  (PN:lM K iw "repr"=aa ao)
  (Yl:lM K iw "set"=aa ao)
  (wD:lM K iw "sorted"=aa ao)
  (JH:lM K iw "str"=aa ao)
  (rG:lM K iw "tuple"=aa ao)
  (Qq:lM K iw "zip"=aa ao)
  (ajK:lM K iw "HIGHEST_RANK"=aa (aa (.int 9 iM)))
  (aj6:lM K iw "LOWEST_RANK"=aa (aa (.int 1 iR)))
  (aj7:lM K iw "MOST_LEAVES"=aa (aa (.int 16 iT)))
  (ajL:lM K iw "MOST_LETTERS"=aa (aa (.int 8 iQ)))
  (akH:lM K iw "MOST_PARTS"=aa (aa (.int 8 iU)))
  (akI:lM K iw "MOST_RANKS"=aa (aa (.int 20 iW)))
  (akJ:lM K iw "MOST_RULES"=aa (aa (.int 10 iY)))
  (akK:lM K iw "MOST_SEATS"=aa (aa (.int 6 iZ)))
  :∃fd:wC,(∀(s:aZ)(v:aL),Fg s fd ⟨[v],[]⟩ [("_law_script",v)])/\∀base:cu,K.In base->base.Ns iw mg->fX l.prog w K mg base gb 7 fa fd ["_law_script"] (spT K Gu):=by
 have T:Txt K mg iM iR iT iQ iU iW iY iZ:=⟨ql X G Qp,ql X G pJ,ql X G Gg,ql X G JG,ql X G oN,ql X G rJ,ql X G Gh,ql X G Gs,ql X G Yk,ql X G sX,ql X G PN,ql X G Yl,ql X G wD,ql X G JH,ql X G rG,ql X G Qq,vX X G ajK,vX X G aj6,vX X G aj7,vX X G ajL,vX X G akH,vX X G akI,vX X G akJ,vX X G akK⟩
 refine d32.law X G hfa (λbase f fd F=>?_) (λ_ _ _ _ _ _=>(cP λ_=>(jB rfl)));have xO:=d17.has X G (λf fd F=>ajZ (P:=l.prog) (w:=w) (base:=base) F T) (λ_ _ _ _ _ _=>(cP λ_=>(cP λ_=>(jB rfl))));have Ul:=d21.has X G (λf fd F=>aky (P:=l.prog) (w:=w) (base:=base) F T xO) (λ_ _ _ _ _ _=>(cP λ_=>(cP λ_=>(jB rfl))));have M5:=d20.has X G (λf fd F=>akZ (P:=l.prog) (w:=w) (base:=base) F T Ul) (λ_ _ _ _ _ _=>(cP λ_=>(cP λ_=>(cP λ_=>(jB rfl)))));have wA:=d0.has X G (λf fd F=>alJ (P:=l.prog) (w:=w) (base:=base) F T) (λ_ _ _ _ _ _=>(cP λ_=>(jB rfl)));have Eh:=d1.has X G (λf fd F=>akz (P:=l.prog) (w:=w) (base:=base) F T) (λ_ _ _ _ _ _=>(cP λ_=>(jB rfl)));have DY:=d11.has X G (λf fd F=>ajH (P:=l.prog) (w:=w) (base:=base) F T) (λ_ _ _ _ _ _=>(cP λ_=>(cP λ_=>(jB rfl))));have qp:=d12.has X G (λf fd F=>ajj (P:=l.prog) (w:=w) (base:=base) F T DY) (λ_ _ _ _ _ _=>(cP λ_=>(cP λ_=>(cP λ_=>(jB rfl)))));have ud:=d13.has X G (λf fd F=>akA (P:=l.prog) (w:=w) (base:=base) F T) (λ_ _ _ _ _ _=>(cP λ_=>(jB rfl)));have qY:=d14.has X G (λf fd F=>aiV (P:=l.prog) (w:=w) (base:=base) F T Eh) (λ_ _ _ _ _ _=>(cP λ_=>(jB rfl)));have Et:=d15.has X G (λf fd F=>alK (P:=l.prog) (w:=w) (base:=base) F T Eh) (λ_ _ _ _ _ _=>(cP λ_=>(jB rfl)));have Em:=d16.has X G (λf fd F=>ak0 (P:=l.prog) (w:=w) (base:=base) F T qY) (λ_ _ _ _ _ _=>(cP λ_=>(cP λ_=>(jB rfl))));have RB:=d4.has X G (λf fd F=>aiz (P:=l.prog) (w:=w) (base:=base) F T) (λ_ _ _ _ _ _=>(cP λ_=>(cP λ_=>(jB rfl))));have Um:=d3.has X G (λf fd F=>akB (P:=l.prog) (w:=w) (base:=base) F T wA qp ud RB) (λ_ _ _ _ _ _=>(cP λ_=>(jB rfl)));have Tq:=d6.has X G (λf fd F=>ajI (P:=l.prog) (w:=w) (base:=base) F T wA qY Et Em) (λ_ _ _ _ _ _=>(cP λ_=>(cP λ_=>(jB rfl))));have Uo:=d5.has X G (λf fd F=>akC (P:=l.prog) (w:=w) (base:=base) F T qp ud Tq) (λ_ _ _ _ _ _=>(cP λ_=>(cP λ_=>(jB rfl))));have S7:=d8.has X G (λf fd F=>ajr (P:=l.prog) (w:=w) (base:=base) F T wA qY Em) (λ_ _ _ _ _ _=>(cP λ_=>(cP λ_=>(jB rfl))));have T8:=d7.has X G (λf fd F=>aj0 (P:=l.prog) (w:=w) (base:=base) F T qp ud S7) (λ_ _ _ _ _ _=>(cP λ_=>(cP λ_=>(jB rfl))));have Tr:=d10.has X G (λf fd F=>ajJ (P:=l.prog) (w:=w) (base:=base) F T qp qY Et) (λ_ _ _ _ _ _=>(cP λ_=>(cP λ_=>(jB rfl))));have Uq:=d9.has X G (λf fd F=>akD (P:=l.prog) (w:=w) (base:=base) F T qp ud Tr) (λ_ _ _ _ _ _=>(cP λ_=>(cP λ_=>(jB rfl))));have Io:=d2.has X G (λf fd F=>ak1 (P:=l.prog) (w:=w) (base:=base) F T DY Um Uo T8 Uq) (λ_ _ _ _ _ _=>(cP λ_=>(jB rfl)));have Eu:=d18.has X G (λf fd F=>alL (P:=l.prog) (w:=w) (base:=base) F T xO) (λ_ _ _ _ _ _=>(cP λ_=>(cP λ_=>(cP λ_=>(cP λ_=>(jB rfl))))));have T9:=d19.has X G (λf fd F=>aj1 (P:=l.prog) (w:=w) (base:=base) F T Eu) (λ_ _ _ _ _ _=>(cP λ_=>(cP λ_=>(cP λ_=>(cP λ_=>(jB rfl))))));have XS:=d22.has X G (λf fd F=>ap2 (P:=l.prog) (w:=w) (base:=base) F T) (λ_ _ _ _ _ _=>(cP λ_=>(cP λ_=>(jB rfl))));have jD:=d23.has X G (λf fd F=>aoj (P:=l.prog) (w:=w) (base:=base) F T) (λ_ _ _ _ _ _=>(cP λ_=>(cP λ_=>(jB rfl))));have Wq:=d24.has X G (λf fd F=>amR (P:=l.prog) (w:=w) (base:=base) F T jD) (λ_ _ _ _ _ _=>(cP λ_=>(cP λ_=>(jB rfl))));have vd:=d25.atL X G (λf fd hm hk hb F=>ac5 (P:=l.prog) (w:=w) (base:=base) hm hk hb F T 4) (λ_ _ _ _ _ _=>(cP λ_=>(cP λ_=>(jB rfl))));have Wr:=d26.has X G (λf fd F=>amS (P:=l.prog) (w:=w) (base:=base) F T jD) (λ_ _ _ _ _ _=>(cP λ_=>(cP λ_=>(jB rfl))));have ye:=d27.has X G (λf fd F=>amT (P:=l.prog) (w:=w) (base:=base) F T) (λ_ _ _ _ _ _=>(cP λ_=>(cP λ_=>(cP λ_=>(cP λ_=>(jB rfl))))));have S8:=d28.has X G (λf fd F=>ajs (P:=l.prog) (w:=w) (base:=base) F T xO Eu T9 vd) (λ_ _ _ _ _ _=>(cP λ_=>(cP λ_=>(cP λ_=>(cP λ_=>(jB rfl))))));have S9:=d29.has X G (λf fd F=>ajt (P:=l.prog) (w:=w) (base:=base) F T M5 vd) (λ_ _ _ _ _ _=>(cP λ_=>(cP λ_=>(cP λ_=>(jB rfl)))));have Vs:=d30.has X G (λf fd F=>alM (P:=l.prog) (w:=w) (base:=base) F T ye) (λ_ _ _ _ _ _=>(cP λ_=>(cP λ_=>(cP λ_=>(cP λ_=>(jB rfl))))));have Xf:=d31.has X G (λf fd F=>aol (P:=l.prog) (w:=w) (base:=base) F T jD ye) (λ_ _ _ _ _ _=>(cP λ_=>(cP λ_=>(cP λ_=>(cP λ_=>(cP λ_=>(jB rfl)))))));exact art F T Io XS Wq Wr ye S8 S9 Vs Xf
theorem walk{l:aaO}{q:fV}{loose:List Str}{d:DefRec}{K:Params->bw}(hn:l.most=aa 63)(hdf:d.params.defaults=[])
  (hY:∀(w:dD)(h:cu),YP w h->(K w.params).In h)
  (F:∀(w:dD)(mg:Str->Option aL)(fa:aH)(h:cu),(K w.params).In h->h.Ns iw mg->mg d.name=aa (.ref fa)->
   ∃fd:wC,(∀(s:aZ)(u:aL),Fg s fd ⟨[u],[]⟩ [("_law_script",u)])/\∀base:cu,(K w.params).In base->base.Ns iw mg->fX l.prog w (K w.params) mg base gb 7 fa fd ["_law_script"] (spT (K w.params) Gu)):
  ajN q loose XP YP l.row.toRowW d [] (λf vs=>ab4 f vs):=
 L2.aoT (n:=63) (k:=7) (x:="_law_script") (CX:=λ_=>gb) (sp:=λw=>spT (K w.params) Gu) hn bA hdf ⟨rfl,bA,bA,rfl⟩ hY F (λ_ _ a ns hl _ hS=>let ⟨_,h⟩:=aoD ns hl;aq5 hS h) λ_ _ _ _ _ z=>z
end Zy
namespace PySem.W.Fast
def tw10201002750925418572:=0
def tw10515670189552903719:=0
def tw10993510112976651511:=0
def tw11010263432961089164:=0
def tw11314492427731012058:=0
def tw11348296271462176193:=0
def tw11461230281084626035:=0
def tw12098385633764678191:=0
def tw12172135268351298074:=0
def tw12330509483653085986:=0
def tw12757389294633234207:=0
def tw12921522177120825942:=0
def tw13533091550438760135:=0
def tw13539860601477462830:=0
def tw13632156833164592998:=0
def tw14894645535830355527:=0
def tw14949634426939614369:=0
def tw15440889795147502723:=0
def tw1550600467309874719:=0
def tw1586021141960551018:=0
def tw16485993412342688685:=0
def tw16776039509574493020:=0
def tw17838440440356309165:=0
def tw17894516976580112953:=0
def tw17911915436131847084:=0
def tw1793418601174789081:=0
def tw18140350586934839055:=0
def tw18192386443241389825:=0
def tw1844728043520969611:=0
def tw1859002888671188140:=0
def tw2487076887211442827:=0
def tw2585064774984421459:=0
def tw2818212938427396403:=0
def tw285054158085128968:=0
def tw3488148770384711068:=0
def tw3574372205288797467:=0
def tw380794617004033235:=0
def tw3870562306635994801:=0
def tw3885837297002457040:=0
def tw4045934135441527793:=0
def tw412171354861790260:=0
def tw4178369469849676882:=0
def tw4226605930483608734:=0
def tw4351535671496460514:=0
def tw4625520655287741547:=0
def tw4916442434589169094:=0
def tw5216219170860108442:=0
def tw5342622499003392224:=0
def tw5569511886108969131:=0
def tw5731380398452214178:=0
def tw5779722067339502107:=0
def tw6027443371164129226:=0
def tw612040192481014576:=0
def tw6150190331593548951:=0
def tw6306240840041840499:=0
def tw6876381573706367766:=0
def tw6974351528583403303:=0
def tw7270638551009549547:=0
def tw7504757936677628799:=0
def tw7549051638855460702:=0
def tw7781759152757757153:=0
def tw818357896536526354:=0
def tw8326384865555910575:=0
def tw8498648765865454821:=0
def tw911951539138900500:=0
def tw930403733744392199:=0
def tw9327515292456952195:=0
def tw9658840042670976502:=0
def tw9716807467083058740:=0
def tw9756237376423382781:=0
end PySem.W.Fast
open PySem PySem.W PyProof.Rows
set_option maxRecDepth 100000 in
set_option maxHeartbeats 0 in
theorem PySem.Challenge.cw_rankseals_k10_houses_at_their_bounds_holds : PySem.Challenge.rw_rankseals_k10_houses_at_their_bounds.Holds := by
 w_on;o_law;k_head;(case hw=>w_witness2)
 k_fill
 refine Zy.walk (l:=PySem.Challenge.rw_rankseals_k10_houses_at_their_bounds) rfl rfl (λw h Y=>PySem.W.kIn_of Y) ?F
 case F=>
  intro w mg fa h KX G hmg
  refine' Zy.all_mk KX G hmg ?_ ?_ ?_ ?_ ?_ ?_ ?_ ?_ ?_ ?_ ?_ ?_ ?_ ?_ ?_ ?_ ?_ ?_ ?_ ?_ ?_ ?_ ?_ ?_ ?_ ?_ ?_ ?_ ?_ ?_ ?_ ?_ ?_ ?_ ?_ ?_ ?_ ?_ ?_ ?_ ?_ ?_ ?_ ?_ ?_ ?_ ?_ ?_ ?_ ?_ ?_ ?_ ?_ ?_ ?_ ?_ ?_
  all_goals try first|exact .mk (by k_is) (by k_is) (by k_is) (by k_is)|k_is
