import PyProof.Rows.All
import Wide.All
import OpenK.AllK
import Wide.FinOn
import Lean
import PyProof.EqAt
import PyProof.EqKinds
import PyProof.TupleCall
import PyProof.Rows.IntBool
import KE.KIntText
import PySem.Challenge.RW_rankseals_k65_split_papers
set_option compiler.extract_closed false
set_option Elab.async false
set_option linter.all false
set_option maxRecDepth 100000
set_option maxHeartbeats 4000000
set_option autoImplicit true
set_option tactic.hygienic false
set_option bootstrap.genMatcherCode false
open PySem renaming Value->aG,World->cG,Program->dB,KeyKind->z7,Heap->cg,Addr->az,IsTupleKey->Hv,tupleKeyHash->Hl,Around->dN,Shared->aR,wpAny->bf,wpAny_bind->aJ,wpAny_cRoomFor_or->aiu,wpAny_specialOf->zX,wpAny_callSpecialIfBoundUnlessNone?_slot->ahq,wpAny_call_entry->mO,wpAny_ret_mkInt->aaF,wpAny_pure->bu,cLine->fD,wpAny_pyHash_tuple->aii,wpAny_rule->uf,wpAny_eqBool_tuple->aij,eqIsQuiet->Uz,wpAny_isInstance->GF,isSubtype_tuple_tuple->ahP,wpAny_seqItems->Tg,wpAny_forIn_list->aiN,sizeLine->cz,sysModules->oY,Within->aa3,mainGlobals->iu,bootBuiltins->uc,Scope->iU,Drawn->Bo,backTo->eN,starEach->bI,Stmt->dF,wpAny_mono->qY,wpAny_Name->abr,wpAny_truthy_bool->zV,wpAny_execs_nil->aaG,wpAny_execs_cons->aiO,swapsWith->lG,assignEach->vg,setItem->Nj,wpAny_assign_Name->K3,holding->mW,standAt->nJ,wpAny_holding->pJ,wpAny_standAt->u6,swapsWithSole->z8,swappedStores->z9,wpAny_newObj_type->nF,wpAny_bindName->Lg,pyNext->qu,letOwnedTupleGo->Dh,pyIter->wW,wpAny_load->Hw,wpAny_pyIter_list->aaj,foldedSetIterable->qm,wpAny_passesOwn->Ld,binaryOp->rm,compareOp->gG,behindInMarks->Aa,sizeLine_eq->iw,getMethod->wL,Result->Em,codeAny->lH,attributeBase->sE,FuncData->o5,BindsTo->DY,bindArgs->Vs,codeAny_mono->Hq,wpAny_Call_Name_kw->Gv,callWith->yw,backToKw->pN,keywordEach->pL,NameKind->Aj,cellsFrom->sJ,mem_of_lookup->zT,concat_meets->aa4,noFill_tuple_add->aaw,seq_tuple_add->aaZ,IsPart->vD,wpAny_field->T9,getItem->yD,wpAny_sequenceKey->aiA,wpAny_callSpecial?_slot->wz,wpAny_typeOf->Hr,seqIndex_of->abi,seqIndex_neg->aa5,subscripted->abj,typeIs_str->abw,sliceBounds->LK,slicePick->UL,wpAny_getItem_list_slice->ahB,Keyword->pP,call_meets->abx,valueAt->Ip,atKey->uy,callerA->Ir,call->abz,compEnvC->Vu,pushCells->Du,newFunctionEnv->Ti,lookup_relabel_local->ahW,compTurn->vm,codeAny_compStart_list->ahJ,wpAny_comprehension_free->RP,PyData->aB,Builtin->rA,wpAny_newList->Lr,DictEntry->UT,wpAny_pyIter_slot->Sw,wpAny_notOrdered_dict->Z9,wpAny_dictEntries->Df,wpAny_dictEpoch->G3,wpAny_attempt->Ab,wpAny_typeNameOfWhole_keyiter->RB,wpAny_fieldsOf->zZ,wpAny_isOneOf_keyiter->ahR,setField->Vy,wpAny_setField->wF,rawInt->jm,firstArgMember->G8,wpAny_of_eq->Uc,wpAny_handled->aa1,wpAny_throw->abl,isSubtype_stop->aaP,wpAny_runValue->aaQ,codeAny_builtin->zY,plainId_quiet->Hf,wpAny_loadPart'->oh,SetTable->Ak,relayAll->Li,scanBound->sO,wpAny_setState_of->GC,wpAny_storeSet_of->aiG,fits_of_scanBound->aap,wpAny_setEntries_of->KJ,wpAny_askSetting->K9,wpAny_ite_split->Td,pickOrder->Dv,wpAny_setEpoch_of->aiH,sliceRange->Ml,wpAny_Call_method->aiK,wpAny_typeNameOfWhole_valiter->RC,wpAny_typeNameOf_valiter->RT,wpAny_isOneOf_valiter->aab
open PySem.Value renaming isInt->abe,isStrOf->ajo,isInt_shape->ais,bool->j5,ref->fj,none->nH,type->Ae
open Sum renaming inl->Ni,inr->ju
open PySem.SeqAt.EqAt renaming int_str->aif,str_int->aih,int_bool->ah7,bool_int->ah8,str_bool->ah9,bool_str->aia,same->SX,of_refs->KR,bool_bool->ahU
open PySem.Builtin.Tuple renaming tupleHashOf->Ky,tupleItemsOf->ZR,tupleCompareSizes->atm
open PySem.IsTupleKey renaming inj->aaN,keeps->aiL
open List renaming mem_cons_self->cR,forIn_cons->Lb,mem_cons->cC,range->gj,mem_range->qp,range_succ->ai1,mem_cons_of_mem->dI,mem_filter->mR,filterMap_cons->aib,mem_append->dU,mem_append_left->jG,getElem?_eq_some_iff->jk,getElem?_set_self->Z4,getElem?_set_ne->qT,set_comm->Tr,mem_filterMap->R8,mem_append_right->fJ,size_toArray->oX,any_eq_false->aiw,length_cons->iM,lookup->ajW,length_map->bC,append_nil->jt,nodup_cons->mU,of_mem_zip->Tc,replicate->cH,length->ue,length_take->GJ,getElem?_append_right->gh,getElem?_replicate->Z2,getElem?_append_left->gK,getElem?_map->jr,take_sublist->aal,mem_of_getElem?->jY,length_append->eG,length_replicate->wA,all_cons->Dl,any_cons->yt,reverse_cons->K4,nodup_nil->tZ,length_nil->tX,lookup_cons->GK,map_map->eZ,all_eq_true->jT,getElem_of_mem->KH,getElem?_eq_getElem->qR,getElem_mem->ym,mem_singleton->gB,take_of_length_le->RW,map_snd_zip->aay,ext_getElem->GP,getD->wM,length_range->uZ,map_congr_left->yg,zip_cons_cons->yh,map_cons->cM,mem_map->eO,ext_getElem?->Sx,getElem?_eq_none->Gs,filterMap->aaR,pairwise_iff_getElem->RL,pairwise_lt_range->ahK,pairwise_append->ahX,pairwise_cons->wB,foldl_cons->ai5,append_assoc->iK,not_mem_nil->mQ,nodup_append->lX,Sublist->aa8,getElem?_set->aaq,eq_nil_of_length_eq_zero->ahw,all_map->aa9,length_set->wD,length_zip->G4,getElem?_eq_none_iff->RM,drop_length->aaC,drop_eq_getElem_cons->ZX,map_fst_zip->SJ,sum_cons->t8,length_pos_of_mem->Z7,isEmpty_nil->aiV,any_eq_true->SM,mem_map_of_mem->aie,map_append->jH,map_nil->sG,find?_cons_of_pos->ahN,find?_cons_of_neg->ahO,cons_append->j9,zip_append->ai8,set->Am,pairwise_map->K7,map_replicate->aiq,length_drop->aaD,any_map->ajO,length_singleton->aac,mem_iff_getElem?->ahT,filter_cons->SQ,mem_flatMap->aiY,ne_nil_of_mem->aag,exists_mem_of_ne_nil->ZZ,length_filter_le->sy,nil_append->kh,map_take->ajB,mem_of_mem_take->ah6,take_succ->aaY,getElem?_cons_succ->KC,getElem?_cons_zero->KD,set_append_right->De,all_append->ajc,take_length->aiZ,set_cons_succ->aah,set_cons_zero->air,flatMap_nil->ai0,flatMap_cons->aav
open Bool renaming false_ne_true->lC,eq_iff_iff->wC,and_false->aje,and_eq_true->jc,not_eq_true->aiR,false_eq_true->zU,not_true->ajw,eq_false_iff->aiI,not_eq_true'->aiJ,noConfusion->aiW,and_eq_true_iff->ah4,decide_and->ajd,bne_false->ajn,true->aq,false->aH
open Array renaming toList->ajE,forIn_toList->aaf,getElem?_eq_getElem->lV,getElem?_eq_none->Z6,getD_eq_getD_getElem?->Dd,getElem?_toList->Gr,length_toList->n6,toList_push->aiF,size_append->aar,getElem_toList->ah1
open PySem.Heap renaming SameBut->qW,lt_size->cY,get?_push_of_some->cX,get?_push_size->fV,size_push->u5,get?_update_self->zR,get?_update_other->RV,ExtBut->aj0,size_update->aaz,get?_update_ne->aae
open PySem.F renaming slot_bool_hash->aiM,slot_tuple_hash->aiv,slot_tuple_add->Z5,entry_tuple_add->Z3,args_tuple_add_2->Z0,slot_list_append->KZ,slot_list_extend->ain,slot_dict_iter->aiS,slot_dict_keyiterator_next->RG,entry_dict_keyiterator_next->ahv,args_dict_keyiterator_next_1->ahu,plain_list_iadd->ahE,slot_set_iter->ai6,plain_extend_loop->ahz,plainAttrs_list->Kz,type_list_append->RQ,slot_dict_setdefault->ahx,plainAttrs_dict->ahF,slot_list_lt->ah0,slot_dict_values_iter->ahG,slot_dict_valueiterator_next->Rz,entry_dict_valueiterator_next->ahs,args_dict_valueiterator_next_1->ahr,slot_dict_values->ahD
open Nat renaming lt_of_succ_lt->Gy,lt_of_lt_of_le->oV,lt_irrefl->wG,ne_of_lt->fW,le_trans->jl,le_of_lt->yu,ne_of_gt->Ho,le_refl->bQ,le_of_eq->ajF,lt_succ_self->zW,zero_le->jJ,le_succ->ud,lt_trans->Lx,lt_succ_of_lt->yj,le_antisymm->ai7,zero_add->Hs,min_self->ajL,mul_le_mul_right->ahY,sub_self->pK,le_add_right->aaE
open PySem.SeqAt renaming RcAt->aj8,EqAt->wJ,in_listAt->ai2,notIn_listAt->aim,shaped->jZ
open PySem.SeqAt.RcAt renaming tuples->aai
open Ne renaming symm->jK
open PySem.W renaming instObj->GZ,Frag->aU,lookIn->Th,plainGet->K8,hasDictIn->Sh,findIn->tY,handedIn->aiP,plainGet_of->aad,isFn->TY,plainOver->aak,takerIn->aaH,makesIn->aaI,emptyDict->Sq,keepIn->yq,kitOne->aaO,kia_one->u0,kitx_list->aix,kitx_dict->aiy,callWith_K->aik,methodCall_KW->ahQ,callWith_K0->aic,cellsFrom_some->ahH,fnOf->wH,codeIn->Lh,OpenLaw->aaJ,WalkO->ajr,nsIn->nG,mg_of->aa2,mg_none_of->oW
open Option.some renaming inj->lY,injEq->aiB
open PySem.Calls renaming Name_function_global->ahy,spliced_nil->Ss,spliced_cons->KY,callWith_builtin->ahI,evalArgs_plain->ahV,call_function_entry->ZW
open False renaming elim->Af
open PySem.Builtin.Range renaming rangeSize->at3
open PyProof.Rows renaming callWith_type1->ZQ,callWith_builtin1->aht,slot_tuple_getitem->Ry,toString_length_le->atn,evalArgs_none->atv
open PySem.EqNone renaming eq_none_none->atw,eq_none_bool->atx,eq_none_int->atJ,eq_none_str->atL,eq_bool_none->aty,eq_int_none->atM,eq_str_none->atO,ne_none_none->atB,ne_none_bool->atD,ne_none_int->atQ,ne_none_str->atR,ne_bool_none->atE,ne_int_none->atU,ne_str_none->atX
open PySem.EqMixed renaming eq_bool_str->atz,eq_int_str->atN,eq_str_bool->atA,eq_str_int->atP,ne_bool_str->atF,ne_int_str->atV,ne_str_bool->atG,ne_str_int->atY
open PySem.W.Looks renaming here->at7
open PySem.Within renaming cons->at8
open True renaming intro->ug
open Option renaming isSome_iff_exists->uY,getD_none->aiQ,isSome_some->aio,isSome_map->Su,map_eq_some_iff->lW,map_some->pI,bind_some->bU,getD_some->aaB,none->lZ,some->aa,none->ao
open PySem.Builtin.Slice renaming sliceAdjust->ZS,slicePlaces->ZV,slicePartIndex->atp,sliceApplied->atr
open PySem.Heap.IsSliceOf renaming new->ail
open PySem.Obj renaming mapSeq->oZ,mapFields->Ls,isFreed_of_fields->aaa,data_mapFields->Gw,cls_mapFields->aao,putSet->Us,data_mapDictKeys->ahZ
open PySem.Builtin.List renaming listTooLong->ahC,listLengthHint->atq,listExtendWith->RK,listSameRef->Z1
open List.Pairwise renaming nil->Sv,filterMap->at4,filter->ah5
open Or renaming inl->di,inr->yO
open PySem.NameKind renaming free->G9,cell->t6
open ForInStep renaming yield->ai4
open PySem.Code renaming compLoop->t7
open PySem.Walks renaming list->akl
open PySem.PyData renaming hasDict->ajf,hasDictAll->aam,shown->Dm,showable->aaK,noDict_hsm->aiC,int->Hz,str->fP,eqv->Ds,tuple->aba,depth->Ac,showableAll->aip,depthAll->yo,shownAll->G5,shownAll_length->ahM,strOk->iI,canLayAll0->GD,canLay0->Lj,none->j4,eqvAll->ajC,list->Uo
open PySem.Heap.SameBut renaming refl->aan,update->oU
open List.Perm renaming refl->G7,swap->ajg,append_right->ahL
open List.cons renaming inj->Tt
open PySem.Builtin.Dict renaming showsAll->R4,noArgs->at6
open Int renaming toNat_natCast->Gz,le_refl->Ud,ediv_one->abd,emod_nonneg->Lf,emod_lt_of_pos->Sg,reduceNeg->ajD
open PySem.Builtin.Dict_items renaming ownsTuple->RJ,dictOf->atH,newIterator->ato
open PySem.Str renaming ofString->aO
open PySem.SetTable.below renaming go->K5
open PySem.SetTable renaming below->lF,has->ajK,slot->aju,grown->Dj
open PySem.SetTable.probe renaming go->aiE
open Prod.mk renaming injEq->ajv
open PySem.pickOrder renaming go->aa7
open PySem.Builtin.Frozenset renaming slot0->at5,sizeOf->atZ,oneOther->atu
open List.Sublist renaming refl->K6,append->KN
open Sum.inr renaming inj->LR
open Nat.succ renaming inj->ajN
open And renaming intro->Ve
open PySem.PassesOwn renaming never->qU
open Decidable renaming byContradiction->ahA
open Classical renaming byContradiction->RN
open PySem.Txt renaming slice->G6
theorem bG{c:Prop}[i:Decidable c](h:c){α:Sort _}{t e:α}:ite c t e=t:=if_pos h
theorem bK{c:Prop}[i:Decidable c](h:¬c){α:Sort _}{t e:α}:ite c t e=e:=if_neg h
theorem gq{p:Prop}[i:Decidable p](h:p):decide p=true:=decide_eq_true h
theorem m7{p:Prop}[i:Decidable p](h:¬p):decide p=false:=decide_eq_false h
noncomputable section
local macro_rules(kind:=Lean.Parser.Command.declaration)
|s=>do
 if s.getPos?.isNone then Lean.Macro.throwUnsupported
 let x←`(command|noncomputable def x:=1)
 let d:=s[1].isOfKind ``Lean.Parser.Command.definition||s[1].isOfKind ``Lean.Parser.Command.abbrev
 let t:=(if d&&s[0].getArgs.all (·.isNone) then s.setArg 0 x.raw[0] else s).rewriteBottomUp (·.setInfo .none)
 if (s.find? (·.isOfKind ``Lean.Parser.Tactic.renameI)).isSome then `(set_option tactic.hygienic true in $(⟨t⟩):command) else return t
theorem c3{p:Prop}(h:p:=by grind_order):p:=h
theorem c4{p:Prop}(h:p:=by lia -abstractProof):p:=h
theorem c5{p:Prop}(h:p:=by omega):p:=h
theorem c6{p:Prop}(h:p:=by grind_linarith):p:=h
theorem c8{p:Prop}(h:p:=by grind -abstractProof):p:=h
theorem c9{a c:α}{b d:β}(h:Option.some (a,b)=.some (c,d)):a=c∧b=d:=by cases h;exact⟨rfl,rfl⟩
theorem k5{a c:α}{b d:β}{e f:γ}(h:Option.some (a,b,e)=.some (c,d,f)):a=c∧b=d∧e=f:=by cases h;exact⟨rfl,rfl,rfl⟩
local macro_rules|`(nomatch $h:ident)=>`(by first|contradiction|exact nomatch($h))
local macro_rules|`(tactic|cases $h:ident)=>`(tactic|first|subst $h|(have k:=Option.some.inj $h;clear $h;subst k)|(have k:=k5 $h;clear $h;rcases k with⟨rfl,rfl,rfl⟩)|(have k:=c9 $h;clear $h;rcases k with⟨rfl,rfl⟩)|contradiction|cases($h))
theorem bz{p:Prop}(h:p:=by decide +kernel):p:=h
theorem aP{p:Prop}(h:p:=by decide):p:=h
theorem aD{p:Prop}(h:p:=by lia):p:=h
theorem bH{p:Prop}(h:p:=by simp):p:=h
theorem eqT{p:Prop}(h:p:=by lia):p=True:=eq_true h
local macro_rules
|`(#[$a,*])=>`(⟨$a,*⟩)
|`(#v[$a,*])=>`(List.toArray [$a,*])
set_option hygiene false
local macro_rules
 |`(00)=>`((by rfl))
 |`(01 $a)=>`((@bB _ _ _ (pv $a)))
 |`(02 $a)=>`((@bJ _ _ _ (pv $a)))
 |`(03)=>`((@aY _ _ _ (bD bT)))
 |`(04 $a)=>`((@aW _ _ _ _ _ $a bR 00))
 |`(05)=>`((model X.prog X.w))
 |`(06)=>`(Inv X aA σ H s)
 |`(07)=>`(#[rfl,rfl,rfl,bz,rfl,bz,bz])
 |`(08 $a)=>`((.im (.int $a)))
 |`(09)=>`(Sm K Z Θ aj C σ H)
 |`(000)=>`((model prog w))
 |`(001)=>`(#[_,rfl])
 |`(002)=>`((by grind))
 |`(003)=>`((bh.refl _ _))
 |`(004)=>`(List (az×Obj))
 |`(005)=>`((a.mono aP))
 |`(006)=>`((aH,eval e X.env))
 |`(007)=>`((di rfl))
 |`(008)=>`((by with_unfolding_all rfl))
 |`(009)=>`(List Str)
local macro_rules
 |`(010)=>`((Fz.refl _))
 |`(011)=>`(X.calm=aq)
 |`(012)=>`(List V)
 |`(013)=>`((by intro _;rfl))
 |`(014)=>`(List aG)
 |`(015)=>`(List az)
 |`(016)=>`(List aB)
 |`(017)=>`(X.N.Nodup)
set_option hygiene true
namespace L2
open PySem PySem.Spec PyProof.Rows
theorem hide{P:Prop}(h:∀G:Prop,(P->G)->G):P:=h P id
abbrev Key:=Sum Int Str
def Eu:Key->aG->Bool
 |.inl k,v=>abe k v
 |.inr x,v=>ajo x v
def aq8(w:cG):Key->Int
 |.inl k=>hashInt k
 |.inr x=>hashStr w x
theorem qt:∀{k:Key}{v:aG},Eu k v=aq->(∃i t,k=Ni i/\v=Value.int i t)\/(∃x t,k=ju x/\v=Value.str x t)
 |.inl i,v,h=>by
  obtain⟨t,e⟩:=ais h
  grind
 |.inr x,v,h=>by
  obtain⟨t,e⟩:=Value.isStrOf_shape h
  grind
theorem akJ(i:Int)(t:Tok):Eu (.inl i) (.int i t)=aq:=by simp[Eu,abe]
theorem akK(x:Str)(t:Tok):Eu (.inr x) (.str x t)=aq:=by simp[Eu,ajo]
theorem api(a b:Int):decide ((Ni a:Key)=Ni b)=(a==b):=by grind
theorem apj(a b:Str):decide ((ju a:Key)=ju b)=decide (a=b):=by grind
theorem apk(a:Int)(b:Str):decide ((Ni a:Key)=ju b)=aH:=m7 (λq=>nomatch q)
theorem apl(a:Str)(b:Int):decide ((ju a:Key)=Ni b)=aH:=m7 (λq=>nomatch q)
def gV(prog:dB)(w:cG):z7 prog w Key where
 is:=Eu
 hash:=aq8 w
 inj:=λv a b ha hb=>by
  rcases qt ha with⟨i,t,rfl,rfl⟩|⟨x,t,rfl,rfl⟩
  .rcases qt hb with⟨j,u,rfl,e⟩|⟨y,u,rfl,e⟩
   .injection e with e1 _;rw[e1]
   .exact nomatch e
  .rcases qt hb with⟨j,u,rfl,e⟩|⟨y,u,rfl,e⟩
   .exact nomatch e
   .injection e with e1 _;rw[e1]
 byValue:=λk v h=>by
  rcases qt h with⟨i,t,rfl,rfl⟩|⟨x,t,rfl,rfl⟩<;>rfl
 pyHash:=λhv h=>by
  rcases qt hv with⟨i,t,rfl,rfl⟩|⟨x,t,rfl,rfl⟩
  .exact wpAny_pyHash_int h
  .exact wpAny_pyHash_str h
 eqBool:=λhu hv h=>by
  rcases qt hu with⟨i,t,rfl,rfl⟩|⟨x,t,rfl,rfl⟩
  .rcases qt hv with⟨j,u,rfl,rfl⟩|⟨y,u,rfl,rfl⟩
   .rw[api] at h;exact wpAny_eqBool_int h
   .rw[apk] at h;exact aif i t y u _ _ _ _ h
  .rcases qt hv with⟨j,u,rfl,rfl⟩|⟨y,u,rfl,rfl⟩
   .rw[apl] at h;exact aih x t j u _ _ _ _ h
   .rw[apj] at h;exact wpAny_eqBool_str h
 «strs»:=λk x t v h=>by
  rcases qt h with⟨i,u,rfl,e⟩|⟨y,u,rfl,e⟩
  .exact nomatch e
  .injection e with e1 _
   subst e1;cases v<;>rfl
theorem ajU(prog:dB)(w:cG)(i:Int)(t:Tok):(gV prog w).is (.inl i) (.int i t)=aq:=akJ i t
theorem ajV(prog:dB)(w:cG)(x:Str)(t:Tok):(gV prog w).is (.inr x) (.str x t)=aq:=akK x t
abbrev TK:=List Key×Option Bool
section
variable{P:dB}{w:cG}
def QB(h:cg)(a c:az)(b:Bool):Prop:=∃o n,h.get? a=aa o/\o.cls=.type "tuple"/\o.data=.seq #v[.ref c,.bool b] n
def p6(P:dB)(w:cG)(h:cg):TK->az->Prop
 |(ks,none),a=>Hv (gV P w) h ks a
 |(ks,some b),a=>∃c,QB h a c b/\Hv (gV P w) h ks c
def Xu(P:dB)(w:cG):TK->Int
 |(ks,none)=>Hl (gV P w) ks
 |(ks,some b)=>reduceHash (Ky [Hl (gV P w) ks,if b then 1 else 0])
theorem p6.inj:∀{x y:TK},p6 P w h x a->p6 P w h y a->x=y
 |(ks,none),(js,none),hx,hy=>by rw[aaN hx hy]
 |(ks,none),(js,some b),⟨o,_,n,h1,_,h3,hi⟩,⟨c,⟨o',n',h1',_,h3'⟩,_⟩=>by
  rw[h1] at h1';cases h1';rw[h3] at h3';cases h3';exact absurd (hi.byValue _ (cR)) (by exact lC)
 |(js,some b),(ks,none),⟨c,⟨o',n',h1',_,h3'⟩,_⟩,⟨o,_,n,h1,_,h3,hi⟩=>by
  rw[h1] at h1';cases h1';rw[h3] at h3';cases h3';exact absurd (hi.byValue _ (cR)) (by exact lC)
 |(ks,some b),(js,some b'),⟨c,⟨o,n,h1,_,h3⟩,q⟩,⟨c',⟨o',n',h1',_,h3'⟩,q'⟩=>by
  rw[h1] at h1';cases h1';rw[h3] at h3';injection h3' with e1 _
  have e2:=congrArg ajE e1;injection e2 with e3 e4;injection e3 with e3;injection e4 with e4;injection e4 with e4
  subst e3 e4;rw[aaN q q']
theorem QB.keeps{es ep}(x:QB h a c b)(i:h.get? d=aa o)(j:o.data=.dict es ep)(g:qW d h h'):QB h' a c b:=by
 obtain⟨o',n,h1,h2,f⟩:=x
 have e:a≠d:=by lia
 exact#[o',n,(g.2 a e).trans h1,h2,f]
theorem p6.keeps{es ep}:∀{k:TK},p6 P w h k a->h.get? d=aa o->o.data=.dict es ep->qW d h h'->p6 P w h' k a
 |(_,none),x,ho,hd,hs=>aiL x ho hd hs
 |(_,some _),⟨c,q,x⟩,ho,hd,hs=>#[c,q.keeps ho hd hs,aiL x ho hd hs]
variable{A:dN}{E:aG->aR->Prop}{s:aR}
theorem ait(b:Bool)(h:Q (if b then 1 else 0) {s with toks:=s.toks+1}):bf (model P w) A (pyHash (.bool b)) Q E s:=by
 refine aJ (aiu (.inl rfl) (aJ (zX (T:="bool") rfl F.slot_bool_hash.lookup ?_)));refine aJ (zX (T:="bool") rfl F.slot_bool_hash.lookup (aJ (ahq (T:="bool") rfl aiM (mO aiM rfl entry_int_hash ?_ (args_int_hash _)))));cases b
 .exact aaF (bu h)
 .exact aaF (bu h)
theorem p6.pyHash(i:A.units+1<fD)(f:p6 P w s.heap (ks,aa b) a)(h:Q (Xu P w (ks,aa b)) {s with toks:=s.toks+(ks.length+3)}):
  bf (model P w) A (pyHash (.ref a)) Q E s:=by
 obtain⟨c,⟨o,n,g,k,j⟩,f⟩:=f
 have e:s.TypeIs (.ref a) "tuple":=#[o,g,k]
 unfold PySem.pyHash;refine aJ (aiu (.inr (Gy i)) (aJ (zX e F.slot_tuple_hash.lookup ?_)));refine aJ (zX e F.slot_tuple_hash.lookup ?_);refine aJ (ahq e aiv (mO aiv e F.entry_tuple_hash ?_ (F.args_tuple_hash_1 _)));show bf _ _ (ZR (.ref a) >>= _) _ _ s;refine aJ (wpAny_tupleItemsOf g j (aJ ?_));rw[<-aaf];rw[Lb];refine aJ (aJ (aii i f (bu ?_)));show bf _ _ (forIn [j5 b] _ _) _ _ _;rw[Lb];refine aJ (aJ (ait b (bu ?_)));show bf _ _ (forIn [] _ _) _ _ _;rw[List.forIn_nil];refine bu ?_;refine aaF ?_;have h':=h;unfold Xu reduceHash at h';show bf _ _ (if(decide (-(2:Int)^63<=Ky [Hl (gV P w) ks,if b then 1 else 0])&&decide (Ky [Hl (gV P w) ks,if b then 1 else 0]<2^63))=aq then _ else _) Q E _;by_cases d:(decide (-(2:Int)^63<=Ky [Hl (gV P w) ks,if b then 1 else 0])&&decide (Ky [Hl (gV P w) ks,if b then 1 else 0]<2^63))=aq
 .rw[bG d];simp only[bG d] at h';exact bu h'
 .rw[bK d];simp only[bK d] at h';exact aJ (uf (bu h'))
theorem ItemsAre.mix(h:ItemsAre (gV P w) ks vs):ItemsAre (gV P' w') ks vs:=by
 induction h with
 |nil=>exact .nil
 |cons a _ ih=>exact .cons a ih
theorem af3(x:Hv (gV P w) h ks a):Hv (gV P' w') h ks a:=
 let ⟨o,aK,n,h1,h2,h3,h4⟩:=x;#[o,_,n,h1,h2,h3,ItemsAre.mix h4]
def QC:Option aG->Bool->Bool
 |some (.int i _),b=>i==(if b then 1 else 0)
 |_,_=>aH
theorem mixed(h:A.units+1<fD)(hi:ItemsAre (gV P w) ks aK.toList)(h1:s.heap.IsTuple a aK)(h2:s.heap.IsTuple b #v[.ref c,.bool t])(y:s.heap.IsTuple c its2):
  aj8 A s (.ref a) (.ref b) aH/\aj8 A s (.ref b) (.ref a) aH:=by
 have f:∀j (h1:j<aK.size)(h2:j<(#v[fj c,j5 t]:Array aG).size),wJ A.in1 s aK[j] (#v[fj c,j5 t]:Array aG)[j] (if j=0 then aH else QC aK[1]? t)/\
   wJ A.in1 s (#v[fj c,j5 t]:Array aG)[j] aK[j] (if j=0 then aH else QC aK[1]? t):=by
  intro j d r;have C:∃k,(gV P w).is k aK[j]=aq:=by
   have:aK[j]∈aK.toList:=bH;generalize aK[j]=v at this;generalize aK.toList=l at hi this;induction hi with
   |nil=>cases this
   |@cons k v' ks vs g _ ih=>
    rcases cC.mp this with e|m
    .exact#[k,by rw[e];exact g]
    .exact ih m
  obtain⟨k,g⟩:=C
  match j,d,r,g with
  |0,d,_,g=>
   rcases qt g with⟨i,u,rfl,e⟩|⟨x,u,rfl,e⟩
   .rw[e];exact#[SeqAt.EqAt.int_tuple i u y h,SeqAt.EqAt.tuple_int i u y h]
   .rw[e];exact#[SeqAt.EqAt.str_tuple x u y h,SeqAt.EqAt.tuple_str x u y h]
  |1,d,_,g=>
   have e1:aK[1]?=aa aK[1]:=lV d;rw[e1];rcases qt g with⟨i,u,rfl,e⟩|⟨x,u,rfl,e⟩
   .rw[e]
    refine#[ah7 i u t,?_]
    have:=ah8 (A:=A.in1) (s:=s) t i u
    rwa [show((if t then 1 else 0)==i)=(i==(if t then(1:Int) else 0)) from by rw[wC];simp only[beq_iff_eq];exact eq_comm] at this
   .rw[e];exact#[ah9 x u t,aia t x u]
 have o:∀n m:Nat,n≠0/\m≠0\/n≠m->((gj (min n m)).all (λj=>if j=0 then aH else QC aK[1]? t)&&n==m)=aH:=by
  intro n m D;rcases D with⟨p,q⟩|p
  .have:((gj (min n m)).all (λj=>if j=0 then aH else QC aK[1]? t))=aH:=by
    rw[List.all_eq_false]
    exact#[0,qp.mpr aD,bH]
   rw[this];rfl
  .rw[show(n==m)=aH from beq_eq_false_iff_ne.mpr p,aje]
 have sz:aK.size≠0/\(#v[fj c,j5 t]:Array aG).size≠0\/aK.size≠(#v[fj c,j5 t]:Array aG).size:=by
  show aK.size≠0/\2≠0\/aK.size≠2;lia
 have B:=aai (A:=A) h1 h2 (Gy h) (λj d r=>(f j d r).1);have z:=aai (A:=A) h2 h1 (Gy h) (λj d r=>(f j r d).2);rw[o _ _ sz] at B;rw[o _ _ (by rcases sz with⟨p,q⟩|p;exact .inl #[q,p];exact .inr (jK p))] at z
 exact#[B,z]
theorem p6.eqBool(i:A.units+1<fD)(u:p6 P w s.heap x a)(l:p6 P w s.heap y b)(h:Q (decide (x=y)) s):
  bf (model P w) A (PySem.eqBool (.ref a) (.ref b)) Q E s:=by
 by_cases z:a=b
 .subst z;rw[gq (u.inj l)] at h;exact SX _ P w E Q h
 obtain⟨ks,_|t⟩:=x<;>obtain⟨js,_|r⟩:=y
 .exact aij (Gy i) u l (by simpa using h)
 .obtain⟨o,J,n,k,p,v,hi⟩:=u
  obtain⟨c,⟨o',m,g,f,d⟩,⟨D,N,F,H,C,G,_⟩⟩:=l
  exact KR z (mixed i hi #[o,k,p,n,v] #[o',g,f,m,d] #[D,H,C,F,G]).1 P w E Q (by simpa using h)
 .obtain⟨o,J,n,k,p,v,hi⟩:=l
  obtain⟨c,⟨o',m,g,f,d⟩,⟨D,N,F,H,C,G,_⟩⟩:=u
  exact KR z (mixed i hi #[o,k,p,n,v] #[o',g,f,m,d] #[D,H,C,F,G]).2 P w E Q (by simpa using h)
 .refine hide λT O=>?_;obtain⟨c,⟨o,n,k,p,v⟩,I⟩:=u
  obtain⟨B,⟨o',m,g,f,d⟩,q⟩:=l
  have K:wJ A.in1 s (.ref c) (.ref B) (decide (ks=js)):=by
   by_cases L:c=B
   .subst L;rw[gq (aaN I q)];exact SX _
   .intro S R E' Q' M;exact aij i (af3 I) (af3 q) M
  refine O (KR z ?_ P w E Q h);have:=aai (e:=λj=>if j=0 then decide _ else(t==r)) ⟨o,k,p,n,v⟩ ⟨o',g,f,m,d⟩ (Gy i) (λj h1 h2=>by
   match j,h1,h2 with
   |0,_,_=>exact K
   |1,_,_=>exact ahU t r)
  have e1:decide ((ks,aa t)=(js,aa r))=((gj (min (#v[fj c,j5 t]).size (#v[fj B,j5 r]).size)).all (λj=>if j=0 then decide (ks=js) else(t==r))&&#v[fj c,j5 t].size==#v[fj B,j5 r].size):=by
   show _=((gj 2).all _&&aq)
   rw[wC];simp[ai1]
  rwa [e1]
theorem apm(d:Hv (gV P w) s.heap ks a)(h:Q aq s):bf (model P w) A (Uz (n+1) (.ref a)) Q E s:=by
 have e:=d.typeIs
 obtain⟨o,b,m,f,_,g,hi⟩:=d
 unfold Uz;refine aJ (zX e F.slot_tuple_eq.lookup ?_);refine aJ (GF e ahP ?_);refine aJ (Tg f g (aJ ?_));rw[<-aaf];refine aiN _ (λrest r s'=>r.1=ao/\s'=s/\∀v∈rest,carriedByValue v=aq) _ ?_ ?_ _ _ #[rfl,rfl,hi.byValue]
 .rintro v rest r s' ⟨hr,rfl,hall⟩;rw[eqIsQuiet_byValue _ (hall v cR)];exact bu #[rfl,rfl,λu c=>hall u (dI _ c)]
 .rintro⟨r1,r2⟩ s' ⟨hr,rfl,_⟩
  subst hr;exact bu h
theorem p6.quiet(b:p6 P w s.heap k a)(h:Q aq s):bf (model P w) A (Uz 8 (.ref a)) Q E s:=by
 obtain⟨ks,_|t⟩:=k
 .exact wpAny_eqIsQuiet_tuple b h
 obtain⟨c,⟨o,n,d,g,f⟩,b⟩:=b
 have e:s.TypeIs (.ref a) _:=#[o,d,g]
 unfold Uz;refine aJ (zX e F.slot_tuple_eq.lookup (aJ (GF e ahP ?_)));refine aJ (Tg d f (aJ ?_));rw[<-aaf];show bf _ _ (forIn [fj c,j5 t] _ _) _ _ _;rw[Lb];refine aJ (aJ (apm b (bu ?_)));show bf _ _ (forIn _ _ _) _ _ _;rw[Lb];refine aJ (aJ (bu (bu ?_)));show bf _ _ _ _ _ _;exact bu (bu h)
def Ej(P:dB)(w:cG):HeapKind P w TK where
 is:=p6 P w
 hash:=Xu P w
 draws:=λk=>match k.2 with|none=>k.1.length+1|some _=>k.1.length+3
 room:=λA=>A.units+1<fD
 inj:=λhx hy=>hx.inj hy
 keeps:=λx ho hd hs=>x.keeps ho hd hs
 pyHash:=λ{A E s k a Q} hu hk h=>by
  obtain⟨ks,_|b⟩:=k
  .exact aii (Gy hu) hk h
  .exact p6.pyHash hu hk h
 eqBool:=λhu hx hy h=>hx.eqBool hu hy h
 quiet:=λhk h=>hk.quiet h
theorem Ii(a:A.units+2<fD):(Ej P w).room A.in1:=a
end
set_option autoImplicit false
inductive V where
 |non|bl (b:Bool)|int (i:Int)|str (x:Str)|qL (b:Array UInt8)|flt (b:UInt64)|ref (a:az)|ty (n:String)
 deriving DecidableEq
set_option genSizeOf false
def RelV:V->aG->Prop
 |.non,u=>u=nH
 |.bl b,u=>u=j5 b
 |.int i,u=>∃t,u=Value.int i t
 |.str x,u=>∃t,u=Value.str x t
 |.qL b,u=>∃t,u=Value.bytes b t
 |.flt b,u=>∃t,u=Value.float b t
 |.ref a,u=>u=fj a
 |.ty n,u=>u=Ae n
abbrev Vals:List V->List aG->Prop:=Paired RelV
theorem Vals.length{xs:012}{us:014}(r:Vals xs us):xs.length=us.length:=Paired.length r
theorem Vals.get:∀{xs:012}{us:014}{i:Nat}{x:V},Vals xs us->xs[i]?=aa x->∃u,us[i]?=aa u/\RelV x u
 |_,_,_,_,.nil,e=>by grind
 |_,_,0,_,.cons r _,e=>by grind
 |_,_,i+1,x,.cons _ t,e=>by
  obtain⟨u,h1,h2⟩:=Vals.get (i:=i) (x:=x) t 002
  grind
theorem Vals.set{x:V}{u:aG}(r:RelV x u):∀{xs:012}{us:014}(i:Nat),Vals xs us->Vals (xs.set i x) (us.set i u)
 |_,_,_,.nil=>.nil
 |_,_,0,.cons _ t=>.cons r t
 |_,_,i+1,.cons q t=>.cons q (Vals.set r i t)
theorem Vals.append:∀{xs ys:012}{us ws:014},Vals xs us->Vals ys ws->Vals (xs++ys) (us++ws)
 |_,_,_,_,.nil,s=>s
 |_,_,_,_,.cons r t,s=>.cons r (Vals.append t s)
theorem Vals.take:∀{xs:012}{us:014}(n:Nat),Vals xs us->Vals (xs.take n) (us.take n)
 |_,_,0,_=>.nil
 |_,_,_+1,.nil=>.nil
 |_,_,n+1,.cons r t=>.cons r (Vals.take n t)
theorem Vals.drop:∀{xs:012}{us:014}(n:Nat),Vals xs us->Vals (xs.drop n) (us.drop n)
 |_,_,0,r=>r
 |_,_,_+1,.nil=>.nil
 |_,_,n+1,.cons _ t=>Vals.drop n t
def o9:Option V->Option aG->Prop
 |some v,some u=>RelV v u
 |none,none=>True
 |_,_=>False
def KV{κ:Type}:List (κ×V)->List (κ×aG)->Prop:=Paired λ(p:κ×V)(q:κ×aG)=>p.1=q.1/\RelV p.2 q.2
def kV:Key->V
 |.inl i=>.int i
 |.inr x=>.str x
inductive HO where
 |lst (xs:012)
 |tup (xs:012)
 |dK (au:List (Key×V)) (ep:Nat)|dT (au:List (TK×V)) (ep:Nat)
 |set (S:Int->Bool) (n:Nat)
 |ins (C dx:az) (fs:List (Str×V))
 |own (x:az)
 |xd (fs:List (Str×V))
 |met (f x:az)
 |Ck (lo hi:Int)
 |tO (o:Obj) (u:HO)
 |Cp (ps:Array aG)
 |ext (φ:cg->Prop)
set_option genInjectivity false
abbrev Hp:=az->Option HO
def upd(H:Hp)(a:az)(o:HO):Hp:=λb=>if b=a then aa o else H b
theorem fK{H:Hp}{a:az}{o:HO}:upd H a o a=aa o:=by unfold upd;lia
theorem c7{H:Hp}{a b:az}{o:HO}(h:b≠a):upd H a o b=H b:=by unfold upd;lia
theorem Wk{H:Hp}{a:az}{o u:HO}:upd (upd H a o) a u=upd H a u:=by
 unfold upd;grind
theorem Jw{H:Hp}{a b:az}{o u:HO}(h:H a=aa o)(h':H b=aa u)(d:o≠u):a≠b:=by grind
theorem sI{H:Hp}{a b:az}{o:HO}(h:H a=aa o)(h':H b=ao):a≠b:=by lia
def jO(H:Hp)(b:az):TK->Prop
 |(ks,none)=>H b=aa (.tup (ks.map kV))
 |(ks,some t)=>∃c,H b=aa (.tup [.ref c,.bl t])/\H c=aa (.tup (ks.map kV))
theorem jO.mono{H H':Hp}{b:az}(a:∀b xs,H b=aa (.tup xs)->H' b=aa (.tup xs)):∀{k:TK},jO H b k->jO H' b k
 |(_,none),h=>a _ _ h
 |(_,some _),⟨c,h1,h2⟩=>#[c,a _ _ h1,a _ _ h2]
section
variable(P:dB)(w:cG)
def kO(H:Hp)(h:cg)(a:az):HO->Prop
 |.lst xs=>xs.length<=cz/\∃(aK:014)(n:Nat),Vals xs aK/\h.get? a=aa {cls:=.type "list",data:=.seq aK.toArray n}
 |.tup xs=>xs.length<=cz/\∃aK:List aG,Vals xs aK/\IsTup h a aK.toArray
 |.dK au ep=>au.length<=cz/\(a==oY)=aH/\∃vs,KV au vs/\h.DictAt (gV P w) a vs ep
 |.dT au ep=>au.length<=cz/\(a==oY)=aH/\∃xs:List (TK×az×aG),
   Paired (λ(p:TK×V)(q:TK×az×aG)=>p.1=q.1/\jO H q.2.1 p.1/\RelV p.2 q.2.2) au xs/\
   ∃o es,h.get? a=aa o/\o.ExactDict/\o.data=.dict es ep/\es.toList=xs.map (entryOfKey (Ej P w))/\(xs.map (·.1)).Nodup
 |.set S n=>h.SetOf (intKind P w) a S n
 |.ins C dx fs=>H dx=aa (.own a)/\fs.length<=1000/\dx≠a/\h.get? a=aa (GZ C dx)/\
   ∃mA,h.Ns1 dx mA/\(∀f,o9 (fs.lookup f) (mA f))/\aa3 mA (fs.map (·.1))
 |.own _=>∃o,h.get? a=aa o
 |.xd fs=>∃mA,h.Ns1 a mA/\∀f,o9 (fs.lookup f) (mA f)
 |.Ck lo hi=>∃t u v,h.get? a=aa {cls:=.type "range",data:=.fields #v[.int lo t,.int hi u,.int 1 v]}
 |.tO o u=>h.get? a=aa o/\kO H h a u
 |.Cp ps=>h.get? a=aa {cls:=.none,data:=.fields ps}
 |.met f x=>h.get? a=aa (PySem.W.methodObj (.ref f) (.ref x))
 |.ext φ=>φ h/\(∃o,h.get? a=aa o)/\∀h1 h2:cg,φ h1->(∀o,h1.get? a=aa o->h2.get? a=aa o)->φ h2
def ig(H:Hp)(h:cg):Prop:=∀a o,H a=aa o->kO P w H h a o
end
section
variable{P:dB}{w:cG}{H H':Hp}{h h':cg}{a:az}{o:HO}
theorem kO.lt(x:kO P w H h a o):a<h.objs.size:=by
 cases o with
 |lst xs=>obtain⟨_,_,_,_,e⟩:=x;exact cY e
 |tup xs=>obtain⟨_,_,_,p⟩:=x;exact p.lt
 |dK au ep=>obtain⟨_,_,_,_,o,_,e,_⟩:=x;exact cY e
 |dT au ep=>obtain⟨_,_,_,_,o,_,e,_⟩:=x;exact cY e
 |set S n=>obtain⟨o,_,_,_,e,_⟩:=x;exact cY e
 |ins C dx fs=>obtain⟨_,_,_,e,_⟩:=x;exact cY e
 |own y=>obtain⟨_,e⟩:=x;exact cY e
 |xd fs=>obtain⟨_,⟨_,_,_,e,_⟩,_⟩:=x;exact cY e
 |Ck lo hi=>obtain⟨_,_,_,e⟩:=x;exact cY e
 |tO ob u=>obtain⟨e,_⟩:=x;exact cY e
 |Cp ps=>exact cY (x)
 |met f y=>exact cY (x)
 |ext φ=>obtain⟨_,⟨_,e⟩,_⟩:=x;exact cY e
theorem Paired.YT{α β:Type}{F G:α->β->Prop}:∀{l₁:List α}{l₂:List β},Paired F l₁ l₂->(∀a b,F a b->G a b)->Paired G l₁ l₂
 |_,_,.nil,_=>.nil
 |_,_,.cons r t,f=>.cons (f _ _ r) (Paired.YT t f)
theorem kO.stay(x:kO P w H h a o)(k:∀b u,(b=a\/H b=aa (.own a))->h.get? b=aa u->h'.get? b=aa u)
  (l:∀b,H b=aa (.own a)->H' b=aa (.own a))(m:∀b xs,H b=aa (.tup xs)->H' b=aa (.tup xs)):kO P w H' h' a o:=by
 induction o with
 |lst xs=>obtain⟨z,j,n,r,e⟩:=x;exact#[z,_,n,r,k _ _ (.inl rfl) e]
 |tup xs=>obtain⟨z,j,r,g,e,c⟩:=x;exact#[z,_,r,g,k _ _ (.inl rfl) e,c]
 |dK au ep=>obtain⟨z,y,vs,r,g,es,e,c⟩:=x;exact#[z,y,vs,r,g,es,k _ _ (.inl rfl) e,c]
 |dT au ep=>
  obtain⟨z,y,xs,r,g,es,e,c⟩:=x
  exact#[z,y,xs,Paired.YT r λp q z=>#[z.1,z.2.1.mono m,z.2.2],g,es,k _ _ (.inl rfl) e,c]
 |set S n=>obtain⟨g,es,ep,t,e,c⟩:=x;exact#[g,es,ep,t,k _ _ (.inl rfl) e,c]
 |ins C dx fs=>
  obtain⟨d,z,ne,e,mA,⟨i,es,ep,e2,c⟩,r⟩:=x
  exact#[l _ d,z,ne,k _ _ (.inl rfl) e,mA,#[i,es,ep,k _ _ (.inr d) e2,c],r]
 |own y=>obtain⟨g,e⟩:=x;exact#[g,k _ _ (.inl rfl) e]
 |xd fs=>obtain⟨mA,⟨i,es,ep,e,c⟩,r⟩:=x;exact#[mA,#[i,es,ep,k _ _ (.inl rfl) e,c],r]
 |Ck lo hi=>obtain⟨t,u,v,e⟩:=x;exact#[t,u,v,k _ _ (.inl rfl) e]
 |tO g u ih=>obtain⟨e,q⟩:=x;exact#[k _ _ (.inl rfl) e,ih q]
 |Cp ps=>
  have e:=x;exact k a _ (.inl rfl) e
 |met f y=>
  have e:=x;exact k a _ (.inl rfl) e
 |ext φ=>obtain⟨p,⟨o,e⟩,st⟩:=x;exact#[st _ _ p λo q=>k _ _ (.inl rfl) q,#[o,k _ _ (.inl rfl) e],st]
theorem ig.lt(x:ig P w H h)(e:H a=aa o):a<h.objs.size:=(x a o e).lt
theorem ig.fresh(x:ig P w H h)(e:h.objs.size<=a):H a=ao:=by
 cases q:H a with
 |none=>rfl
 |some u=>exact absurd (oV (x.lt q) e) (wG _)
theorem ig.kept(x:ig P w H h)(k:∀b u,h.get? b=aa u->h'.get? b=aa u):ig P w H h':=λa o e=>
 (x a o e).stay (λb u _ q=>k b u q) (λ_ q=>q) λ_ _ q=>q
theorem ig.laid(x:ig P w H h)(k:∀b u,h.get? b=aa u->h'.get? b=aa u)(g:h.objs.size<=a)(i:kO P w (upd H a o) h' a o):ig P w (upd H a o) h':=λb u e=>by
 have d:=x.fresh g;by_cases f:b=a
 .subst f;rw[fK] at e;simp_all
 .rw[c7 f] at e
  exact(x b u e).stay (λc v _ q=>k c v q) (λc q=>by rwa [c7 (sI q d)]) λc xs q=>by rwa [c7 (sI q d)]
end
def Rd(H:Hp)(a:az)(u:HO):Prop:=H a=aa u\/∃o,H a=aa (.tO o u)
theorem Rd.ok{P:dB}{w:cG}{H:Hp}{h:cg}{a:az}{u:HO}(r:Rd H a u)(x:ig P w H h):kO P w H h a u:=by
 rcases r with r|⟨o,r⟩
 .exact x a u r
 .obtain⟨_,q⟩:=x a _ r
  exact q
def J4:Option HO->Prop
 |some (.lst _)=>True
 |some (.dK _ _)=>True
 |some (.dT _ _)=>True
 |some (.set _ _)=>True
 |some (.ins _ _ _)=>True
 |some (.ext _)=>True
 |_=>False
section
variable{P:dB}{w:cG}{H:Hp}{h h':cg}{x e:az}{o':HO}
theorem ig.write(ok:ig P w H h)(g:J4 (H x))(p:e=x\/H e=aa (.own x))(k:∀b u,b≠e->h.get? b=aa u->h'.get? b=aa u)(d:∃u,h'.get? e=aa u)
  (m:kO P w (upd H x o') h' x o'):ig P w (upd H x o') h':=λb u q=>by
 have f:∀c y,H c=aa (.own y)->c≠x:=λc y r z=>by subst z;rwa [r] at g
 have a:∀c xs,H c=aa (.tup xs)->c≠x:=λc xs r z=>by subst z;rwa [r] at g
 by_cases i:b=x
 .subst i;rw[fK] at q;simp_all
 .rw[c7 i] at q;by_cases l:b=e
  .have j:H b=aa (.own x):=by grind
   rw[q] at j;cases j
   obtain⟨v,n⟩:=d
   exact#[v,by grind]
  .refine(ok b u q).stay (λc v o r=>k c v ?_ r) (λc r=>by rwa [c7 (f c b r)]) λc xs r=>by rwa [c7 (a c xs r)]
   grind
end
structure Un(fs ex:List az)(H H':Hp)(h h':cg):Prop where
 keep:∀b o,h.get? b=aa o->H b=ao->b∉fs->b∉ex->h'.get? b=aa o
 slot:∀b o,h.get? b=aa o->H b=ao->b∈fs->b∉ex->∃sl,h'.get? b=aa {o with slots:=sl}
 free:∀b o,h.get? b=aa o->H b=ao->b∉ex->H' b=ao
 there:∀b o,h.get? b=aa o->b∉ex->∃o',h'.get? b=aa o'
 tups:∀b xs,H b=aa (.tup xs)->H' b=aa (.tup xs)
 xN:∀b o u,H b=aa (.tO o u)->H' b=aa (.tO o u)
 zj:∀b ps,H b=aa (.Cp ps)->∃more,H' b=aa (.Cp (ps++more))
section
variable{fs fs' ex ex':List az}{H H1 H2:Hp}{h h1 h2 h':cg}{a x e:az}{o:HO}
theorem Un.any(u:Un fs ex H H1 h h1){b:az}{ob:Obj}(q:h.get? b=aa ob)(n:H b=ao)(a:b∉ex):∃sl,h1.get? b=aa {ob with slots:=sl}:=by
 by_cases c:b∈fs
 .exact u.slot b ob q n c a
 .exact#[_,u.keep b ob q n c a]
theorem Un.kept(k:∀b u,h.get? b=aa u->h'.get? b=aa u):Un fs ex H H h h':=
 #[λb a q _ _ _=>k b a q,λb a q _ _ _=>#[_,k b a q],λ_ _ _ n _=>n,λb a q _=>#[a,k b a q],λ_ _ q=>q,λ_ _ _ q=>q,λ_ ps q=>#[#v[],by grind]]
theorem Un.refl:Un fs ex H H h h:=Un.kept λ_ _ q=>q
theorem Un.laid(k:∀b u,h.get? b=aa u->h'.get? b=aa u)(d:h.objs.size<=a)(c:H a=ao):Un fs ex H (upd H a o) h h' where
 keep:=λb u q _ _ _=>k b u q
 slot:=λb u q _ _ _=>#[_,k b u q]
 free:=λb u q n _=>by rwa [c7 (fW (oV (cY q) d))]
 there:=λb u q _=>#[u,k b u q]
 tups:=λb xs q=>by rwa [c7 (sI q c)]
 xN:=λb u xs q=>by rwa [c7 (sI q c)]
 zj:=λb ps q=>#[#v[],by rw[c7 (sI q c),q];simp]
theorem Un.write(d:J4 (H x))(i:e=x\/H e=aa (.own x))(k:∀b u,b≠e->h.get? b=aa u->h'.get? b=aa u)(f:∃u,h'.get? e=aa u):Un fs ex H (upd H x o) h h':=by
 have g:∀b,H b=ao->b≠x:=λb n z=>by subst z;rwa [n] at d
 have c:∀b,H b=ao->b≠e:=λb n z=>by grind
 have a:∀b u,H b=aa u->¬J4 (aa u)->b≠x:=λb u q j z=>by lia
 refine⟨λb u q n _ _=>k b u (c b n) q,λb u q n _ _=>⟨_,k b u (c b n) q⟩,λb u q n _=>by rwa [c7 (g b n)],λb u q _=>?_,
  λb xs q=>by rwa [c7 (a b _ q λz=>z)],λb u xs q=>by rwa [c7 (a b _ q λz=>z)],λb ps q=>⟨#v[],by rw[c7 (a b _ q λz=>z),q];simp⟩⟩
 grind
end
def trk(h:cg)(H:Hp):List az:=(gj h.objs.size).filter λa=>(H a).isSome
def Fw(h:cg)(H:Hp):cg:=PySem.W.hideAll h (trk h H)
theorem akL(h:cg)(H:Hp):(Fw h H).objs.size=h.objs.size:=PySem.W.hideAll_size _ _
theorem alR{h:cg}{H:Hp}{b:az}{o:Obj}(e:h.get? b=aa o)(n:H b=ao):(Fw h H).get? b=aa o:=
 PySem.W.hideAll_get _ e λa=>by
  have q:=(mR.mp a).2;simp_all
theorem anD{h:cg}{H:Hp}{b:az}{o:Obj}(e:(Fw h H).get? b=aa o):h.get? b=aa o/\H b=ao:=by
 have a:=PySem.W.of_hideAll _ e
 refine#[a,?_]
 cases q:H b with
 |none=>rfl
 |some x=>
  have c:b∈trk h H:=mR.mpr #[qp.mpr (cY a),by grind];have z:(Fw h H).get? b=ao:=PySem.W.hideAll_none _ c
  grind
def anE(g h:cg)(L:az):List (az×Obj):=(gj h.objs.size).filterMap λa=>if a=L\/(g.get? a).isSome=aq then ao else(h.get? a).map λo=>(a,o)
def rest(g h:cg)(L d:az):List (az×Obj):=(anE g h L).filter λp=>decide (p.1≠d)
structure Mod(K:aU)(mg:Str->Option aG)(base:cg):Prop where
 Rg:K.In base
 glob:base.Ns iu mg
 blt:∃mb,base.Ns builtinsNs mb/\∀x:Str,x≠"__name__"->mb x=uc x
 nolimit:base.NoLimit
structure Cx where
 prog:dB
 w:cG
 K:aU
 mg:Str->Option aG
 base:cg
 A:dN
 N:List Str
 s0:aR
 H₀:Hp
 env:Env
 outer:List Env
 stack:List Env
 ex:List az
 fn:Str->Bool
 calm:Bool
 pn:List (az×Obj)
 xe:aG->aR->Prop
def frs(l:List Env):List az:=l.filterMap (·.frame)
abbrev Cx.fs(X:Cx):List az:=frs X.outer
def Zj(sc:iU)(x:Str):Prop:=sc.names.lookup x=aa .local\/sc.names.lookup x=aa .cell\/sc.names.lookup x=aa .free
def Loc(sc:iU)(x:Str):Prop:=sc.names.lookup x=aa .local\/sc.names.lookup x=aa .cell
def Look(aj:Env)(h:cg)(m:Str->Option aG)(x:Str)(u:aG):Prop:=
 (aj.kindOf x=aa .local/\m x=aa u)\/((aj.kindOf x=aa .cell\/aj.kindOf x=aa .free)/\∃c,aj.cells.lookup x=aa c/\h.IsCell c (aa u))
structure Cx.Ok(X:Cx):Prop where
 mod:Mod X.K X.mg X.base
 kind:X.env.scope.kind=.function
 glob:X.env.globals=iu
 blt:X.env.builtins=builtinsNs
 above:X.s0.heap.objs.size<=X.env.locals
 inj:∀x y c,X.env.cells.lookup x=aa c->X.env.cells.lookup y=aa c->x=y
 has:∀x,(X.env.kindOf x=aa .cell\/X.env.kindOf x=aa .free)->∃c,X.env.cells.lookup x=aa c
 cab:∀x c,X.fn x=aq->X.env.cells.lookup x=aa c->X.s0.heap.objs.size<=c
 hd:X.calm=aq->X.A.handled=ao
 frames:X.A.frames=aa X.stack
 stk:X.stack=X.outer\/(X.stack=X.env::X.outer/\X.env.frame=aa X.env.locals)
 exf:∀b∈X.ex,b≠X.env.locals/\∀x c,X.env.cells.lookup x=aa c->c≠b
 bs:∀b o,X.base.get? b=aa o->X.s0.heap.get? b=aa o/\X.H₀ b=ao
 xV:X.base.objs.size<=X.s0.heap.objs.size
 JR:∀b o,X.base.get? b=aa o->b∉X.ex
 QD:∀b∈X.ex,b∉X.fs
 tG:X.s0.heap.FunFrames X.base X.outer
 Cq:∀b∈X.fs,X.H₀ b=ao
structure Inv(X:Cx)(aA:List (az×Obj))(σ:List (Option V))(H:Hp)(s:aR):Prop where
 ok:X.Ok
 os:s.os=X.s0.os
 bare:AllBare s.gens
 base:Un X.fs X.ex X.H₀ H X.s0.heap s.heap
 loc:∃m,s.heap.Ns X.env.locals m/\∀(i:Nat)(x:Str)(v:V),X.N[i]?=aa x->σ[i]?=aa (aa v)->Zj X.env.scope x->∃u,RelV v u/\Look X.env s.heap m x u
 cell:∀x c,X.env.cells.lookup x=aa c->∃v,s.heap.IsCell c v
 free:H X.env.locals=ao
 ux:∀x c,X.env.cells.lookup x=aa c->H c=ao
 pin:∀p∈X.pn++aA,s.heap.get? p.1=aa p.2/\H p.1=ao/\p.1≠X.env.locals/\p.1∉X.fs/\∀v,p.2.data≠.cell v
 hok:ig X.prog X.w H s.heap
 len:σ.length=X.N.length
section
variable{X:Cx}{aA:List (az×Obj)}{σ:List (Option V)}{H H':Hp}{s:aR}{h':cg}
theorem Cx.Ok.arb(ok:X.Ok){b:az}{o:Obj}(e:X.base.get? b=aa o):b∉X.fs:=λa=>by
 have:=(ok.tG.mem a).1
 grind
theorem Inv.bs(I:06):∀b o,X.base.get? b=aa o->s.heap.get? b=aa o/\H b=ao:=λb o e=>
 #[I.base.keep b o (I.ok.bs b o e).1 (I.ok.bs b o e).2 (I.ok.arb e) (I.ok.JR b o e),I.base.free b o (I.ok.bs b o e).1 (I.ok.bs b o e).2 (I.ok.JR b o e)]
theorem Inv.bk(I:06):∀b o,X.base.get? b=aa o->s.heap.get? b=aa o:=λb o e=>(I.bs b o e).1
theorem Inv.mod(I:06):Mod X.K X.mg X.base:=I.ok.mod
theorem Inv.jP(I:06):X.K.In s.heap:=I.ok.mod.Rg.keeps I.bk
theorem Inv.lt(I:06):X.env.locals<s.heap.objs.size:=let ⟨_,hn,_⟩:=I.loc;hn.lt
theorem Inv.sz(I:06):X.s0.heap.objs.size<=s.heap.objs.size:=jl I.ok.above (yu I.lt)
theorem Inv.arc(I:06){a:az}(h:s.heap.objs.size<=a):a∉X.fs:=λc=>by
 obtain⟨_,o,b,_⟩:=I.ok.tG.mem c
 exact absurd (oV (cY b) (jl I.sz h)) (wG _)
theorem Inv.Cr(I:06):∀x c,X.env.cells.lookup x=aa c->c≠X.env.locals:=λx c e z=>by
 obtain⟨v,o,d,f⟩:=I.cell x c e
 obtain⟨m,⟨o',es,ep,b,a,_⟩,_⟩:=I.loc
 simp_all
theorem Inv.tG(I:06):s.heap.FunFrames X.base X.outer:=by
 have all:∀(l:List _),(∀b∈frs l,b∈X.fs)->X.s0.heap.FunFrames X.base l->s.heap.FunFrames X.base l:=by
  intro l;induction l with
  |nil=>intro _ _;trivial
  |cons aj r ih=>
   intro d i
   obtain⟨g,⟨L,o,f,k,h,m⟩,j⟩:=i
   have a:=d L (by unfold frs;grind)
   obtain⟨sl,e⟩:=I.base.slot L o h (I.ok.Cq L a) a λz=>I.ok.QD L z a
   exact#[g,#[L,_,f,k,e,m],ih (λb c=>d b (by unfold frs;rw[aib,f];exact dI _ c)) j]
 exact all _ (λ_ c=>c) I.ok.tG
theorem Inv.stack(I:06):s.heap.FunFrames X.base X.stack:=by
 rcases I.ok.stk with e|⟨e,b⟩
 .rw[e];exact I.tG
 .rw[e]
  obtain⟨m,a,_⟩:=I.loc
  refine .cons (by rw[I.ok.kind];decide) b a ?_ I.tG;exact Heap.get?_none_of_le (jl I.ok.xV I.ok.above)
theorem Inv.Ek(I:06):∀b∈frs X.stack,b∈X.env.locals::X.fs:=λb a=>by
 rcases I.ok.stk with e|⟨e,c⟩
 .grind
 .rw[e] at a;unfold frs at a;rw[aib,c] at a;trivial
theorem Inv.adn(I:06):∀b∈frs X.stack,H b=ao:=λb a=>by
 rcases cC.mp (I.Ek b a) with e|a
 .rw[e];exact I.free
 .obtain⟨_,o,c,_⟩:=I.ok.tG.mem a
  exact I.base.free b o c (I.ok.Cq b a) λz=>I.ok.QD b z a
theorem Inv.step{J:Array GenState}{t':Nat}{d':Bo}{ch:015}(I:06)
  (h:∀b∈ch,(b∈X.ex\/X.s0.heap.objs.size<=b)/\b≠X.env.locals/\(∀x c,X.env.cells.lookup x=aa c->c≠b)/\∀p∈X.pn++aA,p.1≠b)
  (keep:∀b o,b≠X.env.locals->b∉X.fs->b∉ch->s.heap.get? b=aa o->H b=ao->h'.get? b=aa o)
  (j:∀b o,b≠X.env.locals->b∈X.fs->b∉ch->s.heap.get? b=aa o->H b=ao->∃sl,h'.get? b=aa {o with slots:=sl})(f:∀b o,b∉ch->s.heap.get? b=aa o->H b=ao->H' b=ao)
  (w:∀b o,b∉ch->s.heap.get? b=aa o->∃o',h'.get? b=aa o')
  (B:∀b xs,H b=aa (.tup xs)->H' b=aa (.tup xs))(N:∀b o u,H b=aa (.tO o u)->H' b=aa (.tO o u))(M:∀b ps,H b=aa (.Cp ps)->∃more,H' b=aa (.Cp (ps++more)))
  (ns:∀m,s.heap.Ns X.env.locals m->h'.Ns X.env.locals m)(E:ig X.prog X.w H' h')(T:AllBare J):
  Inv X aA σ H' {s with heap:=h',gens:=J,drawn:=d',toks:=t'}:=by
 have A:∀b o,X.s0.heap.get? b=aa o->b≠X.env.locals:=λb o e=>fW (oV (cY e) I.ok.above)
 have D:∀b o,X.s0.heap.get? b=aa o->b∉X.ex->b∉ch:=λb o e a t=>by
  rcases(h b t).1 with z|z
  .exact a z
  .exact absurd (oV (cY e) z) (wG _)
 have g:∀x c,X.env.cells.lookup x=aa c->∀v,s.heap.IsCell c v->h'.IsCell c v:=λx c e v Q=>by
  obtain⟨o,y,F⟩:=Q
  have C:=λz=>(h c z).2.2.1 x c e rfl
  by_cases K:c∈X.fs
  .obtain⟨sl,q⟩:=j c o (I.Cr x c e) K C y (I.ux x c e)
   exact#[_,q,F]
  .exact#[o,keep c o (I.Cr x c e) K C y (I.ux x c e),F]
 refine#[I.ok,I.os,T,#[λb o e n t a=>?_,λb o e n t a=>?_,λb o e n a=>?_,λb o e a=>?_,λb xs e=>B b xs (I.base.tups b xs e),λb o xs e=>N b o xs (I.base.xN b o xs e),λb ps e=>?_],?_,λx c e=>?_,?_,λx c e=>?_,λp G=>?_,E,I.len]
 .exact keep b o (A b o e) t (D b o e a) (I.base.keep b o e n t a) (I.base.free b o e n a)
 .obtain⟨sl,e1⟩:=I.base.slot b o e n t a
  obtain⟨R,e2⟩:=j b _ (A b o e) t (D b o e a) e1 (I.base.free b o e n a)
  exact#[_,e2]
 .obtain⟨o',e1⟩:=I.base.there b o e a
  exact f b o' (D b o e a) e1 (I.base.free b o e n a)
 .obtain⟨o',e1⟩:=I.base.there b o e a
  exact w b o' (D b o e a) e1
 .obtain⟨U,e1⟩:=I.base.zj b ps e
  obtain⟨V,e2⟩:=M b _ e1
  exact#[_,by rw[e2,Array.append_assoc]]
 .obtain⟨m,S,O⟩:=I.loc
  refine#[m,ns m S,λi x v e1 e2 P=>?_]
  obtain⟨u,r,l⟩:=O i x v e1 e2 P
  refine#[u,r,?_]
  rcases l with l|⟨k,c,e,z⟩
  .exact .inl l
  .exact .inr #[k,c,e,g x c e _ z]
 .obtain⟨v,z⟩:=I.cell x c e
  exact#[v,g x c e v z]
 .obtain⟨m,⟨o,_,_,y,_⟩,_⟩:=I.loc
  exact f _ o (λz=>(h _ z).2.1 rfl) y I.free
 .obtain⟨v,o,y,F⟩:=I.cell x c e
  exact f c o (λz=>(h c z).2.2.1 x c e rfl) y (I.ux x c e)
 .obtain⟨e,n,ne,L,d⟩:=I.pin p G
  have C:=λz=>(h _ z).2.2.2 p G rfl
  exact#[keep _ _ ne L C e n,f _ _ C e n,ne,L,d]
theorem Inv.un{t':Nat}(I:06)(u:Un X.fs [] H H' s.heap h')(d:ig X.prog X.w H' h'):Inv X aA σ H' {s with heap:=h',toks:=t'}:=by
 refine hide λq l=>?_
 obtain⟨m,⟨o,es,ep,f,r⟩,_⟩:=id I.loc
 obtain⟨sl,g⟩:=u.any f I.free bH
 exact l (I.step (ch:=[]) (λ_ z=>nomatch z) (λb o _ c _ e n=>u.keep b o e n c bH) (λb o _ c _ e n=>u.slot b o e n c bH) (λb o _ e n=>u.free b o e n bH) (λb o _ e=>u.there b o e bH) u.tups u.xN u.zj (λp h=>by
  obtain⟨o',j,i,a,k⟩:=h
  rw[f] at a;cases a
  exact⟨_,_,_,g,k⟩) d I.bare)
theorem Inv.call{j:Array GenState}{t':Nat}{d':Bo}{ch:015}(I:06)(u:Un (frs X.stack) ch H H' s.heap h')(h:ig X.prog X.w H' h')(y:AllBare j)
  (d:∀b∈ch,(b∈X.ex\/X.s0.heap.objs.size<=b)/\b≠X.env.locals/\(∀x c,X.env.cells.lookup x=aa c->c≠b)/\∀p∈X.pn++aA,p.1≠b):
  Inv X aA σ H' {s with heap:=h',gens:=j,drawn:=d',toks:=t'}:=by
 refine hide λB w=>?_
 obtain⟨m,⟨o,es,ep,i,r⟩,_⟩:=id I.loc
 obtain⟨sl,g⟩:=u.any i I.free λz=>(d _ z).2.1 rfl
 exact w (I.step d (λb o g l a e n=>u.keep b o e n (λz=>(cC.mp (I.Ek b z)).elim g l) a) (λb o _ _ a e n=>u.any e n a) (λb o a e n=>u.free b o e n a) (λb o a e=>u.there b o e a) u.tups u.xN u.zj (λA k=>by
  obtain⟨o',t,q,f,v⟩:=k
  rw[i] at f;cases f
  exact⟨_,_,_,g,v⟩) h y)
theorem Inv.turned{t':Nat}{it:az}(I:06)(k:∀b o,b≠it->s.heap.get? b=aa o->h'.get? b=aa o)(j:H it=ao)(d:it≠X.env.locals)
  (h1:it∈X.ex\/X.s0.heap.objs.size<=it)(h2:∀x c,X.env.cells.lookup x=aa c->c≠it)(i:∀p∈X.pn++aA,p.1≠it):Inv X aA σ H {s with heap:=h',toks:=t'}:=by
 refine I.step (ch:=[it]) (λb h=>?_) (λb o _ _ a e _=>k b o (λz=>a (by simp[z])) e) (λb o _ _ a e _=>#[_,k b o (λz=>a (by simp[z])) e]) (λ_ _ _ _ n=>n)
  (λb o a e=>#[o,k b o (λz=>a 002) e]) (λ_ _ e=>e) (λ_ _ _ e=>e) (λb ps e=>#[#v[],by grind]) (λm f=>?_) (λb u e=>?_) I.bare
 .grind
 .obtain⟨o,es,ep,g,r⟩:=f
  exact#[o,es,ep,k _ o (jK d) g,r]
 .refine(I.hok b u e).stay (λc v a q=>k c v ?_ q) (λ_ q=>q) λ_ _ q=>q
  grind
theorem Inv.tok(I:06)(t:Nat):Inv X aA σ H {s with toks:=t}:=I.un Un.refl I.hok
theorem Inv.kept{t':Nat}(I:06)(k:∀b u,s.heap.get? b=aa u->h'.get? b=aa u):Inv X aA σ H {s with heap:=h',toks:=t'}:=I.un (Un.kept k) (I.hok.kept k)
theorem Inv.laid{a:az}{o:HO}{t':Nat}(I:06)(k:∀b u,s.heap.get? b=aa u->h'.get? b=aa u)(c:s.heap.objs.size<=a)(d:kO X.prog X.w (upd H a o) h' a o):
  Inv X aA σ (upd H a o) {s with heap:=h',toks:=t'}:=I.un (Un.laid k c (I.hok.fresh c)) (I.hok.laid k c d)
theorem Inv.write{x e:az}{o:HO}{t':Nat}(I:06)(d:J4 (H x))(f:e=x\/H e=aa (.own x))(k:∀b u,b≠e->s.heap.get? b=aa u->h'.get? b=aa u)(a:∃u,h'.get? e=aa u)
  (c:kO X.prog X.w (upd H x o) h' x o):Inv X aA σ (upd H x o) {s with heap:=h',toks:=t'}:=I.un (Un.write d f k a) (I.hok.write d f k a c)
theorem Inv.weak{F':List (Option V)}(I:06)(a:F'.length=σ.length)(w:∀(i:Nat) v,F'[i]?=aa (aa v)->σ[i]?=aa (aa v)):Inv X aA F' H s:=
 #[I.ok,I.os,I.bare,I.base,let ⟨m,hn,hl'⟩:=I.loc;#[m,hn,λi x v e1 e2 b=>hl' i x v e1 (w i v e2) b],I.cell,I.free,I.ux,I.pin,I.hok,a.trans I.len]
theorem Inv.ado{a:004}(I:06)(h:∀p∈a,s.heap.get? p.1=aa p.2/\H p.1=ao/\p.1≠X.env.locals/\p.1∉X.fs/\∀v,p.2.data≠.cell v):Inv X a σ H s:=
 #[I.ok,I.os,I.bare,I.base,I.loc,I.cell,I.free,I.ux,λp b=>(dU.mp b).elim (λz=>I.pin p (jG _ z)) (h p),I.hok,I.len]
theorem acq{N:009}(c:N.Nodup){i j:Nat}{x:Str}(a:N[i]?=aa x)(b:N[j]?=aa x):i=j:=by
 obtain⟨h1,e1⟩:=jk.mp a
 obtain⟨h2,e2⟩:=jk.mp b
 exact(List.getElem_inj c).mp (e1.trans e2.symm)
theorem abJ{M:Model}{A:dN}{E:aG->aR->Prop}{i:Nat}{x:Str}{v:V}{u:aG}{Q:Unit->aR->Prop}(I:06)(hN:017)(hi:X.N[i]?=aa x)(l:Loc X.env.scope x)(r:RelV v u)
  (h:∀s',Inv X aA (σ.set i (aa v)) H s'->(∃a,qW a s.heap s'.heap/\(a=X.env.locals\/X.env.cells.lookup x=aa a))->Q () s')(hf:X.fn x=aq\/X.env.scope.names.lookup x=aa .local:=by first|exact .inl rfl|exact .inr rfl|assumption):bf M A (storeName X.env x u) Q E s:=by
 obtain⟨m,Y,hl⟩:=id I.loc
 have F:(X.env.scope.kind==.class||(X.env.scope.kind==.module&&X.env.locals != X.env.globals))=aH:=by rw[I.ok.kind];rfl
 have hiF:i<σ.length:=by rw[I.len];exact(jk.mp hi).1
 have Cr:=I.Cr;have tracked:∀{a:az}{h':cg},(∃o,s.heap.get? a=aa o/\H a=ao)->qW a s.heap h'->ig X.prog X.w H h':=λ{a h'} ha f b ob e=>by
  obtain⟨_,_,t⟩:=ha
  refine(I.hok b ob e).stay (λc L g q=>(f.2 c ?_).trans q) (λ_ q=>q) λ_ _ q=>q
  rintro rfl;rcases g with rfl|g
  .rw[t] at e;cases e
  .rw[t] at g;cases g
 rcases l with w|w
 .refine wpAny_storeName_local w Y (λh' R f=>?_) F
  obtain⟨oL,_,_,O,_⟩:=id Y
  refine h _ #[I.ok,I.os,I.bare,#[λb o e n B l=>?_,λb o e n B l=>?_,I.base.free,λb o e l=>?_,I.base.tups,I.base.xN,I.base.zj],#[_,R,λj y Z e1 e2 S=>?_],λy c e=>?_,I.free,I.ux,λp T=>?_,tracked #[oL,O,I.free] f,by simpa using I.len] #[_,f,.inl rfl]
  .exact(f.2 b (fW (oV (cY e) I.ok.above))).trans (I.base.keep b o e n B l)
  .obtain⟨sl,e1⟩:=I.base.slot b o e n B l
   exact#[sl,(f.2 b (fW (oV (cY e) I.ok.above))).trans e1]
  .obtain⟨o',e1⟩:=I.base.there b o e l
   exact#[o',(f.2 b (fW (oV (cY e) I.ok.above))).trans e1]
  .by_cases D:j=i
   .subst D;rw[hi] at e1;cases e1;rw[Z4 hiF] at e2;cases e2
    exact#[u,r,.inl #[w,bH]]
   .rw[qT (jK D)] at e2
    obtain⟨P,U,q⟩:=hl j y Z e1 e2 S
    refine#[P,U,?_]
    rcases q with⟨k,e⟩|⟨k,c,e,z⟩
    .refine .inl #[k,?_];have:y≠x:=λe=>D (acq hN e1 (e▸hi))
     simp[this,e]
    .exact .inr #[k,c,e,z.sameBut f (Cr y c e)]
  .obtain⟨L,z⟩:=I.cell y c e
   exact#[L,z.sameBut f (Cr y c e)]
  .obtain⟨e,n,ne,W,d⟩:=I.pin p T
   exact#[(f.2 p.1 ne).trans e,n,ne,W,d]
 .have C:X.fn x=aq:=by
   rcases hf with z|z
   .exact z
   .rw[z] at w;cases w
  obtain⟨c,g⟩:=I.ok.has x (.inl w)
  obtain⟨L,z⟩:=I.cell x c g
  refine wpAny_storeName_cell I.ok.kind w g z (λh' J f=>?_)
  obtain⟨oc,G,at9⟩:=id z
  refine h _ #[I.ok,I.os,I.bare,#[λb o e n B l=>?_,λb o e n B l=>?_,I.base.free,λb o e l=>?_,I.base.tups,I.base.xN,I.base.zj],#[m,Y.sameBut f (jK (Cr x c g)),λj y Z e1 e2 S=>?_],λy N e=>?_,I.free,I.ux,λp T=>?_,tracked #[oc,G,I.ux x c g] f,by simpa using I.len] #[c,f,.inr g]
  .exact(f.2 b (fW (oV (cY e) (I.ok.cab x c C g)))).trans (I.base.keep b o e n B l)
  .obtain⟨sl,e1⟩:=I.base.slot b o e n B l
   exact#[sl,(f.2 b (fW (oV (cY e) (I.ok.cab x c C g)))).trans e1]
  .obtain⟨o',e1⟩:=I.base.there b o e l
   exact#[o',(f.2 b (fW (oV (cY e) (I.ok.cab x c C g)))).trans e1]
  .by_cases D:j=i
   .subst D;rw[hi] at e1;cases e1;rw[Z4 hiF] at e2;cases e2
    exact#[u,r,.inr #[.inl w,c,g,J]]
   .rw[qT (jK D)] at e2
    obtain⟨P,U,q⟩:=hl j y Z e1 e2 S
    refine#[P,U,?_]
    rcases q with q|⟨k,N,e,z'⟩
    .exact .inl q
    .refine .inr #[k,N,e,z'.sameBut f ?_];rintro rfl;exact D (acq hN e1 (I.ok.inj _ _ _ e g▸hi))
  .by_cases K:N=c
   .subst K;exact#[_,J]
   .obtain⟨w2,z2⟩:=I.cell y N e
    exact#[w2,z2.sameBut f K]
  .obtain⟨e,n,ne,W,d⟩:=I.pin p T
   refine#[(f.2 p.1 ?_).trans e,n,ne,W,d]
   intro q;rw[q,G] at e;have q':oc=p.2:=lY e;exact d L (by rwa [<-q'])
theorem vh{M:Model}{A:dN}{E:aG->aR->Prop}{i:Nat}{x:Str}{v:V}{u:aG}{Q:Unit->aR->Prop}(I:06)(a:017)(hi:X.N[i]?=aa x)(c:Loc X.env.scope x)(r:RelV v u)
  (h:∀s',Inv X aA (σ.set i (aa v)) H s'->Q () s')(d:X.fn x=aq\/X.env.scope.names.lookup x=aa .local:=by first|exact .inl rfl|exact .inr rfl|assumption):bf M A (storeName X.env x u) Q E s:=
 abJ I a hi c r (λs' b _=>h s' b) d
theorem Inv.call'{s':aR}{ch:015}(I:06)(f:s'.os=s.os)(u:Un (frs X.stack) ch H H' s.heap s'.heap)(a:ig X.prog X.w H' s'.heap)(g:AllBare s'.gens)
  (d:∀b∈ch,(b∈X.ex\/X.s0.heap.objs.size<=b)/\b≠X.env.locals/\(∀x c,X.env.cells.lookup x=aa c->c≠b)/\∀p∈X.pn++aA,p.1≠b):Inv X aA σ H' s':=by
 obtain⟨h',h,d',i,o'⟩:=s'
 have e:=f;subst e;exact I.call u a g d
end
abbrev XK:=aG->Option az->Hp->Prop
abbrev St:=List (Option V)
abbrev VK:=V->Hp->Prop
abbrev TE:=St->Hp->VK->Prop
abbrev TT:=St->Hp->(Bool->Hp->Prop)->Prop
abbrev TA:=St->Hp->(List V->Hp->Prop)->Prop
structure Ends where
 nx:St->Hp->Prop
 rt:VK
 bk:St->Hp->Prop:=λ_ _=>False
 ct:St->Hp->Prop:=λ_ _=>False
abbrev TS:=Ends->St->Hp->Prop
def EP(X:Cx)(aA:004)(σ:St)(Q:VK)(u:aG)(s':aR):Prop:=∃v H',Inv X aA σ H' s'/\RelV v u/\Q v H'
def TP(X:Cx)(aA:004)(σ:St)(Q:Bool->Hp->Prop)(b:Bool)(s':aR):Prop:=∃H',Inv X aA σ H' s'/\Q b H'
def AP(X:Cx)(aA:004)(σ:St)(Q:List V->Hp->Prop)(us:014)(s':aR):Prop:=∃vs H',Inv X aA σ H' s'/\Vals vs us/\Q vs H'
def SP(X:Cx)(aA:004)(D:Ends)(f:Flow)(s':aR):Prop:=
 match f with
 |.next=>∃F' H',Inv X aA F' H' s'/\D.nx F' H'
 |.brk=>∃F' H',Inv X aA F' H' s'/\D.bk F' H'
 |.cont=>∃F' H',Inv X aA F' H' s'/\D.ct F' H'
 |.ret u=>∃v F' H',Inv X aA F' H' s'/\RelV v u/\D.rt v H'
def PE(X:Cx)(e:Expr)(t:TE):Prop:=
 ∀(aA:004)(s:aR)(σ:St)(H:Hp)(Q:VK),Inv X aA σ H s->t σ H Q->bf 05 X.A (eval e X.env) (EP X aA σ Q) X.xe s
def PT(X:Cx)(e:Expr)(t:TT):Prop:=
 ∀(aA:004)(s:aR)(σ:St)(H:Hp)(Q:Bool->Hp->Prop),Inv X aA σ H s->t σ H Q->bf 05 X.A (isTrue e X.env (eval e X.env)) (TP X aA σ Q) X.xe s
def PW(X:Cx)(e:Expr)(t:TT):Prop:=
 ∀(whole:Sem aG)(aA:004)(s:aR)(σ:St)(H:Hp)(Q:Bool->Hp->Prop),Inv X aA σ H s->t σ H Q->bf 05 X.A (isTrue e X.env whole) (TP X aA σ Q) X.xe s
theorem PW.pt{X:Cx}{e:Expr}{t:TT}(h:PW X e t):PT X e t:=h _
def PA(X:Cx)(es:List Expr)(t:TA):Prop:=
 ∀(pos:Pos)(aA:004)(s:aR)(σ:St)(H:Hp)(Q:List V->Hp->Prop),Inv X aA σ H s->t σ H Q->bf 05 X.A (spliced (eN pos (bI es X.env))) (AP X aA σ Q) X.xe s
def PS(X:Cx)(st:dF)(t:TS):Prop:=
 ∀(aA:004)(s:aR)(σ:St)(H:Hp)(D:Ends),Inv X aA σ H s->t D σ H->bf 05 X.A (exec st X.env) (SP X aA D) X.xe s
def jD(X:Cx)(st:List dF)(t:TS):Prop:=
 ∀(aA:004)(s:aR)(σ:St)(H:Hp)(D:Ends),Inv X aA σ H s->t D σ H->bf 05 X.A (execs st X.env) (SP X aA D) X.xe s
theorem bY{α:Type}{t:Sem α}{Q Q':α->aR->Prop}{M:Model}{A:dN}{E:aG->aR->Prop}{s:aR}(h:bf M A t Q E s)(b:∀a s,Q a s->Q' a s):bf M A t Q' E s:=qY h b λ_ _ x=>x
section
variable{X:Cx}
def jx(i:Nat):TE:=λσ H Q=>∃v,σ[i]?=aa (aa v)/\Q v H
def tC(v:V):TE:=λ_ H Q=>Q v H
theorem apn{i:Nat}{x:Str}{pos:Pos}(n:X.N[i]?=aa x)(j:Zj X.env.scope x)(g:(x==("__debug__":Str))=aH:=by decide)(d:(x==("__classdict__":Str))=aH:=by decide):PE X (.Name x pos) (jx i):=by
 intro aA s σ H Q I h;refine hide λp f=>?_
 obtain⟨v,e,h⟩:=h
 obtain⟨m,o,k⟩:=I.loc
 obtain⟨u,r,l⟩:=k i x v n e j
 have b:EP X _ σ Q u s:=#[v,H,I,r,h]
 rcases l with⟨a,hm⟩|⟨a,c,hc,hcell⟩
 .exact f (abr (wpAny_loadName_local I.ok.kind a o hm b) g)
 .rcases a with a|a
  .exact f (abr (wpAny_loadName_cell I.ok.kind a hc hcell b) g)
  .exact f (abr (wpAny_loadName_free I.ok.kind a hc hcell b d) g)
theorem bT{i j pos}:PE X (.Constant (.int i) j pos) (tC (.int i)):=λ_ _ _ H _ I h=>wpAny_Constant_int #[.int i,H,I.tok _,001,h]
theorem vG{b j pos}:PE X (.Constant (.bool b) j pos) (tC (.bl b)):=λ_ _ _ H _ I h=>Constant_bool #[.bl b,H,I,rfl,h]
theorem gZ{x j pos}:PE X (.Constant (.str x) j pos) (tC (.str x)):=λ_ _ _ H _ I h=>Calls.Constant_str #[.str x,H,I.tok _,001,h]
def Gl(X:Cx)(x:Str):Prop:=X.env.kindOf x=aa .globalImplicit
theorem adp{E:aG->aR->Prop}{aA:004}{s:aR}{σ:St}{H:Hp}{x:Str}{u:aG}{pos:Pos}{Q:aG->aR->Prop}(I:06)(a:Gl X x)(c:X.mg x=aa u)(h:Q u s)
  (b:(x==("__debug__":Str))=aH:=by decide):bf 05 X.A (eval (.Name x pos) X.env) Q E s:=
 ahy I.ok.kind a (Calls.loadGlobal_global (by rw[I.ok.glob];exact I.mod.glob.keeps I.bk) c h) b
theorem El{E:aG->aR->Prop}{aA:004}{s:aR}{σ:St}{H:Hp}{x:Str}{u:aG}{pos:Pos}{Q:aG->aR->Prop}(I:06)(b:Gl X x)(e:X.mg x=ao)(c:uc x=aa u)(h:Q u s)
  (a:x≠"__name__":=by decide)(d:(x==("__debug__":Str))=aH:=by decide):bf 05 X.A (eval (.Name x pos) X.env) Q E s:=by
 obtain⟨mb,h1,h2⟩:=I.mod.blt
 exact ahy I.ok.kind b (Calls.loadGlobal_builtin (by rw[I.ok.glob];exact I.mod.glob.keeps I.bk) e (by rw[I.ok.blt];exact h1.keeps I.bk) ((h2 x a).trans c) h) d
theorem Ij{x:Str}{v:V}{u:aG}{pos:Pos}(b:Gl X x)(e:X.mg x=ao)(c:uc x=aa u)(r:RelV v u)(a:x≠"__name__":=by decide)(d:(x==("__debug__":Str))=aH:=by decide):PE X (.Name x pos) (tC v):=
 λ_ _ _ H _ I h=>El I b e c #[v,H,I,r,h] a d
variable{a b:Expr}{ta tb:TE}{pos:Pos}
variable{tA Ri:TT}{rest:List Expr}
def af4(t u:TT):TT:=λσ H Q=>t σ H λc H1=>if c=aq then u σ H1 Q else Q aH H1
def tOr(t u:TT):TT:=λσ H Q=>t σ H λc H1=>if c=aq then Q aq H1 else u σ H1 Q
def ard(t:TT):TT:=λσ H Q=>t σ H λc H1=>Q (!c) H1
theorem pw_and1(b:PT X a tA):PW X (.BoolOp .And [a] pos) tA:=by
 intro d aA s σ H Q I h;refine isTrue_and (bY (b _ s σ H Q I h) λc s1 e=>?_);cases c with
 |true=>exact isTrue_and_nil e
 |false=>exact e
theorem pw_or1(b:PT X a tA):PW X (.BoolOp .Or [a] pos) tA:=by
 intro d aA s σ H Q I h;refine isTrue_or (bY (b _ s σ H Q I h) λc s1 e=>?_);cases c with
 |false=>exact isTrue_or_nil e
 |true=>exact e
theorem pw_and(i:PT X a tA)(j:PW X (.BoolOp .And (b::rest) pos) Ri):PW X (.BoolOp .And (a::b::rest) pos) (af4 tA Ri):=by
 intro g aA s σ H Q I h;refine isTrue_and (bY (i _ s σ H _ I h) λc s1 f=>?_)
 obtain⟨H1,d,e⟩:=f
 cases c with
 |true=>exact j g _ s1 σ H1 Q d e
 |false=>exact#[H1,d,e]
theorem pw_or(i:PT X a tA)(j:PW X (.BoolOp .Or (b::rest) pos) Ri):PW X (.BoolOp .Or (a::b::rest) pos) (tOr tA Ri):=by
 intro g aA s σ H Q I h;refine isTrue_or (bY (i _ s σ H _ I h) λc s1 f=>?_)
 obtain⟨H1,d,e⟩:=f
 cases c with
 |true=>exact#[H1,d,e]
 |false=>exact j g _ s1 σ H1 Q d e
theorem apo(b:PT X a tA):PT X (.UnaryOp .Not a pos) (ard tA):=by
 intro aA s σ H Q I h;exact isTrue_not (b _ s σ H _ I h)
def aqI(ta tb:TE):TE:=λσ H Q=>ta σ H λx H1=>∃c,x=.bl c/\if c=aq then tb σ H1 Q else Q (.bl aH) H1
theorem apq{op}{t:TE}(h:PE X a t):PE X (.BoolOp op [a] pos) t:=λaA s σ H Q I hw=>BoolOp_one (h _ s σ H Q I hw)
theorem apr(f:PE X a ta)(g:PE X (.BoolOp .And (b::rest) pos) tb):PE X (.BoolOp .And (a::b::rest) pos) (aqI ta tb):=by
 intro aA s σ H Q I h;refine BoolOp_and (bY (f _ s σ H _ I h) λv s1 i=>?_)
 obtain⟨x,H1,e,j,d⟩:=i
 obtain⟨c,rfl,d⟩:=d
 cases j;refine zV ?_;cases c with
 |true=>exact g _ s1 σ H1 Q e d
 |false=>exact#[.bl _,H1,e,rfl,d]
def tIf(t:TT)(ta tb:TE):TE:=λσ H Q=>t σ H λc H1=>if c=aq then ta σ H1 Q else tb σ H1 Q
theorem alS{c:Expr}(k:PT X c tA)(j:PE X a ta)(i:PE X b tb):PE X (.IfExp c a b pos) (tIf tA ta tb):=by
 intro aA s σ H Q I h;refine wpAny_IfExp (bY (k _ s σ H _ I h) λd s1 g=>?_)
 obtain⟨H1,e,f⟩:=g
 cases d with
 |true=>exact j _ s1 σ H1 Q e f
 |false=>exact i _ s1 σ H1 Q e f
end
def b7(K:aU)(H:Hp)(a:az)(xs:012):Prop:=
 Rd H a (.lst xs)\/
  ∃(o:Obj)(aK:Array aG)(n:Nat),K.lookup a=aa o/\o.cls=.type "list"/\o.dict=ao/\o.data=.seq aK n/\aK.size<=cz/\Vals xs aK.toList
def dH(K:aU)(H:Hp)(a:az)(xs:012):Prop:=
 Rd H a (.tup xs)\/
  ∃(o:Obj)(aK:Array aG)(n:Nat),K.lookup a=aa o/\o.cls=.type "tuple"/\o.data=.seq aK n/\aK.size<=cz/\Vals xs aK.toList
def arf:aG->Option V
 |.none=>aa .non
 |.bool b=>aa (.bl b)
 |.int i _=>aa (.int i)
 |.str x _=>aa (.str x)
 |.bytes b _=>aa (.qL b)
 |.float b _=>aa (.flt b)
 |.ref a=>aa (.ref a)
 |.type n=>aa (.ty n)
 |_=>ao
theorem RelV.abs{x:V}{u:aG}(r:RelV x u):arf u=aa x:=by
 cases x with
 |non=>cases r;rfl
 |bl _=>cases r;rfl
 |int _=>obtain⟨t,rfl⟩:=r;rfl
 |str _=>obtain⟨t,rfl⟩:=r;rfl
 |qL _=>obtain⟨t,rfl⟩:=r;rfl
 |flt _=>obtain⟨t,rfl⟩:=r;rfl
 |ref _=>cases r;rfl
 |ty _=>cases r;rfl
theorem RelV.inj{x y:V}{u:aG}(r:RelV x u)(q:RelV y u):x=y:=lY (r.abs.symm.trans q.abs)
theorem Vals.inj:∀{xs ys:012}{us:014},Vals xs us->Vals ys us->xs=ys
 |_,_,_,.nil,.nil=>rfl
 |_,_,_,.cons r t,.cons r' t'=>by rw[r.inj r',Vals.inj t t']
section
variable{X:Cx}{aA:List (az×Obj)}{σ:St}{H:Hp}{s:aR}{a:az}{xs ys:List V}
theorem b7.of{K:aU}(h:H a=aa (.lst xs)):b7 K H a xs:=.inl (.inl h)
theorem dH.of{K:aU}(h:H a=aa (.tup xs)):dH K H a xs:=.inl (.inl h)
theorem Inv.list(I:06)(h:b7 X.K H a xs):∃aK:List aG,Vals xs aK/\PlainL s.heap a aK.toArray/\xs.length<=cz:=by
 refine hide λj b=>?_
 rcases h with h|⟨o,aK,n,c,f,d,i,g,r⟩
 .obtain⟨z,aK,n,r,e⟩:=h.ok I.hok
  exact b (#[_,r,#[_,n,e,rfl,rfl,rfl],z])
 .refine b (#[_,r,#[o,n,I.jP a o c,f,d,by trivial],?_]);have e:=r.length
  grind
theorem Inv.tuple(I:06)(h:dH X.K H a xs):∃aK:List aG,Vals xs aK/\IsTup s.heap a aK.toArray/\xs.length<=cz:=by
 refine hide λi b=>?_
 rcases h with h|⟨o,aK,n,c,d,g,f,r⟩
 .obtain⟨z,aK,r,p⟩:=h.ok I.hok
  grind
 .refine b (#[_,r,#[o,I.jP a o c,d,n,by trivial],?_]);have e:=r.length
  grind
theorem Inv.alT(I:06)(h:b7 X.K H a xs)(h':b7 X.K H a ys):xs=ys:=by
 obtain⟨c,r,⟨o,n,e,_,_,d⟩,_⟩:=I.list h
 obtain⟨b,g,⟨o',i,f,_,_,d'⟩,_⟩:=I.list h'
 rw[e] at f;have:c=b:=by lia
 subst this;exact r.inj g
theorem Inv.akM(I:06)(h:dH X.K H a xs)(h':dH X.K H a ys):xs=ys:=by
 obtain⟨c,r,⟨o,e,_,n,d⟩,_⟩:=I.tuple h
 obtain⟨b,g,⟨o',f,_,i,d'⟩,_⟩:=I.tuple h'
 rw[e] at f;have:c=b:=by lia
 subst this;exact r.inj g
end
abbrev Cx.wish(X:Cx)(E:aG->aR->Prop):Cx:={X with xe:=E}
abbrev Cx.Cu(X:Cx):Cx:=X.wish λ_ _=>False
theorem Cx.Ok.wish{X:Cx}(ok:X.Ok)(E:aG->aR->Prop):(X.wish E).Ok:=
 #[ok.mod,ok.kind,ok.glob,ok.blt,ok.above,ok.inj,ok.has,ok.cab,ok.hd,ok.frames,ok.stk,ok.exf,ok.bs,ok.xV,ok.JR,ok.QD,ok.tG,ok.Cq]
theorem Cx.Ok.yL{X:Cx}{E:aG->aR->Prop}(ok:(X.wish E).Ok):X.Ok:=
 #[ok.mod,ok.kind,ok.glob,ok.blt,ok.above,ok.inj,ok.has,ok.cab,ok.hd,ok.frames,ok.stk,ok.exf,ok.bs,ok.xV,ok.JR,ok.QD,ok.tG,ok.Cq]
section
variable{X:Cx}{aA:List (az×Obj)}{σ:St}{H:Hp}{s:aR}{E:aG->aR->Prop}
theorem Inv.wish(I:06)(E:aG->aR->Prop):Inv (X.wish E) aA σ H s:=#[I.ok.wish E,I.os,I.bare,I.base,I.loc,I.cell,I.free,I.ux,I.pin,I.hok,I.len]
theorem Inv.yL(I:Inv (X.wish E) aA σ H s):Inv X aA σ H s:=#[I.ok.yL,I.os,I.bare,I.base,I.loc,I.cell,I.free,I.ux,I.pin,I.hok,I.len]
theorem SP.yL{D:Ends}{f:Flow}{s':aR}(h:SP (X.wish E) aA D f s'):SP X aA D f s':=by
 cases f with
 |next=>obtain⟨F',H',I,q⟩:=h;exact#[F',H',I.yL,q]
 |brk=>obtain⟨F',H',I,q⟩:=h;exact#[F',H',I.yL,q]
 |cont=>obtain⟨F',H',I,q⟩:=h;exact#[F',H',I.yL,q]
 |ret u=>obtain⟨v,F',H',I,r,q⟩:=h;exact#[v,F',H',I.yL,r,q]
theorem jD.Cu{st:List dF}{t:TS}(h:jD X.Cu st t):jD X st t:=λaA s σ H D I hw=>
 qY (h _ s σ H D (I.wish _) hw) (λ_ _ q=>q.yL) λ_ _ z=>Af z
end
section
variable{X:Cx}{st:dF}{rest:List dF}{t u:TS}{e:Expr}{te:TE}{pos:Pos}
def aqJ:TS:=λD σ H=>D.nx σ H
def af5(t u:TS):TS:=λD σ H=>t {D with nx:=u D} σ H
theorem anF:jD X [] aqJ:=λ_ _ σ H _ I h=>aaG #[σ,H,I,h]
theorem alU(h1:PS X st t)(h2:jD X rest u):jD X (st::rest) (af5 t u):=by
 intro aA s σ H D I h;refine aiO (bY (h1 _ s σ H _ I h) λf s1 q=>?_);cases f with
 |next=>
  obtain⟨F',H',a,q⟩:=q
  exact h2 _ s1 F' H' D a q
 |ret v=>exact q
 |brk=>exact q
 |cont=>exact q
theorem anG(h1:PS X st t):jD X [st] t:=by
 intro aA s σ H D I h;refine aiO (bY (h1 _ s σ H D I h) λf s1 q=>?_);cases f with
 |next=>exact aaG q
 |ret v=>exact q
 |brk=>exact q
 |cont=>exact q
theorem Inv.quiet{aA:004}{σ:St}{H:Hp}{s:aR}(I:06):interactive X.env=aH:=by simp[interactive,I.ok.kind]
def aqK(te:TE):TS:=λD σ H=>te σ H λ_ H1=>D.nx σ H1
theorem Aq(c:PE X e te)(a:lG e ao pos.line X.env=pure aH:=by rfl):PS X (.Expr e pos) (aqK te):=by
 intro aA s σ H D I h;exact wpAny_Expr_any (bY (c _ s σ H _ I h) λv s1 ⟨x,H1,b,f,d⟩=>#[σ,H1,b,d]) I.quiet a
def arh(te:TE):TS:=λD σ H=>te σ H D.rt
theorem Xv(b:PE X e te):PS X (.Return (aa e) pos) (arh te):=by
 intro aA s σ H D I h;exact wpAny_Return_some (bY (b _ s σ H _ I h) λv s1 ⟨x,H1,a,c,d⟩=>#[x,σ,H1,a,c,d])
def ari(c:TT)(t u:TS):TS:=λD σ H=>c σ H λb H1=>if b=aq then t D σ H1 else u D σ H1
theorem aqL{c:Expr}{a b:List dF}{tc:TT}(k:PT X c tc)(g:jD X a t)(i:jD X b u):PS X (.If c a b pos) (ari tc t u):=by
 intro aA s σ H D I h;refine wpAny_If (bY (k _ s σ H _ I h) λd s1 j=>?_)
 obtain⟨H1,e,f⟩:=j
 cases d with
 |true=>exact g _ s1 σ H1 D e f
 |false=>exact i _ s1 σ H1 D e f
end
abbrev TG:=V->St->Hp->(St->Hp->Prop)->Prop
abbrev zJ:=List V->St->Hp->(St->Hp->Prop)->Prop
def PG(X:Cx)(target:Expr)(t:TG):Prop:=
 ∀(aA:004)(s:aR)(σ:St)(H:Hp)(v:V)(u:aG)(Q:St->Hp->Prop),Inv X aA σ H s->RelV v u->t v σ H Q->
  bf 05 X.A (assign target X.env u) (λ_ s'=>∃F' H',Inv X aA F' H' s'/\Q F' H') X.xe s
def Rj(X:Cx)(ts:List Expr)(t:zJ):Prop:=
 ∀(aA:004)(s:aR)(σ:St)(H:Hp)(vs:012)(us:014)(Q:St->Hp->Prop),Inv X aA σ H s->Vals vs us->t vs σ H Q->
  bf 05 X.A (assignInOrder ((vg ts X.env).map (·.2)) us) (λ_ s'=>∃F' H',Inv X aA F' H' s'/\Q F' H') X.xe s
abbrev YW:=V->V->V->Hp->(Hp->Prop)->Prop
def xO(X:Cx)(t:YW):Prop:=
 ∀(aA:004)(s:aR)(σ:St)(H:Hp)(o i v:V)(ov iv u:aG)(Q:Hp->Prop),Inv X aA σ H s->RelV o ov->RelV i iv->RelV v u->t o i v H Q->
  bf 05 X.A (Nj ov iv u) (λ_ s'=>∃H',Inv X aA σ H' s'/\Q H') X.xe s
section
variable{X:Cx}{pos:Pos}
def vH(i:Nat):TG:=λv σ H Q=>Q (σ.set i (aa v)) H
theorem gM{i:Nat}{x:Str}(a:017)(hi:X.N[i]?=aa x)(c:Loc X.env.scope x)(d:X.fn x=aq\/X.env.scope.names.lookup x=aa .local:=by first|exact .inl rfl|exact .inr rfl|assumption):PG X (.Name x pos) (vH i):=by
 intro aA s σ H v u Q I r h;exact K3 (vh I a hi c r (λs' b=>#[_,H,b,h]) d)
def af6:zJ:=λvs σ H Q=>vs=[]/\Q σ H
def afw(t:TG)(u:zJ):zJ:=λvs σ H Q=>∃v r,vs=v::r/\t v σ H λF' H'=>u r F' H' Q
theorem Ik:Rj X [] af6:=by
 intro aA s σ H vs us Q I r h
 obtain⟨e,h⟩:=h
 exact assignInOrder_nil #[σ,H,I,h]
theorem kj{e:Expr}{es:List Expr}{t:TG}{u:zJ}(h1:PG X e t)(h2:Rj X es u)
  (a:(vg (e::es) X.env).map (·.2)=assign e X.env::(vg es X.env).map (·.2):=by rfl):Rj X (e::es) (afw t u):=by
 intro aA s σ H vs us Q I r h
 obtain⟨v,f,e1,h⟩:=h
 subst e1;cases r with
 |cons r rr=>
  rw[a];refine assignInOrder_cons (bY (h1 _ s σ H _ _ _ I r h) λ_ s1 d=>?_)
  obtain⟨F1,H1,b,c⟩:=d
  exact h2 _ s1 F1 H1 _ _ Q b rr c
def af7(K:aU)(n:Nat)(t:zJ):TG:=λv σ H Q=>∃a xs,v=.ref a/\dH K H a xs/\xs.length=n/\t xs σ H Q
theorem Je{es:List Expr}{k:Nat}{t:zJ}{n:Nat}(l:011)(h:Rj X es t)
  (m:(vg es X.env).length=n:=by rfl)(c:(vg es X.env).findIdx? (·.1)=ao:=by rfl):PG X (.Tuple es k pos) (af7 X.K n t):=by
 intro aA s σ H v u Q I r d;refine hide λz q=>?_
 obtain⟨a,xs,e1,p,i,d⟩:=d
 subst e1;cases r
 obtain⟨x,f,j,y⟩:=I.tuple p
 refine q (assign_Tuple_tuple (I.ok.hd l) j (by simp[m,<-i,f.length]) c λh' w=>?_);have g:=I.kept (t':=s.toks) λb o e=>w b o (fW (cY e)) e
 exact h _ _ σ H xs _ Q g 002 d
def arj(to ti:TE)(t:YW):TG:=λv σ H Q=>to σ H λo H1=>ti σ H1 λi H2=>t o i v H2 λH3=>Q σ H3
theorem aet{o i:Expr}{to e:TE}{t:YW}(n:PE X o to)(hi:PE X i e)(m:xO X t)
  (k:∀v,assign (.Subscript o i pos) X.env v=(do
   let a <-mW [v] (eval o X.env)
   let b <-mW [v,a] (eval i X.env)
   nJ pos
   mW [v,a,b] (Nj a b v)
   release [v,a,b] []):=by intro _;rfl):PG X (.Subscript o i pos) (arj to e t):=by
 intro aA s σ H v u Q I r h;rw[k];refine aJ (pJ (bY (n _ s σ H _ I h) λa s1 c=>hide λz d=>?_))
 obtain⟨x,H1,p,w,C⟩:=c
 refine d (aJ (pJ (bY (hi _ s1 σ H1 _ p C) λb j c=>(hide λz d=>?_))))
 obtain⟨y,H2,g,f,l⟩:=c
 refine d (aJ (u6 (aJ (pJ (bY (m _ j σ H2 x y v a b u _ g w f r l) λ_ D c=>?_)))))
 obtain⟨B,q,A⟩:=c
 exact wpAny_release #[σ,B,q,A]
def zm(te:TE)(g:TG):TS:=λD σ H=>te σ H λx H1=>g x σ H1 D.nx
theorem Xw{tg e:Expr}{te:TE}{g:TG}(f:PE X e te)(d:PG X tg g)(a:z8 [tg] e pos.line X.env=pure aH:=by rfl)(i:z9 [tg] e X.env=pure ao:=by rfl)
  (h1:(vg [tg] X.env).map (·.2)=[assign tg X.env]:=by rfl):PS X (.Assign [tg] e pos) (zm te g):=by
 intro aA s σ H D I h;refine wpAny_Assign_stores (bY (f _ s σ H _ I h) λv s1 k=>?_) a i
 obtain⟨x,H1,b,c,j⟩:=k
 rw[h1];exact bY (d _ s1 σ H1 x v _ b c j) λ_ l q=>q
theorem Az{i:Nat}{x:Str}{e:Expr}{te:TE}{pos':Pos}(f:017)(hi:X.N[i]?=aa x)(j:Loc X.env.scope x)(k:PE X e te)(b:lG e (aa (.Name x pos')) pos.line X.env=pure aH:=by rfl)(d:X.fn x=aq\/X.env.scope.names.lookup x=aa .local:=by first|exact .inl rfl|exact .inr rfl|assumption):
  PS X (.Assign [.Name x pos'] e pos) (zm te (vH i)):=by
 intro aA s σ H D I h;refine wpAny_Assign_Name (bY (k _ s σ H _ I h) λv s1 m=>?_) b
 obtain⟨y,H1,c,g,l⟩:=m
 exact vh c f hi j g (λn a=>#[_,H1,a,l]) d
def ark(i j:Nat)(ta:TA):TS:=λD σ H=>ta σ H λvs H1=>∃v w,vs=[v,w]/\D.nx ((σ.set i (aa v)).set j (aa w)) H1
theorem aps{i j:Nat}{x y:Str}{a b:Expr}{ta:TA}{g k pt:Pos}{kt k2 qg}(K:011)(t:017)(hi:X.N[i]?=aa x)(L:X.N[j]?=aa y)(m:i≠j)
  (z:X.env.scope.names.lookup x=aa .local)(r:X.env.scope.names.lookup y=aa .local)(C:PA X [a,b] ta)
  (M:z9 [.Tuple [.Name x g,.Name y k] kt pt] (.Tuple [a,b] k2 qg) X.env=pure (aa [x,y]))
  (P:z8 [.Tuple [.Name x g,.Name y k] kt pt] (.Tuple [a,b] k2 qg) pos.line X.env=pure aH:=by rfl):
  PS X (.Assign [.Tuple [.Name x g,.Name y k] kt pt] (.Tuple [a,b] k2 qg) pos) (ark i j ta):=by
 intro aA s σ H D I h;refine aJ (u6 ?_);refine aJ (bu ?_);refine aJ (Tuple_ (bY (C _ _ s σ H _ I h) λus s1 N=>?_))
 obtain⟨vs,H1,E,J,n⟩:=N
 obtain⟨v,w,e1,n⟩:=n
 subst e1
 obtain⟨c,d,rfl,A,l⟩:∃c d,us=[c,d]/\RelV v c/\RelV w d:=by
  refine hide λQ S=>?_
  cases J with
  |cons p q=>
   cases q with
   |cons p' q'=>
    cases q'
    grind
 refine nF ?_ (by show 2<=cz;decide);have B:Inv X _ σ H1 {s1 with heap:=s1.heap.push {cls:=.type "tuple",data:=.seq [c,d].toArray}}:=E.kept λb o e=>cX _ e
 rw[M];refine aJ (bu (aJ (uf (aJ (unpackItems_tuple (items:=#v[c,d]) (I.ok.hd K) (IsTup.new s1.heap _) λh' f=>?_)))));have F:=B.kept (t':=s1.toks) λb o e=>f b o (fW (cY e)) e
 refine aJ (assignInOrder_cons (Lg (vh F t L (.inl r) l (λO G=>(assignInOrder_cons (Lg (vh G t hi (.inl z) A (λR u=>assignInOrder_nil (bu ?_)) (.inr z))))) (.inr r))));rw[Tr _ _ (jK m)] at u
 exact#[_,H1,u,n]
end
structure It where
 go:Nat->Hp->Prop
 J6:Nat->Hp->V->Hp->Prop
 stop:Nat->Hp->Prop
def mF(X:Cx)(aA:004)(H:Hp)(b:az):Prop:=
 H b=ao/\b≠X.env.locals/\b∉X.fs/\(b∈X.ex\/X.s0.heap.objs.size<=b)/\(∀x c,X.env.cells.lookup x=aa c->c≠b)/\∀p∈X.pn++aA,p.1≠b
theorem Inv.Bx{X:Cx}{aA:004}{σ:St}{H H':Hp}{s:aR}{b:az}(I:06)(a:s.heap.objs.size<=b)(f:H' b=ao):mF X aA H' b:=by
 refine#[f,Ho (oV I.lt a),I.arc a,.inr (jl I.sz a),λx c e z=>?_,λp d z=>?_]
 .obtain⟨v,q⟩:=I.cell x c e
  exact absurd (oV q.lt 002) (wG _)
 .exact absurd (oV (cY (I.pin p d).1) 002) (wG _)
structure Turn(P:dB)(w:cG)(K:aU)(tg:Expr)(J:It)(fp:List az)(it:az)(tn:Nat->cg->Prop):Prop where
 mem:it∈fp
 obj:∀i h,tn i h->∀b∈fp,∃o,h.get? b=aa o/\∀v,o.data≠.cell v
 keep:∀i h h',tn i h->(∀b∈fp,∀o,h.get? b=aa o->h'.get? b=aa o)->tn i h'
 item:∀(X:Cx),X.prog=P->X.w=w->X.K=K->X.calm=aq->∀(i:Nat)(aA:004)(s:aR)(σ:St)(H:Hp)(E:aG->aR->Prop),Inv X aA σ H s->(∀b∈fp,mF X aA H b)->tn i s.heap->J.go i H->
  bf (model P w) X.A (qu (.ref it)) (λr s1=>∃u,r=aa u/\
   bf (model P w) X.A (Dh tg (.ref it) u) (λ_ s2=>∃x H',Inv X aA σ H' s2/\RelV x u/\J.J6 i H x H'/\tn (i+1) s2.heap/\∀b∈fp,H' b=ao) E s1) E s
 done:∀(X:Cx),X.prog=P->X.w=w->X.K=K->X.calm=aq->∀(i:Nat)(aA:004)(s:aR)(σ:St)(H:Hp)(E:aG->aR->Prop),Inv X aA σ H s->(∀b∈fp,mF X aA H b)->tn i s.heap->J.stop i H->
  bf (model P w) X.A (qu (.ref it)) (λr s1=>r=ao/\Inv X aA σ H s1) E s
 self:∀(A:dN)(i:Nat)(s:aR)(Q:aG->aR->Prop)(E:aG->aR->Prop),tn i s.heap->Q (.ref it) s->bf (model P w) A (wW (.ref it)) Q E s
abbrev TI:=St->Hp->(It->Hp->Prop)->Prop
def PIE(X:Cx)(aA:004)(σ:St)(tg:Expr)(R:It->Hp->Prop)(itv:aG)(s2:aR):Prop:=
 ∃(it:az)(fp:015)(tn:Nat->cg->Prop)(J:It)(H':Hp),itv=.ref it/\Inv X aA σ H' s2/\Turn X.prog X.w X.K tg J fp it tn/\tn 0 s2.heap/\(∀b∈fp,mF X aA H' b)/\R J H'
def PI(X:Cx)(tg iter:Expr)(wi:TI):Prop:=
 ∀(aA:004)(s:aR)(σ:St)(H:Hp)(R:It->Hp->Prop),Inv X aA σ H s->wi σ H R->
  bf 05 X.A (eval iter X.env) (λv s1=>bf 05 X.A (wW v) (PIE X aA σ tg R) X.xe s1) X.xe s
theorem Ym{M:Model}{A:dN}{E:aG->aR->Prop}{s:aR}{tg:Expr}{it:az}{u:aG}{o:Obj}{n:String}{vs:Array aG}{Q:Unit->aR->Prop}(b:s.heap.get? it=aa o)(d:o.cls=.type n)(c:o.data=.fields vs)
  (e:["enumerate","zip","dict_itemiterator","dict_reverseitemiterator","odict_iterator","itertools.zip_longest","itertools.pairwise"].contains n=aH)(a:Q () s):bf M A (Dh tg (.ref it) u) Q E s:=by
 cases tg<;>first
  |exact bu a
  |(cases u<;>first
    |exact bu a
    |(refine aJ (Hw b ?_)
      rw[d,c];show bf M A (if(["enumerate","zip","dict_itemiterator","dict_reverseitemiterator","odict_iterator","itertools.zip_longest","itertools.pairwise"].contains n&&vs[0]?==aa _)=aq then _ else _) Q E s;rw[bK (by lia)];exact bu a))
def Zk(K:aU)(a:az):It:=
 #[λi H=>∃xs x,b7 K H a xs/\xs[i]?=aa x,λi H x H'=>H'=H/\∀xs,b7 K H a xs->xs[i]?=aa x,λi H=>∃xs,b7 K H a xs/\xs.length<=i]
def Zm(K:aU)(a:az):It:=
 #[λi H=>∃xs x,dH K H a xs/\xs[i]?=aa x,λi H x H'=>H'=H/\∀xs,dH K H a xs->xs[i]?=aa x,λi H=>∃xs,dH K H a xs/\xs.length<=i]
def Rk(lo:Int)(n:Nat):It:=#[λi _=>i<n,λi H x H'=>H'=H/\x=.int (lo+i),λi _=>n<=i]
theorem akN{P:dB}{w:cG}{K:aU}{tg:Expr}(a it:az):Turn P w K tg (Zk K a) [it] it (λi h=>h.IsListIter it a i) where
 mem:=bH
 obj:=λi h st b f=>by
  have e:=by simpa using f
  subst e
  obtain⟨o,e,c,d⟩:=st
  exact#[o,e,λv z=>by rw[d] at z;cases z]
 keep:=λi h h' st k=>st.at λo e=>k it bH o e
 item:=by
  intro X y F t G i aA s σ H E I j st C;subst y F t;refine hide λT B=>?_
  obtain⟨xs,x,l,J⟩:=C
  obtain⟨L,m,p,N⟩:=I.list l
  obtain⟨u,M,S⟩:=m.get J
  obtain⟨r,n,O,q,A,D⟩:=j it bH
  refine B (wpAny_pyNext_list_item st p.isList (by simpa using M) λh' g sb=>?_);have Q:=I.turned (t':=s.toks) (λb o f e=>(sb.2 b f).trans e) r n q A D
  obtain⟨o,e,c,d⟩:=id g
  exact#[u,rfl,Ym e c d (rfl) #[x,H,Q,S,#[rfl,λys R=>by rwa [I.alT R l]],g,λb f=>(j b f).1]]
 done:=by
  intro X y F t G i aA s σ H E I j st C;refine hide λT B=>?_
  subst y F t
  obtain⟨xs,l,J⟩:=C
  obtain⟨L,m,p,N⟩:=I.list l
  obtain⟨r,n,O,q,A,D⟩:=j it bH
  have V:=m.length;exact B (wpAny_pyNext_list_end (I.ok.hd G) st p.isList (by simp;lia) λh' U=>#[rfl,I.turned (λb o f e=>U b o f e) r n q A D])
 self:=λ_ _ _ _ _ st h=>wpAny_pyIter_listiter st h
theorem aj9{P:dB}{w:cG}{K:aU}{tg:Expr}(a it:az):Turn P w K tg (Zm K a) [it] it (λi h=>h.IsTupleIter it a i) where
 mem:=bH
 obj:=λi h st b f=>by
  have e:=by simpa using f
  subst e
  obtain⟨o,e,c,d⟩:=st
  exact#[o,e,λv z=>by rw[d] at z;cases z]
 keep:=λi h h' st k=>st.at λo e=>k it bH o e
 item:=by
  intro X y F t G i aA s σ H E I j st C;subst y F t;refine hide λT B=>?_
  obtain⟨xs,x,l,J⟩:=C
  obtain⟨L,m,p,N⟩:=I.tuple l
  obtain⟨u,M,S⟩:=m.get J
  obtain⟨r,n,O,q,A,D⟩:=j it bH
  refine B (wpAny_pyNext_tuple_item st (p) (by simpa using M) λh' g sb=>?_);have Q:=I.turned (t':=s.toks) (λb o f e=>(sb.2 b f).trans e) r n q A D
  obtain⟨o,e,c,d⟩:=id g
  exact#[u,rfl,Ym e c d (rfl) #[x,H,Q,S,#[rfl,λys R=>by rwa [I.akM R l]],g,λb f=>(j b f).1]]
 done:=by
  intro X y F t G i aA s σ H E I j st C;refine hide λT B=>?_
  subst y F t
  obtain⟨xs,l,J⟩:=C
  obtain⟨L,m,p,N⟩:=I.tuple l
  obtain⟨r,n,O,q,A,D⟩:=j it bH
  have V:=m.length;exact B (wpAny_pyNext_tuple_end (I.ok.hd G) st (p) (by simp;lia) λh' U=>#[rfl,I.turned (λb o f e=>U b o f e) r n q A D])
 self:=λ_ _ _ _ _ st h=>wpAny_pyIter_tupleiter st h
theorem aka{P:dB}{w:cG}{K:aU}{tg:Expr}(it:az)(lo:Int)(n:Nat):Turn P w K tg (Rk lo n) [it] it (λi h=>IsRangeIter h it (lo+(i:Nat)*1) ((n:Int)-(i:Nat)) 1) where
 mem:=bH
 obj:=λi h st b a=>by
  have e:=by simpa using a
  subst e
  exact⟨_,st,λv z=>by
   have B:=z;cases B⟩
 keep:=λi h h' st k=>k it bH _ st
 item:=by
  intro X u x r l i aA s σ H E I d st p;subst u x r
  obtain⟨j,f,A,g,m,q⟩:=d it bH
  have W:=Walks.range (prog:=X.prog) (w:=X.w) (I.ok.hd l) it lo 1 n;refine W.item i s _ _ p st λv h' F y c D=>?_
  obtain⟨t,rfl⟩:=y
  have C:Inv X _ σ H {s with heap:=h',toks:=F}:=I.turned (λb o a e=>D b o (by simpa using a) e) j f g m q
  refine#[_,rfl,Ym c rfl rfl (rfl) #[.int _,H,C,#[t,?_],#[rfl,rfl],c,λb a=>(d b a).1]]
  rw[Int.mul_one]
 done:=by
  intro X u x r l i aA s σ H E I d st p
  obtain⟨j,f,A,g,m,q⟩:=d it bH
  exact wpAny_pyNext_range_end (I.ok.hd l) st (by have:n<=i:=p;lia) λh' G=>#[rfl,I.turned (λb o a e=>G b o a e) j f g m q]
 self:=λ_ _ _ _ _ st h=>wpAny_pyIter_rangeiter st h
section
variable{X:Cx}{tg:Expr}
def afx(K:aU)(tl:TE):TI:=λσ H R=>tl σ H λx H1=>∃a,x=.ref a/\(∃xs,b7 K H1 a xs)/\R (Zk K a) H1
def arl(K:aU)(tl:TE):TI:=λσ H R=>tl σ H λx H1=>∃a,x=.ref a/\(∃xs,dH K H1 a xs)/\R (Zm K a) H1
theorem Il{l:Expr}{tl:TE}(f:PE X l tl):PI X tg l (afx X.K tl):=by
 intro aA s σ H R I h;refine bY (f _ s σ H _ I h) λv s1 m=>hide λu j=>?_
 obtain⟨x,H1,c,g,k⟩:=m
 obtain⟨a,e,⟨xs,i⟩,q⟩:=k
 subst e;cases g
 obtain⟨r,n,p,t⟩:=c.list i
 refine j (aaj p.isList #[_,_,_,_,H1,rfl,c.kept λb o e=>cX _ e,akN a _,#[_,fV _ rfl,rfl,rfl],λb d=>?_,q]);have e:=by simpa using d
 subst e;exact c.Bx (bQ _) (c.hok.fresh (bQ _))
theorem N7{l:Expr}{tl:TE}(f:PE X l tl):PI X tg l (arl X.K tl):=by
 intro aA s σ H R I h;refine bY (f _ s σ H _ I h) λv s1 m=>hide λu j=>?_
 obtain⟨x,H1,c,g,k⟩:=m
 obtain⟨a,e,⟨xs,i⟩,q⟩:=k
 subst e;cases g
 obtain⟨r,n,p,t⟩:=c.tuple i
 refine j (wpAny_pyIter_tuple (p) #[_,_,_,_,H1,rfl,c.kept λb o e=>cX _ e,aj9 a _,#[_,fV _ rfl,rfl,rfl],λb d=>?_,q]);have e:=by simpa using d
 subst e;exact c.Bx (bQ _) (c.hok.fresh (bQ _))
theorem alV{aA:004}{σ:St}{H:Hp}{s:aR}{R:It->Hp->Prop}{E:aG->aR->Prop}{lo hi:Int}{t u v:Tok}{c:Nat}(I:06)(h1:-(2^62)<=lo)(h2:lo<2^62)(d:-(2^62)<=hi)(f:hi<2^62)
  (q:R (Rk lo (hi-lo).toNat) H):bf 05 X.A (wW (.ref s.heap.objs.size)) (PIE X aA σ tg R) E {s with heap:=s.heap.push {cls:=.type "range",data:=.fields #v[.int lo t,.int hi u,.int 1 v]},toks:=c}:=by
 refine wpAny_pyIter_range (IsRange.new ..) (small_one h1 h2 d f) ?_;have a:Inv X _ σ H {s with heap:=s.heap.push {cls:=.type "range",data:=.fields #v[.int lo t,.int hi u,.int 1 v]},toks:=c}:=I.kept λb o e=>cX _ e
 refine⟨_,_,_,_,H,rfl,
  a.kept λb o e=>cX _ e,aka _ lo _,?_,λb g=>?_,q⟩
 .have e1:lo+((0:Nat))*1=lo:=bH;have e2:(((hi-lo).toNat:Nat))-(0:Nat)=at3 lo hi 1:=by rw[rangeSize_one];grind
  rw[e1,e2];exact fV _ rfl
 .have e:b=(s.heap.push {cls:=.type "range",data:=.fields #v[.int lo t,.int hi u,.int 1 v]}).objs.size:=by grind
  subst e;exact a.Bx (bQ _) (a.hok.fresh (bQ _))
def aqM(ta:TA):TI:=λσ H R=>ta σ H λvs H1=>∃j:Int,vs=[.int j]/\-(2^62)<=j/\j<2^62/\R (Rk 0 j.toNat) H1
theorem akO{a:Expr}{ta:TA}{p pos:Pos}(m:Gl X "range")(c:X.mg "range"=ao)(d:PA X [a] ta)(g:bI [a] X.env=[(aH,eval a X.env)]:=by rfl):PI X tg (.Call (.Name "range" p) [a] [] pos) (aqM ta):=by
 intro aA s σ H R I h;refine Call_ (El I m c boot_range (ZQ (bY (d _ _ s σ H _ I h) λus s1 n=>(hide λo l=>?_)) g rfl))
 obtain⟨vs,H1,i,k,b⟩:=n
 obtain⟨j,e,b,f,q⟩:=b
 subst e;cases k with
 |cons r rr=>
  cases rr
  obtain⟨t,rfl⟩:=r
  exact l (call_range_1 (alV i aD aD b f (by lia)))
def YX(wi:TI)(g:TG)(tb:TS):TS:=λD σ H=>wi σ H λJ H1=>∃W:Nat->Nat->St->Hp->Prop,(∃m,W 0 m σ H1)/\∀i m σ H,W i m σ H->
 (J.stop i H/\D.nx σ H)\/(J.go i H/\∃N:St->Hp->Prop,(∀F' H',N F' H'->∃m',m'<m/\W (i+1) m' F' H')/\∀x H',J.J6 i H x H'->g x σ H' λF2 H2=>tb {D with nx:=N,ct:=N,bk:=D.nx} F2 H2)
def Xx(fp:015)(h:cg):List (az×Obj):=fp.filterMap λb=>(h.get? b).map λo=>(b,o)
theorem Dr{fp:015}{h:cg}{b:az}{o:Obj}(a:b∈fp)(e:h.get? b=aa o):(b,o)∈Xx fp h:=R8.mpr #[b,a,by grind]
theorem akP{fp:015}{h:cg}{p:az×Obj}(a:p∈Xx fp h):p.1∈fp/\h.get? p.1=aa p.2:=by
 obtain⟨b,c,e⟩:=R8.mp a
 cases q:h.get? b with
 |none=>grind
 |some o=>
  grind
theorem Inv.pinned{aA:004}{σ:St}{H:Hp}{s:aR}{fp:015}(I:06)(c:∀b∈fp,mF X aA H b)(h:∀b∈fp,∃o,s.heap.get? b=aa o/\∀v,o.data≠.cell v):Inv X (aA++Xx fp s.heap) σ H s:=
 I.ado λp a=>(dU.mp a).elim (λz=>I.pin p (fJ _ z)) λz=>by
  obtain⟨d,e⟩:=akP z
  obtain⟨i,f,g,_⟩:=c _ d
  grind
theorem Inv.HW{aA pl:004}{σ:St}{H:Hp}{s:aR}(I:Inv X (aA++pl) σ H s):Inv X aA σ H s:=I.ado λp a=>I.pin p (fJ _ (jG _ a))
theorem aeu{iter:Expr}{body:List dF}{wi:TI}{g:TG}{tb:TS}{pos:Pos}(w:PassesOwn 05 X.A X.env X.xe)(F:011)(hi:PI X tg iter wi)(hg:PG X tg g)(l:jD X body tb)
  (hs:∀x,qm iter X.env x=pure x:=by intro _;rfl):PS X (.For tg iter body [] pos) (YX wi g tb):=by
 intro aA s σ H D I h;refine wpAny_For (bY (hi aA s σ H _ I h) λv s1 h1=>bY h1 λitv s2 h2=>hide λC p=>?_) hs
 obtain⟨it,fp,tn,J,H2,e,K,T,st2,E,W,⟨m0,M⟩,turn⟩:=h2
 subst e;have a:∀{H':Hp},(∀b∈fp,H' b=ao)->∀b∈fp,mF X aA H' b:=λhn b l=>#[hn b l,(E b l).2]
 refine p (codeAny_forLoop_any (λn s'=>∃i F' H',Inv X aA F' H' s'/\tn i s'.heap/\(∀b∈fp,H' b=ao)/\W i n F' H') ?_ m0 #[0,σ,H2,K,st2,λb l=>(E b l).1,M]);rintro n s3 ⟨i,F3,H3,I3,st3,zK,w3⟩;refine hide λC p=>?_
 rcases turn i n F3 H3 w3 with⟨stop,qn⟩|⟨go,N,hN,step⟩
 .refine p (Ld w (bY (T.done X rfl rfl rfl F i aA s3 F3 H3 X.xe I3 (a zK) st3 stop) λr s4 t=>?_))
  obtain⟨A,I4⟩:=t
  subst A;exact aaG #[F3,H3,I4,qn]
 .refine p (Ld w (bY (T.item X rfl rfl rfl F i aA s3 F3 H3 X.xe I3 (a zK) st3 go) λr s4 t=>?_))
  obtain⟨u,A,S⟩:=t
  subst A;refine Ld w (bY S λ_ s5 t=>(hide λC p=>?_))
  obtain⟨x,G,I5,R,L,B,U⟩:=t
  have J8:=I5.pinned (a U) (T.obj _ _ B);refine p (Ld w (bY (hg _ s5 F3 G x u _ J8 R (step x G L)) λ_ s6 t=>?_))
  obtain⟨F6,P,Z,q6⟩:=t
  refine Ld w (bY (l _ s6 F6 P _ Z q6) λf z q=>?_);have c:∀{F7:St}{j:Hp},Inv X _ F7 j z->N F7 j->∃m,m<n/\∃i F' H',Inv X aA F' H' z/\tn i z.heap/\(∀b∈fp,H' b=ao)/\W i m F' H':=λ{F7 j} k y=>by
   obtain⟨Q,V,w7⟩:=hN F7 j y
   refine#[Q,V,i+1,F7,j,k.HW,T.keep _ _ _ B λb l o e=>(k.pin (b,o) (fJ _ (fJ _ (Dr l e)))).1,λb l=>?_,w7]
   obtain⟨o,e,d⟩:=T.obj _ _ B b l
   exact(k.pin (b,o) (fJ _ (fJ _ (Dr l e)))).2.1
  cases f with
  |next=>obtain⟨F7,j,k,y⟩:=q;exact c k y
  |cont=>obtain⟨F7,j,k,y⟩:=q;exact c k y
  |brk=>obtain⟨F7,j,k,q⟩:=q;exact#[F7,j,k.HW,q]
  |ret v=>refine hide λC p=>?_;obtain⟨Y,F7,j,k,O,q⟩:=q;exact p (#[Y,F7,j,k.HW,O,q])
end
abbrev R2:=V->V->Hp->VK->Prop
def dR(X:Cx)(f:aG->aG->Sem aG)(r:R2):Prop:=
 ∀(aA:004)(s:aR)(σ:St)(H:Hp)(x y:V)(v u:aG)(Q:VK),Inv X aA σ H s->RelV x v->RelV y u->r x y H Q->
  bf 05 X.A (f v u) (EP X aA σ Q) X.xe s
def Zn(X:Cx)(f:aG->Sem aG)(r:V->Hp->VK->Prop):Prop:=
 ∀(aA:004)(s:aR)(σ:St)(H:Hp)(x:V)(v:aG)(Q:VK),Inv X aA σ H s->RelV x v->r x H Q->
  bf 05 X.A (f v) (EP X aA σ Q) X.xe s
def gF(X:Cx)(f:aG)(r:List V->Hp->VK->Prop):Prop:=
 ∀(aA:004)(s:aR)(σ:St)(H:Hp)(xs:012)(us:014)(Q:VK),Inv X aA σ H s->Vals xs us->r xs H Q->
  bf 05 X.A (call f us) (EP X aA σ Q) X.xe s
def arn(X:Cx)(r:V->Hp->(Bool->Hp->Prop)->Prop):Prop:=
 ∀(aA:004)(s:aR)(σ:St)(H:Hp)(x:V)(v:aG)(Q:Bool->Hp->Prop),Inv X aA σ H s->RelV x v->r x H Q->
  bf 05 X.A (truthy v) (TP X aA σ Q) X.xe s
def J9(r:R2)(ta tb:TE):TE:=λσ H Q=>ta σ H λx H1=>tb σ H1 λy H2=>r x y H2 Q
def tUn(r:V->Hp->VK->Prop)(ta:TE):TE:=λσ H Q=>ta σ H λx H1=>r x H1 Q
def rI(C:Int->Int->Prop)(g:Int->Int->V):R2:=λx y H Q=>∃i j,x=.int i/\y=.int j/\C i j/\Q (g i j) H
def rP(g:Int->Int->V):R2:=λx y H Q=>∃i j,x=.int i/\y=.int j/\Q (g i j) H
def rU(g:Int->V):V->Hp->VK->Prop:=λx H Q=>∃i,x=.int i/\Q (g i) H
section
variable{X:Cx}{a b c:Expr}{ta tb tc:TE}{pos:Pos}
theorem YZ(e:PE X a ta)(g:PE X b tb){aA:004}{s:aR}{σ:St}{H:Hp}{R:V->V->Hp->Prop}(I:06)
  (h:ta σ H λx H1=>tb σ H1 λy H2=>R x y H2){Q:aG->aR->Prop}{f:aG->aG->Sem aG}
  (n:∀v u c x y H2,Inv X aA σ H2 c->RelV x v->RelV y u->R x y H2->bf 05 X.A (f v u) Q X.xe c):
  bf 05 X.A (eval a X.env) (λv s₁=>bf 05 X.A (eval b X.env) (λu s₂=>bf 05 X.A (f v u) Q X.xe s₂) X.xe s₁) X.xe s:=by
 refine bY (e _ s σ H _ I h) λv s1 d=>?_
 obtain⟨x,H1,i,o,j⟩:=d
 refine bY (g _ s1 σ H1 _ i j) λu c d=>?_
 obtain⟨y,H2,l,k,m⟩:=d
 grind
theorem aqN{op:Operator}{r:R2}(g:dR X (rm op) r)(e:PE X a ta)(f:PE X b tb):PE X (.BinOp a op b pos) (J9 r ta tb):=by
 intro aA s σ H Q I h;exact wpAny_BinOp (YZ e f I h λv u d x y H2 c rx i q=>g _ d σ H2 x y v u Q c rx i q)
theorem aqO{op:UnaryOp}{r:V->Hp->VK->Prop}(b:Zn X (unaryOp op) r)(f:PE X a ta):PE X (.UnaryOp op a pos) (tUn r ta):=by
 intro aA s σ H Q I h;exact UnaryOp_ (bY (f _ s σ H _ I h) λv s1 ⟨x,H1,c,d,e⟩=>b _ s1 σ H1 x v Q c d e)
theorem Rm{f:aG->aG->Sem aG}{C:Int->Int->Prop}{g:Int->Int->Int}
  (a:∀(i j:Int)(t u:Tok)(s:aR)(Q:aG->aR->Prop)(E:aG->aR->Prop),C i j->Q (.int (g i j) s.toks) {s with toks:=s.toks+1}->bf 05 X.A (f (.int i t) (.int j u)) Q E s):
  dR X f (rI C λi j=>.int (g i j)):=by
 intro aA s σ H x y v u Q I rx d h
 obtain⟨i,j,rfl,rfl,c,q⟩:=h
 obtain⟨t,rfl⟩:=rx
 obtain⟨b,rfl⟩:=d
 exact a i j t b s _ _ c #[.int _,H,I.tok _,001,q]
theorem af8{f:aG->aG->Sem aG}{g:Int->Int->Int}
  (a:∀(i j:Int)(t u:Tok)(s:aR)(Q:aG->aR->Prop)(E:aG->aR->Prop),Q (.int (g i j) s.toks) {s with toks:=s.toks+1}->bf 05 X.A (f (.int i t) (.int j u)) Q E s):
  dR X f (rP λi j=>.int (g i j)):=by
 intro aA s σ H x y v u Q I rx c h
 obtain⟨i,j,rfl,rfl,q⟩:=h
 obtain⟨t,rfl⟩:=rx
 obtain⟨b,rfl⟩:=c
 exact a i j t b s _ _ #[.int _,H,I.tok _,001,q]
theorem Y0{f:aG->aG->Sem aG}{g:Int->Int->Bool}
  (a:∀(i j:Int)(t u:Tok)(s:aR)(Q:aG->aR->Prop)(E:aG->aR->Prop),Q (.bool (g i j)) s->bf 05 X.A (f (.int i t) (.int j u)) Q E s):
  dR X f (rP λi j=>.bl (g i j)):=by
 intro aA s σ H x y v u Q I rx c h
 obtain⟨i,j,rfl,rfl,q⟩:=h
 obtain⟨t,rfl⟩:=rx
 obtain⟨b,rfl⟩:=c
 exact a i j t b s _ _ #[.bl _,H,I,rfl,q]
def af9(i j:Int):Prop:=0<j/\j<1073741824
def aga(i j:Int):Prop:=0<=j/\j<=1000000/\i.natAbs<2^64
def QF(i j:Int):Prop:=(-(2^64)<i/\i<2^64)\/(-(2^64)<j/\j<2^64)
theorem QF.ok{i j:Int}(h:QF i j):IntMulOk i j:=by
 rcases h with⟨h1,h2⟩|⟨h1,h2⟩
 .exact .of_left (intBits_le_64 h1 h2)
 .exact .of_right (intBits_le_64 h1 h2)
theorem apt:dR X (rm .Add) (rP λi j=>.int (i+j)):=af8 λ_ _ _ _ _ _ _ q=>add_int q
theorem Xy:dR X (rm .Sub) (rP λi j=>.int (i-j)):=af8 λ_ _ _ _ _ _ _ q=>sub_int q
theorem yM:dR X (rm .Mult) (rI QF λi j=>.int (i*j)):=Rm λ_ _ _ _ _ _ _ a q=>mul_int q a.ok
theorem DX:dR X (rm .FloorDiv) (rI af9 λi j=>.int (i / j)):=Rm λi j _ _ _ _ _ a q=>by
 have h1:=a.1;have h2:=a.2;exact floordiv_int aD 002 (.inl (PyProof.noPylong_small aD))
theorem Ba:dR X (rm .Mod) (rI (λ_ j=>0<j) λi j=>.int (i%j)):=Rm λi j _ _ _ _ _ a q=>by
 exact mod_int' aD 002
theorem Jf:dR X (rm .Pow) (rI aga λi j=>.int (i^j.toNat)):=Rm λ_ _ _ _ _ _ _ a q=>pow_int_small a.1 a.2.1 a.2.2 q
theorem unI{f:aG->Sem aG}{g:Int->Int}
  (a:∀(i:Int)(t:Tok)(s:aR)(Q:aG->aR->Prop)(E:aG->aR->Prop),Q (.int (g i) s.toks) {s with toks:=s.toks+1}->bf 05 X.A (f (.int i t)) Q E s):
  Zn X f (rU λi=>.int (g i)):=by
 intro aA s σ H x v Q I rx h
 obtain⟨i,rfl,q⟩:=h
 obtain⟨t,rfl⟩:=rx
 exact a i t s _ _ #[.int _,H,I.tok _,001,q]
theorem apu:Zn X (unaryOp .USub) (rU λi=>.int (-i)):=unI λ_ _ _ _ _ q=>neg_int q
end
def Y4:V->V->Bool
 |.non,.non=>aq|.non,.int _=>aq|.int _,.non=>aq|.non,.bl _=>aq|.bl _,.non=>aq|.non,.str _=>aq|.str _,.non=>aq
 |.int _,.int _=>aq|.bl _,.bl _=>aq|.str _,.str _=>aq|.qL _,.qL _=>aq
 |.int _,.str _=>aq|.str _,.int _=>aq|.bl _,.str _=>aq|.str _,.bl _=>aq
 |_,_=>aH
def rEq:R2:=λx y H Q=>Y4 x y=aq/\Q (.bl (decide (x=y))) H
def rNe:R2:=λx y H Q=>Y4 x y=aq/\Q (.bl (!decide (x=y))) H
theorem Wl{i j:Int}:decide (V.int i=V.int j)=(i==j):=by lia
theorem Xz{i j:Bool}:decide (V.bl i=V.bl j)=(i==j):=by lia
theorem Wm{i j:Str}:decide (V.str i=V.str j)=(i==j):=by lia
theorem adq{i j:Array UInt8}:decide (V.qL i=V.qL j)=(i.toList==j.toList):=by
 rw[wC];simp_all
section
variable{X:Cx}{a b c:Expr}{ta tb tc:TE}{pos:Pos}
theorem gH{aA:004}{σ:St}{H:Hp}{s:aR}{Q:VK}{k a:Bool}(I:06)(q:Q (.bl k) H)(e:k=a):EP X aA σ Q (.bool a) s:=by
 subst e
 exact#[.bl k,H,I,rfl,q]
theorem aqP:dR X (gG .Eq) rEq:=by
 intro aA s σ H x y v u Q I rx a h
 obtain⟨c,q⟩:=h
 cases x with
 |non=>
  cases rx;cases y with
  |non=>cases a;exact atw (gH I q bH)
  |bl j=>cases a;exact atx (gH I q bH)
  |int j=>obtain⟨b,rfl⟩:=a;exact atJ (gH I q bH)
  |str j=>obtain⟨b,rfl⟩:=a;exact atL (gH I q bH)
  |_=>exact absurd (show aH=aq from c) lC
 |bl i=>
  cases rx;cases y with
  |non=>cases a;exact aty (gH I q bH)
  |bl j=>cases a;exact eq_bool (gH I q Xz)
  |str j=>obtain⟨b,rfl⟩:=a;exact atz (gH I q bH)
  |_=>exact absurd (show aH=aq from c) lC
 |int i=>
  obtain⟨t,rfl⟩:=rx
  cases y with
  |non=>cases a;exact atM (gH I q bH)
  |int j=>obtain⟨b,rfl⟩:=a;exact eq_int (gH I q Wl)
  |str j=>obtain⟨b,rfl⟩:=a;exact atN (gH I q bH)
  |_=>exact absurd (show aH=aq from c) lC
 |str i=>
  obtain⟨t,rfl⟩:=rx
  cases y with
  |non=>cases a;exact atO (gH I q bH)
  |bl j=>cases a;exact atA (gH I q bH)
  |int j=>obtain⟨b,rfl⟩:=a;exact atP (gH I q bH)
  |str j=>obtain⟨b,rfl⟩:=a;exact eq_str (gH I q Wm)
  |_=>exact absurd (show aH=aq from c) lC
 |qL i=>
  obtain⟨t,rfl⟩:=rx
  cases y with
  |qL j=>obtain⟨b,rfl⟩:=a;exact PySem.W.eq_bytes (gH I q adq)
  |_=>exact absurd (show aH=aq from c) lC
 |_=>cases y<;>exact absurd (show aH=aq from c) lC
theorem aqQ:dR X (gG .NotEq) rNe:=by
 intro aA s σ H x y v u Q I rx a h
 obtain⟨c,q⟩:=h
 cases x with
 |non=>
  cases rx;cases y with
  |non=>cases a;exact atB (gH I q bH)
  |bl j=>cases a;exact atD (gH I q bH)
  |int j=>obtain⟨b,rfl⟩:=a;exact atQ (gH I q bH)
  |str j=>obtain⟨b,rfl⟩:=a;exact atR (gH I q bH)
  |_=>exact absurd (show aH=aq from c) lC
 |bl i=>
  cases rx;cases y with
  |non=>cases a;exact atE (gH I q bH)
  |bl j=>cases a;exact ne_bool (gH I q (congrArg not Xz))
  |str j=>obtain⟨b,rfl⟩:=a;exact atF (gH I q bH)
  |_=>exact absurd (show aH=aq from c) lC
 |int i=>
  obtain⟨t,rfl⟩:=rx
  cases y with
  |non=>cases a;exact atU (gH I q bH)
  |int j=>obtain⟨b,rfl⟩:=a;exact ne_int (gH I q (congrArg not Wl))
  |str j=>obtain⟨b,rfl⟩:=a;exact atV (gH I q bH)
  |_=>exact absurd (show aH=aq from c) lC
 |str i=>
  obtain⟨t,rfl⟩:=rx
  cases y with
  |non=>cases a;exact atX (gH I q bH)
  |bl j=>cases a;exact atG (gH I q bH)
  |int j=>obtain⟨b,rfl⟩:=a;exact atY (gH I q bH)
  |str j=>obtain⟨b,rfl⟩:=a;exact ne_str (gH I q (congrArg not Wm))
  |_=>exact absurd (show aH=aq from c) lC
 |qL i=>
  obtain⟨t,rfl⟩:=rx
  cases y with
  |qL j=>obtain⟨b,rfl⟩:=a;exact PySem.W.ne_bytes (gH I q (congrArg not adq))
  |_=>exact absurd (show aH=aq from c) lC
 |_=>cases y<;>exact absurd (show aH=aq from c) lC
theorem aqR:dR X (gG .LtE) (rP λi j=>.bl (decide (i<=j))):=Y0 λ_ _ _ _ _ _ _ q=>le_int q
theorem afy:dR X (gG .Gt) (rP λi j=>.bl (decide (j<i))):=Y0 λ_ _ _ _ _ _ _ q=>gt_int q
theorem afz:dR X (gG .GtE) (rP λi j=>.bl (decide (j<=i))):=Y0 λ_ _ _ _ _ _ _ q=>ge_int q
theorem dR.or{f:aG->aG->Sem aG}{r r':R2}(h:dR X f r)(h':dR X f r'):dR X f (λx y H Q=>r x y H Q\/r' x y H Q):=by
 intro aA s σ H x y v u Q I rx a q;rcases q with q|q
 .exact h _ s σ H x y v u Q I rx a q
 .exact h' _ s σ H x y v u Q I rx a q
theorem j6(b:Expr){op:CmpOp}(h:op≠.In:=by decide)(h2:op≠.NotIn:=by decide):Aa op b=aH:=by
 have e1:(op==CmpOp.In)=aH:=by lia
 have e2:(op==CmpOp.NotIn)=aH:=by grind
 cases b<;>simp[Aa,e1,e2]
theorem anH{op:CmpOp}{r:R2}(i:dR X (gG op) r)(f:PE X a ta)(g:PE X b tb)(e:Aa op b=aH):PE X (.Compare a [op] [b] pos) (J9 r ta tb):=by
 intro aA s σ H Q I h;exact wpAny_Compare1 (YZ f g I h λv u d x y H2 c rx j q=>i _ d σ H2 x y v u Q c rx j q) e
def Yn(t:TE):TT:=λσ H Q=>t σ H λx H'=>∃k,x=.bl k/\Q k H'
theorem Wn{op:CmpOp}{r:R2}(o:dR X (gG op) r)(l:PE X a ta)(m:PE X b tb)(j:Aa op b=aH):PT X (.Compare a [op] [b] pos) (Yn (J9 r ta tb)):=by
 intro aA s σ H Q I h;refine wpAny_isTrue_Compare1 (bY (l _ s σ H _ I h) λv s1 ⟨x,H1,p,t,B⟩=>bY (m _ s1 σ H1 _ p B) λu i ⟨y,H2,g,d,n⟩=>
  bY (o _ i σ H2 x y v u _ g t d n) λc C ⟨z,A,q,f,k,e,w⟩=>?_) j
 subst e;cases f;exact zV #[A,q,w]
def aev(r r':R2)(ta tb tc:TE):TE:=λσ H Q=>ta σ H λx H1=>tb σ H1 λy H2=>r x y H2 λz H3=>∃k,z=.bl k/\
 (if k=aq then tc σ H3 λw' H4=>r' y w' H4 Q else Q (.bl aH) H3)
theorem alW{op f:CmpOp}{r r':R2}(K:dR X (gG op) r)(i:dR X (gG f) r')(C:PE X a ta)(D:PE X b tb)(U:PE X c tc)
  (A:lastMarks [op,f] [b,c]=aH:=by with_unfolding_all rfl):PT X (.Compare a [op,f] [b,c] pos) (Yn (aev r r' ta tb tc)):=by
 intro aA s σ H Q I h;refine isTrue_chain (bY (C _ s σ H _ I h) λv s1 ⟨x,H1,L,S,Z⟩=>test_link (bY (D _ s1 σ H1 _ L Z) λu w ⟨y,H2,q,j,E⟩=>
  bY (K _ w σ H2 x y v u _ q S j E) λd W ⟨z,n,l,p,k,e,m⟩=>?_)) A
 subst e;cases p;refine zV ?_;cases k with
 |false=>
  refine hide λT g=>?_
  obtain⟨k',M,G⟩:=m
  cases M;exact g (ite_ff #[n,l,G])
 |true=>
  refine ite_tt (test_last (bY (U aA W σ n _ l m) λF N ⟨J,V,R,O,o⟩=>bY (i aA N σ V y J u F _ R j O o) λd' s5 aV=>hide λT g=>?_))
  obtain⟨z2,B,P,Y,k2,e2,t⟩:=aV
  subst e2;cases Y;exact g (zV #[B,P,t])
def Y5(K:aU)(x:V)(H:Hp)(k:Bool):Prop:=
 match x with
 |.non=>k=aH
 |.bl b=>k=b
 |.int i=>k=(i != 0)
 |.str y=>y.length<=cz/\k=((y.length:Int) != 0)
 |.qL y=>y.size<=cz/\k=((y.size:Int) != 0)
 |.ref p=>(∃xs,b7 K H p xs/\k=!xs.isEmpty)\/(∃xs,dH K H p xs/\k=!xs.isEmpty)\/∃au ep,H p=aa (.dK au ep)/\k=!au.isEmpty
 |_=>False
theorem akb{κ:Type}{au:List (κ×V)}{vs:List (κ×aG)}(r:KV au vs):(!vs.isEmpty)=!au.isEmpty:=by
 cases r<;>rfl
theorem abt{xs:012}{aK:014}(r:Vals xs aK):(!aK.toArray.isEmpty)=!xs.isEmpty:=by
 cases r<;>simp
theorem Bb:(cz:Nat)<2^63:=aP
theorem apv:arn X (λx H Q=>∃k,Y5 X.K x H k/\Q k H):=by
 intro aA s σ H x v Q I rx h
 obtain⟨k,e,q⟩:=h
 have o:=Bb;have n:cz=16777216:=iw;cases x with
 |non=>
  cases rx;have a:k=aH:=e;subst a;exact truthy_none #[H,I,q]
 |bl b=>
  cases rx;have a:k=b:=e;subst a;exact zV #[H,I,q]
 |int i=>
  obtain⟨t,rfl⟩:=rx
  have a:k=(i != 0):=e;subst a;exact PySem.P.truthy_int #[H,I,q]
 |str y=>
  obtain⟨t,rfl⟩:=rx
  obtain⟨l,a⟩:y.length<=cz/\k=((y.length:Int) != 0):=e
  subst a;exact PySem.P.truthy_str aD #[H,I.tok _,q]
 |qL y=>
  obtain⟨t,rfl⟩:=rx
  obtain⟨l,a⟩:y.size<=cz/\k=((y.size:Int) != 0):=e
  subst a;exact PySem.W.truthy_bytes aD #[H,I.tok _,q]
 |ref p=>
  cases rx;have a:=e;refine hide λu d=>?_
  rcases a with⟨xs,hx,a⟩|⟨xs,hx,a⟩|⟨au,ep,hx,a⟩
  .subst a
   obtain⟨g,r,pl,f⟩:=I.list hx
   have c:=r.length;exact d (wpAny_truthy_list pl.isList (by simp only[oX];lia) #[H,I.tok _,by rw[abt r];exact q])
  .subst a
   obtain⟨g,r,pl,f⟩:=I.tuple hx
   have c:=r.length;exact d (truthy_tuple pl (by simp only[oX];lia) #[H,I.tok _,by rw[abt r];exact q])
  .subst a
   obtain⟨f,j,vs,r,m⟩:au.length<=cz/\(p==oY)=aH/\∃vs,KV au vs/\s.heap.DictAt (gV X.prog X.w) p vs ep:=I.hok p _ hx
   have c:au.length=vs.length:=Paired.length r;exact d (wpAny_truthy_dict j m.dictOf aD #[H,I.tok _,by rw[akb r];exact q])
 |_=>exact(show False from e).elim
theorem alX(g:PE X a ta)(d:∀b,isTrue a X.env b=(do let v <-b;nJ a.pos;mW [v] (truthy v))):
  PT X a (λσ H Q=>ta σ H λx H'=>∃k,Y5 X.K x H' k/\Q k H'):=by
 intro aA s σ H Q I h;exact isTrue_plain (bY (g _ s σ H _ I h) λv s1 ⟨x,H1,c,e,f⟩=>apv _ s1 σ H1 x v Q c e f) (d _)
theorem akc:dR X (rm .Add) (λx y H Q=>∃i j,x=.str i/\y=.str j/\i.length+j.length<=cz/\Q (.str (i++j)) H):=by
 intro aA s σ H x y v u Q I rx c h
 obtain⟨i,j,rfl,rfl,b,q⟩:=h
 obtain⟨t,rfl⟩:=rx
 obtain⟨a,rfl⟩:=c
 exact add_str (λa d=>#[.str _,H,I.tok _,001,q]) b
theorem vals1{x:V}{us:014}(r:Vals [x] us):∃u,us=[u]/\RelV x u:=by
 cases r with
 |cons r1 r2=>cases r2;grind
theorem vals2{x y:V}{us:014}(r:Vals [x,y] us):∃u a,us=[u,a]/\RelV x u/\RelV y a:=by
 cases r with
 |cons r1 r2=>
  cases r2 with
  |cons r3 r4=>cases r4;grind
theorem acr:gF X (.builtin "abs") (λxs H Q=>∃i,xs=[.int i]/\Q (.int (if i<0 then -i else i)) H):=by
 intro aA s σ H xs us Q I r h
 obtain⟨i,rfl,q⟩:=h
 obtain⟨u,rfl,t,rfl⟩:=vals1 r
 exact call_abs_int λu a=>#[.int _,H,I.tok _,001,q]
theorem UG(b:011):gF X (.builtin "max") (λxs H Q=>∃i j,xs=[.int i,.int j]/\Q (.int (if j>i then j else i)) H):=by
 intro aA s σ H xs us Q I r h
 obtain⟨i,j,rfl,q⟩:=h
 obtain⟨u,d,rfl,⟨t,rfl⟩,⟨c,rfl⟩⟩:=vals2 r
 refine max_two_ints (I.ok.hd b) λh' e k=>#[_,H,I.kept k,?_,q]
 by_cases a:j>i
 .rw[bG a,bG a];exact 001
 .rw[bK a,bK a];exact 001
theorem abK(b:011):gF X (.builtin "min") (λxs H Q=>∃i j,xs=[.int i,.int j]/\Q (.int (if j<i then j else i)) H):=by
 intro aA s σ H xs us Q I r h
 obtain⟨i,j,rfl,q⟩:=h
 obtain⟨u,d,rfl,⟨t,rfl⟩,⟨c,rfl⟩⟩:=vals2 r
 refine min_two_ints (I.ok.hd b) λh' e k=>#[_,H,I.kept k,?_,q]
 by_cases a:j<i
 .rw[bG a,bG a];exact 001
 .rw[bK a,bK a];exact 001
theorem abL:gF X (.type "int") (λxs H Q=>(∃i,xs=[.int i]/\Q (.int i) H)\/∃k,xs=[.bl k]/\Q (.int (if k then 1 else 0)) H):=by
 intro aA s σ H xs us Q I r h;rcases h with⟨i,rfl,q⟩|⟨k,rfl,q⟩
 .obtain⟨u,rfl,t,rfl⟩:=vals1 r
  exact call_int_int #[.int i,H,I,001,q]
 .obtain⟨u,rfl,a⟩:=vals1 r
  cases a;exact call_int_bool #[.int _,H,I.tok _,001,q]
end
structure By(h:cg)(x dx C:az)(mA:Str->Option aG):Prop where
 obj:h.get? x=aa (GZ C dx)
 ns:h.Ns1 dx mA
 ne:dx≠x
theorem akQ{h:cg}{dx:az}{mA:Str->Option aG}(n:h.Ns1 dx mA):∃c,h.get? dx=aa c/\∀name,Th name c=aa (mA name):=by
 obtain⟨o,es,ep,g,j,d,_,f⟩:=n
 refine#[o,g,λname=>?_]
 have e:=f name;unfold nsFind findBy at e;unfold Th;rw[j];dsimp only;split
 .grind
 .have a:es.toList.any (·.refKey)=aH:=by
   rw[aiw];intro y i
   obtain⟨z,t,b⟩:=d y (Array.mem_toList_iff.mp i)
   simp[DictEntry.refKey,b]
  grind
theorem By.look{h:cg}{x dx C:az}{mA:Str->Option aG}(I:By h x dx C mA):∃a,PySem.W.InstAt h x (GZ C dx) C (aa a)/\∀name,Th name a=aa (mA name):=
 let ⟨a,ho,hl⟩:=akQ I.ns
 #[a,#[I.obj,rfl,rfl,ho],hl]
section
variable{prog:dB}{w:cG}{A:dN}{E:aG->aR->Prop}{s:aR}{K:aU}{x dx C f:az}{mA:Str->Option aG}{name:Str}{v:aG}
theorem get_map{a:Bool}{Q:aG->aR->Prop}(X:K.In s.heap)(I:By s.heap x dx C mA)(c:K8 K C name=aq)(e:Sh K C=aq)
  (d:tY K (.ref C) name=aa ao)(g:mA name=aa v)(b:aiP v=aq)(h:Q v {s with toks:=s.toks+1}):
  bf 000 A (getAttr (.ref x) name a) Q E s:=by
 obtain⟨f,J,i⟩:=I.look
 exact PySem.W.get_value X J (aad c).1 (PySem.W.findObj_own e d rfl 002) b h
theorem alY{pl:Sem Bool}{Q:aG×List aG->aR->Prop}(X:K.In s.heap)(I:By s.heap x dx C mA)(a:K8 K C name=aq)
  (c:tY K (.ref C) name=aa (aa (.ref f)))(b:TY K (.ref f)=aq)(e:mA name=ao)(h:Q (.ref f,[.ref x]) s):
  bf 000 A (wL (.ref x) name pl) Q E s:=by
 obtain⟨d,J,g⟩:=I.look
 exact PySem.W.method_fn X J (aad a).1 (aad a).2 c (beq_iff_eq.mp b) (by show(Th _ d).map _=aa _;simp_all) h
theorem anI{ns:009}{Q:Unit->aR->Prop}(X:K.In s.heap)(I:By s.heap x dx C mA)
  (j:tY K (.ref C) "__setattr__"=aa (aa (.builtin "object.__setattr__")))(k:aak K C=aq)(l:aaH K C name=aa ao)(n:Sh K C=aq)
  (u:aa3 mA ns)(q:ns.length<=cz)
  (h:∀h',By h' x dx C (λy=>if y=name then aa v else mA y)->qW dx s.heap h'->Q () {s with heap:=h',toks:=s.toks+2}):
  bf 000 A (setAttr (.ref x) name v) Q E s:=by
 obtain⟨F,J,B⟩:=I.look
 refine PySem.W.set_plain X J j (PySem.W.osa_open (s:={s with toks:=s.toks+1}) (r:=ao) X J k l λb=>?_)
 obtain⟨D,o,g⟩:=PySem.W.any_some n
 have t:s.heap.get? x=aa ⟨.ref C,aa dx,.plain,#v[]⟩:=I.obj;refine aJ (bu (aJ (aJ (wpAny_loadPart t (aJ (at7 (s:={s with toks:=s.toks+1}) (PySem.W.looks_clsIn X o) ?_))))));rw[g];refine bu (a:=aa dx) (aJ (bu (aJ ?_)));refine wpAny_nsSet1 (s:={s with toks:=s.toks+1}) I.ns λh' d c=>?_
 obtain⟨z,p,m,f,i,e⟩:=d.count (at8 name v u)
 refine aJ (wpAny_lookBehind f (by rw[i];exact pastItsLine_dict (jl e (by rw[iM];lia))) ?_);exact bu (h _ #[(c.2 _ (jK I.ne)).trans I.obj,d,I.ne] c)
theorem alZ{R:Em->aR->Prop}{vs:014}{a:List (Str×aG)}(X:K.In s.heap)(d:aaI K C=aq)
  (hi:tY K (.ref C) "__init__"=aa (aa (.ref f)))(c:PySem.W.typeIn K (.ref f)=aa (.type "function"))
  (h:lH (model prog w) (A.under (.builtin "type.__call__" ⟨.ref C::vs,a⟩)) (.call (.ref f) ⟨.ref (s.heap.objs.size+1)::vs,a⟩) (PySem.W.InitBack (s.heap.objs.size+1) R)
   {s with heap:=(s.heap.push Sq).push (GZ C s.heap.objs.size)}):
  lH 000 A (.call (.ref C) #[vs,a]) R s:=by
 exact PySem.W.make_core (PySem.W.makes_of X d) (PySem.W.looks_findIn X hi) (λb=>PySem.W.bind_fn X _ c) (.inl rfl) h
end
def pA(f:Str)(v:V):List (Str×V)->List (Str×V)
 |[]=>[(f,v)]
 |(g,x)::r=>if g=f then(g,v)::r else(g,x)::pA f v r
theorem abf(f g:Str)(v:V):∀fs:List (Str×V),(pA f v fs).lookup g=if g=f then aa v else fs.lookup g
 |[]=>by
  show ajW g [(f,v)]=_
  grind
 |(k,x)::r=>by
  have a:=abf f g v r;rw[show pA f v _=(if k=f then(k,v)::r else(k,x)::pA f v r) from rfl]
  grind
theorem UJ(f:Str)(v:V):∀fs:List (Str×V),f∈(pA f v fs).map (·.1)/\∀g,g∈fs.map (·.1)->g∈(pA f v fs).map (·.1)
 |[]=>#[by simp[pA],λg h=>by grind]
 |(k,x)::r=>by
  obtain⟨a,b⟩:=UJ f v r
  rw[show pA f v _=(if k=f then(k,v)::r else(k,x)::pA f v r) from rfl]
  grind
theorem abg(f:Str)(v:V):∀fs:List (Str×V),(pA f v fs).length<=fs.length+1
 |[]=>by simp[pA]
 |(k,x)::r=>by
  have a:=abg f v r;rw[show pA f v _=(if k=f then(k,v)::r else(k,x)::pA f v r) from rfl]
  grind
theorem o9.some_of{v:V}{o:Option aG}(r:o9 (aa v) o):∃u,o=aa u/\RelV v u:=by
 cases o with
 |none=>trivial
 |some u=>exact#[u,rfl,r]
theorem o9.none_of{o:Option aG}(r:o9 ao o):o=ao:=by
 cases o with
 |none=>rfl
 |some u=>trivial
theorem akR{v:V}{u:aG}(r:RelV v u):aiP u=aq:=by
 cases v with
 |non=>cases(r);rfl
 |bl b=>cases(r);rfl
 |int i=>obtain⟨t,e⟩:=(r);cases e;rfl
 |str x=>obtain⟨t,e⟩:=(r);cases e;rfl
 |qL b=>obtain⟨t,e⟩:=(r);cases e;rfl
 |flt b=>obtain⟨t,e⟩:=(r);cases e;rfl
 |ref a=>cases(r);rfl
 |ty n=>cases(r);rfl
section
variable{P:dB}{w:cG}{H H':Hp}{h h':cg}{a C dx:az}{fs fs':List (Str×V)}
theorem Nk(b:ig P w H h)(e:H a=aa (.ins C dx fs)):∃mA,By h a dx C mA/\(∀f,o9 (fs.lookup f) (mA f))/\aa3 mA (fs.map (·.1))/\fs.length<=1000/\H dx=aa (.own a):=by
 refine hide λi g=>?_
 obtain⟨d,z,ne,c,mA,n,r,q⟩:=(b a _ e)
 exact g (#[mA,#[c,n,ne],r,q,z,d])
end
structure mH(K:aU)(C:az):Prop where
 pg:K8 K C Str.empty=aq
 hd:Sh K C=aq
 po:aak K C=aq
 sa:tY K (.ref C) "__setattr__"=aa (aa (.builtin "object.__setattr__"))
theorem mH.get{K:aU}{C:az}(c:mH K C)(f:Str):K8 K C f=aq:=c.pg
def wX(K:aU)(C:az)(f:Str):Prop:=tY K (.ref C) f=aa ao
theorem wX.taker{K:aU}{C:az}{f:Str}(n:wX K C f):aaH K C f=aa ao:=by
 unfold aaH;rw[n];rfl
structure Meth(K:aU)(C:az)(m:Str)(f:az):Prop where
 at_:tY K (.ref C) m=aa (aa (.ref f))
 fn:TY K (.ref f)=aq
 kp:yq K (.ref f)=aq
section
variable{X:Cx}{aA:List (az×Obj)}{σ:St}{H:Hp}{s:aR}{a C dx:az}{fs:List (Str×V)}{f:Str}{v:V}{A:dN}{E:aG->aR->Prop}
theorem akd{b:Bool}{Q:aG->aR->Prop}(I:06)(e:H a=aa (.ins C dx fs))(c:mH X.K C)(n:wX X.K C f)(l:fs.lookup f=aa v)
  (h:∀u s',Inv X aA σ H s'->RelV v u->Q u s'):bf 05 A (getAttr (.ref a) f b) Q E s:=by
 obtain⟨mA,O,r,_,_,_⟩:=Nk I.hok e
 obtain⟨u,g,d⟩:=o9.some_of (v:=v) (o:=mA f) 002
 exact get_map I.jP O (c.get f) c.hd n g (akR d) (h u _ (I.tok _) d)
theorem abu{m:Str}{g:az}{pl:Sem Bool}{Q:aG×List aG->aR->Prop}(I:06)(e:H a=aa (.ins C dx fs))(c:mH X.K C)(k:Meth X.K C m g)(l:fs.lookup m=ao)
  (h:Q (.ref g,[.ref a]) s):bf 05 A (wL (.ref a) m pl) Q E s:=by
 obtain⟨mA,O,r,_,_,_⟩:=Nk I.hok e
 have b:mA m=ao:=o9.none_of 002;exact alY I.jP O (c.get m) k.at_ k.fn b h
theorem ake{y:V}{u:aG}{Q:Unit->aR->Prop}(I:06)(e:H a=aa (.ins C dx fs))(c:mH X.K C)(n:wX X.K C f)(t:fs.length<1000)(l:RelV y u)
  (h:∀s',Inv X aA σ (upd H a (.ins C dx (pA f y fs))) s'->Q () s'):bf 05 A (setAttr (.ref a) f u) Q E s:=by
 obtain⟨mA,O,r,wi,_,i⟩:=Nk I.hok e
 have k:(fs.map (·.1)).length<=cz:=by rw[bC,iw];lia
 refine anI I.jP O c.sa c.po n.taker c.hd wi k λh' d sb=>h _ ?_
 have p:∃o,h'.get? dx=aa o:=let ⟨o,_,_,e',_⟩:=d.ns;#[o,e']
 refine I.write (x:=a) (e:=dx) (by rw[e];exact ug) (.inr i) (λb q j z=>(sb.2 b j).trans z) p ?_
 refine#[by rw[c7 O.ne];exact i,?_,O.ne,d.obj,_,d.ns,λg=>?_,λg m=>?_]
 .have:=abg f y fs;lia
 .show o9 ((pA f y fs).lookup g) (if g=f then aa u else mA g);rw[abf];by_cases q:g=f
  .rw[bG q,bG q];exact l
  .rw[bK q,bK q];exact r g
 .by_cases q:g=f
  .rw[q];exact(UJ f y fs).1
  .refine(UJ f y fs).2 g (wi g λz=>m ?_)
   show(if g=f then aa u else mA g)=ao
   rw[bK q];exact z
theorem Inv.made(I:06):Inv X aA σ (upd (upd H s.heap.objs.size (.own (s.heap.objs.size+1))) (s.heap.objs.size+1) (.ins C s.heap.objs.size []))
  {s with heap:=(s.heap.push Sq).push (GZ C s.heap.objs.size)}:=by
 have e1:(s.heap.push Sq).get? _=aa _:=fV _ rfl;have e2:=by
  have:=fV (s.heap.push Sq) (o:=GZ C s.heap.objs.size) rfl
  rwa [u5] at this
 have f:(s.heap.push _).Ns _ _:=#[_,_,_,e1,rfl,(λe c=>absurd c bH),λ_=>rfl]
 have a:=I.laid (o:=.own (s.heap.objs.size+1)) (t':=s.toks) (λb u q=>cX _ q) (bQ _) #[_,e1];refine a.laid (λb u q=>cX _ q) (ajF (u5 _ _)) ?_;have ne:s.heap.objs.size≠s.heap.objs.size+1:=fW (zW _)
 refine#[by rw[c7 ne,fK],jJ _,ne,e2,_,(Heap.Ns1.of_empty f).at λo q=>cX _ q,λ_=>ug,λy d=>absurd rfl d]
theorem anJ{prog:dB}{w:cG}{aj:Env}{e:Expr}{f:Str}{pos:Pos}{Q:aG->aR->Prop}(a:sE e f aj (eval e aj)=eval e aj)
  (h:bf 000 A (eval e aj) (λo s₁=>bf 000 A (getAttr o f aq) Q E s₁) E s):bf 000 A (eval (.Attribute e f pos) aj) Q E s:=
 Attribute_any_ h (by rw[arm_eval_Attribute,a])
end
def aro(K:aU)(ta:TE)(f:Str):TE:=λσ H Q=>ta σ H λx H1=>∃a C dx fs v,x=.ref a/\H1 a=aa (.ins C dx fs)/\mH K C/\wX K C f/\fs.lookup f=aa v/\Q v H1
def arp(K:aU)(ta tv:TE)(f:Str):TS:=λD σ H=>tv σ H λy H1=>ta σ H1 λx H2=>∃a C dx fs,x=.ref a/\H2 a=aa (.ins C dx fs)/\mH K C/\wX K C f/\fs.length<1000/\
 D.nx σ (upd H2 a (.ins C dx (pA f y fs)))
section
variable{X:Cx}{o e value:Expr}{f:Str}{pos pos' tpos:Pos}{ta tv:TE}
theorem apw(k:PE X e ta)(d:sE e f X.env (eval e X.env)=eval e X.env):PE X (.Attribute e f pos) (aro X.K ta f):=by
 intro aA s σ H Q I h;refine anJ d (bY (k _ s σ H _ I h) λu s1 m=>?_)
 obtain⟨x,H1,g,rx,a,C,dx,fs,v,ex,j,c,n,l,q⟩:=m
 subst ex;obtain rfl:u=fj a:=rx;exact akd g j c n l λo p b i=>#[v,H1,b,i,q]
theorem apx(e:PE X o ta)(d:PE X value tv)(i:lG value (aa (.Attribute o f pos')) pos.line X.env=pure aH):PS X (.Assign [.Attribute o f pos'] value pos) (arp X.K ta tv f):=by
 intro aA s σ H D I h;refine plainObj_wpAny_Assign_Attribute (bY (d _ s σ H _ I h) λu s1 ⟨y,H1,j,p,q⟩=>bY (e _ s1 σ H1 _ j q) λr v t=>?_) i
 obtain⟨x,H2,b,rx,a,C,dx,fs,ex,m,c,n,l,g⟩:=t
 subst ex;obtain rfl:r=fj a:=rx;exact ake b m c n l p λw k=>#[σ,_,k,g]
end
section
variable{X:Cx}{aA:List (az×Obj)}{σ:St}{H:Hp}{s:aR}{A:dN}{E:aG->aR->Prop}{Q:aG->aR->Prop}{c:aG}{b:Bool}
inductive p7(K:aU)(H:Hp):V->aG->Prop where
 |non:p7 K H .non (.type "NoneType")
 |bl (x:Bool):p7 K H (.bl x) (.type "bool")
 |int (i:Int):p7 K H (.int i) (.type "int")
 |str (x:Str):p7 K H (.str x) (.type "str")
 |flt (x:UInt64):p7 K H (.flt x) (.type "float")
 |lst {a:az} {xs:012} (e:H a=aa (.lst xs)):p7 K H (.ref a) (.type "list")
 |tO {a:az} {o:Obj} {xs:012} (e:H a=aa (.tO o (.lst xs))):p7 K H (.ref a) (.type "list")
 |tup {a:az} {xs:012} (e:H a=aa (.tup xs)):p7 K H (.ref a) (.type "tuple")
 |dK {a:az} {au:List (Key×V)} {ep:Nat} (e:H a=aa (.dK au ep)):p7 K H (.ref a) (.type "dict")
 |dT {a:az} {au:List (TK×V)} {ep:Nat} (e:H a=aa (.dT au ep)):p7 K H (.ref a) (.type "dict")
 |ins {a C dx:az} {fs:List (Str×V)} (e:H a=aa (.ins C dx fs)) (cl:mH K C) (ha:tY K (.ref C) "__class__"=aa (aa (.builtin "object.__class__")))
   (hn:PySem.W.specialIn K (.builtin "object.__class__") "__get__"=aa (aa (.builtin "getset_descriptor.__get__"))) (htk:PySem.W.takesIn K (.builtin "object.__class__")=aa aq)
   (hm:PySem.W.mroIn K C (.type "object")=aa aq):p7 K H (.ref a) (.ref C)
theorem akS{x:V}{u t:aG}(I:06)(rx:RelV x u)(ty:p7 X.K H x t)(e:aaO X.K t c=aa b)(h:∀d,Q (.bool b) {s with toks:=d}):
  bf 05 A (call (.builtin "isinstance") [u,c]) Q E s:=by
 cases ty with
 |non=>cases(rx);exact u0 PySem.W.kitx_none I.jP ug e (λz=>nomatch z) h
 |bl y=>cases(rx);exact u0 PySem.W.kitx_bool I.jP ug e (λz=>nomatch z) h
 |int i=>obtain⟨t,q⟩:=(rx);cases q;exact u0 PySem.W.kitx_int I.jP ug e (λz=>nomatch z) h
 |str y=>obtain⟨t,q⟩:=(rx);cases q;exact u0 PySem.W.kitx_str I.jP ug e (λz=>nomatch z) h
 |flt y=>obtain⟨t,q⟩:=(rx);cases q;exact u0 PySem.W.kitx_float I.jP ug e (λz=>nomatch z) h
 |@lst a xs ea=>
  cases(rx)
  obtain⟨_,_,n,_,h1⟩:=(I.hok a _ ea)
  exact u0 aix I.jP #[_,h1,rfl] e (λz=>nomatch z) h
 |@tO a ob xs ea=>
  cases(show u=fj a from rx)
  obtain⟨_,_,_,n,_,h1⟩:=(I.hok a _ ea)
  exact u0 aix I.jP #[_,h1,rfl] e (λz=>nomatch z) h
 |@tup a xs ea=>
  cases(rx)
  obtain⟨_,_,_,p⟩:=(I.hok a _ ea)
  obtain⟨o,h1,h2,_⟩:=p
  exact u0 PySem.W.kitx_tuple I.jP #[o,h1,h2] e (λz=>nomatch z) h
 |@dK a au epo ea=>
  cases(show u=fj a from rx)
  obtain⟨_,_,vs,_,p⟩:=(I.hok a _ ea)
  obtain⟨o,es,h1,h2,_⟩:=p
  exact u0 aiy I.jP #[o,h1,h2.1] e (λz=>nomatch z) h
 |@dT a au epo ea=>
  cases(show u=fj a from rx)
  obtain⟨_,_,xs,_,o,es,h1,h2,_⟩:=(I.hok a _ ea)
  exact u0 aiy I.jP #[o,h1,h2.1] e (λz=>nomatch z) h
 |@ins a C dx fs ea cl ha hn htk hm=>
  cases(show u=fj a from rx)
  obtain⟨mA,O,_⟩:=Nk I.hok ea
  obtain⟨f,J,_⟩:=O.look
  exact u0 (PySem.W.kitx_own (cl.get _) cl.hd ha hn htk hm) I.jP J e (λz=>nomatch z) h
end
structure dZ(k:Nat)(A:dN):Prop where
 hd:A.handled=ao
 dp:A.depth+3*k+5<recursionLimit
 un:A.units+16*k+200<fD
 gd:A.guards=aa []
theorem dZ.mono{j k:Nat}{A:dN}(r:dZ k A)(h:j<=k):dZ j A:=#[r.hd,by have:=r.dp;lia,by have:=r.un;lia,r.gd]
theorem dZ.deeper{k:Nat}{A:dN}(r:dZ (k+1) A)(aj:Env):dZ k (A.deeper aj):=
 #[r.hd,by have:=r.dp;show A.depth+1+3*k+5<_;lia,by have:=r.un;show A.units+3+16*k+200<_;lia,r.gd]
theorem akf{A:dN}{C:az}{us:014}{a:List (Str×aG)}:(A.under (.builtin "type.__call__" #[.ref C::us,a])).depth=A.depth+1:=rfl
theorem akg{A:dN}{C:az}{us:014}{a:List (Str×aG)}:(A.under (.builtin "type.__call__" #[.ref C::us,a])).units=A.units+1:=rfl
theorem dZ.make{k:Nat}{A:dN}(r:dZ (k+1) A)(C:az)(us:014)(a:List (Str×aG)):dZ k (A.under (.builtin "type.__call__" #[.ref C::us,a])):=
 #[r.hd,by have:=r.dp;rw[akf];lia,by have:=r.un;rw[akg];lia,by have:=r.gd;(exact this)]
theorem dZ.depth{k:Nat}{A:dN}(r:dZ k A):A.depth<recursionLimit:=by have:=r.dp;lia
theorem dZ.units{k:Nat}{A:dN}(r:dZ k A):A.units+64<fD:=by have:=r.un;lia
theorem dZ.Bc{k:Nat}{A:dN}(r:dZ k A):A.units<fD:=by have:=r.un;lia
def BJ:TA:=λ_ H Q=>Q [] H
def O7(ta:TE)(tr:TA):TA:=λσ H Q=>ta σ H λx H1=>tr σ H1 λxs H2=>Q (x::xs) H2
section
variable{X:Cx}{e:Expr}{es:List Expr}{te:TE}{t:TA}{pos:Pos}
theorem pR:PA X [] BJ:=λ_ _ _ _ H Q I h=>Ss #[[],H,I,.nil,h]
theorem pO(c:PE X e te)(i:PA X es t)(f:bI (e::es) X.env=006::bI es X.env:=by rfl):PA X (e::es) (O7 te t):=by
 intro pos aA s σ H Q I h;rw[f];show bf _ _ (spliced ((aH,eval e _)::eN _ _)) _ _ s;refine KY (bY (c _ s σ H _ I h) λu s1 m=>hide λo k=>?_)
 obtain⟨x,H1,g,j,l⟩:=m
 exact k (bY (i _ _ s1 σ H1 _ g l) λus n ⟨xs,H2,b,a,d⟩=>#[_,H2,b,.cons j a,d])
def arq(t:TA):TE:=λσ H Q=>t σ H λxs H1=>xs.length<=cz/\∀p,H1 p=ao->Q (.ref p) (upd H1 p (.tup xs))
def ars(t:TA):TE:=λσ H Q=>t σ H λxs H1=>xs.length<=cz/\∀p,H1 p=ao->Q (.ref p) (upd H1 p (.lst xs))
theorem apy{x1}(h:PA X es t):PE X (.Tuple es x1 pos) (arq t):=by
 intro aA s σ H Q I d;refine wpAny_Tuple_spliced (bY (h _ _ s σ H _ I d) λus s1 ⟨xs,H1,a,r,z,q⟩=>#[by rwa [<-r.length],?_]);have c:=a.hok.fresh (bQ _)
 refine#[.ref _,_,a.laid (λb u e=>cX _ e) (bQ _) ?_,rfl,q _ c]
 exact#[z,us,r,#[_,fV _ rfl,rfl,_,rfl]]
theorem XC(h:PA X es t):PE X (.List es pos) (ars t):=by
 intro aA s σ H Q I d;refine wpAny_List_spliced (bY (h _ _ s σ H _ I d) λus s1 ⟨xs,H1,a,r,z,q⟩=>#[by rwa [<-r.length],?_]);have c:=a.hok.fresh (bQ _)
 refine#[.ref _,_,a.laid (λb u e=>cX _ e) (bQ _) ?_,rfl,q _ c]
 exact#[z,us,0,r,fV _ rfl]
end
abbrev Sp:=List V->Hp->VK->XK->Prop
abbrev uM:=List Env->Hp->aR->XK->aG->aR->Prop
structure BK(P:dB)(w:cG)(K:aU)(mg:Str->Option aG)(base:cg)(A:dN)(outer:List Env)(s:aR)(H:Hp):Prop where
 frames:A.frames=aa outer
 mod:Mod K mg base
 bs:∀b o,base.get? b=aa o->s.heap.get? b=aa o/\H b=ao
 xV:base.objs.size<=s.heap.objs.size
 tG:s.heap.FunFrames base outer
 Cq:∀b∈frs outer,H b=ao
 hok:ig P w H s.heap
 bare:AllBare s.gens
def CE(outer:List Env)(P:dB)(w:cG)(H:Hp)(s:aR)(Q:VK)(u:aG)(s':aR):Prop:=
 ∃v H',s'.os=s.os/\AllBare s'.gens/\Un (frs outer) [] H H' s.heap s'.heap/\ig P w H' s'.heap/\RelV v u/\Q v H'
def CR(CX:uM)(outer:List Env)(P:dB)(w:cG)(H:Hp)(s:aR)(Q:VK)(E:XK)(r:Em)(s':aR):Prop:=
 match r with
 |.ok (.ret u)=>CE outer P w H s Q u s'
 |.ok _=>False
 |.error e=>CX outer H s E e s'
structure dG(P:dB)(w:cG)(K:aU)(mg:Str->Option aG)(base:cg)(CX:uM)(k:Nat)(f:az)(fd:o5)(ps:List Str)(sp:Sp):Prop where
 len:∀vs H Q E,sp vs H Q E->vs.length=ps.length
 run:∀(A:dN)(outer:List Env)(s:aR)(H:Hp)(args:Args)(us:014)(vs:012)(Q:VK)(E:XK),dZ k A->BK P w K mg base A outer s H->DY s fd args (ps.zip us)->Vals vs us->sp vs H Q E->
  lH (model P w) A (.call (.ref f) args) (CR CX outer P w H s Q E) s
theorem dG.imp{P:dB}{w:cG}{K:aU}{mg:Str->Option aG}{base:cg}{CX:uM}{k:Nat}{f:az}{fd:o5}{ps:009}{sp a:Sp}(F:dG P w K mg base CX k f fd ps sp)
  (h:∀vs H Q E,a vs H Q E->sp vs H Q E):dG P w K mg base CX k f fd ps a:=
 #[λvs H Q E q=>F.len vs H Q E (h _ _ _ _ q),λA b s H c us vs Q E i j e d g=>F.run A _ s H _ us vs Q E i j e d (h _ _ _ _ g)]
theorem BK.make{P:dB}{w:cG}{K:aU}{mg:Str->Option aG}{base:cg}{A:dN}{outer:List Env}{s:aR}{H:Hp}(e:BK P w K mg base A outer s H)(C:az)(us:014)(a:List (Str×aG)):
  BK P w K mg base (A.under (.builtin "type.__call__" #[.ref C::us,a])) outer s H:=#[by(exact e.frames),e.mod,e.bs,e.xV,e.tG,e.Cq,e.hok,e.bare]
section
variable{X:Cx}{aA:List (az×Obj)}{σ:St}{H:Hp}{s s':aR}
theorem Inv.env0(I:06):BK X.prog X.w X.K X.mg X.base X.A X.stack s H:=
 #[I.ok.frames,I.ok.mod,I.bs,jl I.ok.xV I.sz,I.stack,I.adn,I.hok,I.bare]
theorem Inv.after{Q:VK}{u:aG}(I:06)(h:CE X.stack X.prog X.w H s Q u s'):EP X aA σ Q u s':=by
 obtain⟨v,H',e,bare,un,c,r,q⟩:=h
 obtain⟨f,g,d,t,a⟩:=s'
 obtain rfl:a=s.os:=e
 exact#[v,H',I.call un c bare (λb z=>absurd z bH),r,q]
end
def Jx(sp:Sp)(nj:012)(E:XK)(t:TA):TE:=λσ H Q=>t σ H λvs H1=>sp (vs++nj) H1 Q E
def O8(C:az)(m:Str)(sp:Sp)(nj:012)(E:XK)(ta:TE)(t:TA):TE:=λσ H Q=>ta σ H λx H1=>∃a dx fs,x=.ref a/\H1 a=aa (.ins C dx fs)/\fs.lookup m=ao/\
 t σ H1 λvs H2=>sp (x::(vs++nj)) H2 Q E
def afA(C:az)(sp:Sp)(nj:012)(E:XK)(t:TA):TE:=λσ H Q=>t σ H λvs H1=>∀x dx,H1 x=ao->H1 dx=ao->dx≠x->
 sp (.ref x::(vs++nj)) (upd (upd H1 dx (.own x)) x (.ins C dx [])) (λv H2=>v=.non/\Q (.ref x) H2) E
def Binds(K:aU)(fd:o5)(ps:009)(ds:014):Prop:=
 ∀(s:aR)(us:014),K.In s.heap->(us++ds).length=ps.length->DY s fd #[us,[]] (ps.zip (us++ds))
theorem Binds.all{K:aU}{fd:o5}{ps:009}(h:∀us:List aG,us.length=ps.length->Vs fd #[us,[]]=pure (ps.zip us)):Binds K fd ps []:=λs us _ a=>by
 rw[jt] at a⊢;exact .of_eq (h us a)
def Passes(CX:uM)(X:Cx)(E:XK):Prop:=∀(aA:004)(σ:St)(H:Hp)(s:aR)(e:aG)(s':aR),Inv X aA σ H s->CX X.stack H s E e s'->X.xe e s'
section
variable{X:Cx}{CX:uM}{k:Nat}{f C:az}{fd:o5}{ps:List Str}{sp:Sp}{nj:List V}{ds:List aG}{E:XK}{x m:Str}{p pos apos:Pos}{e o:Expr}{es:List Expr}{ta:TE}{t:TA}
theorem XD{aA:004}{σ:St}{H:Hp}{s:aR}{Q:VK}{us:014}{vs:012}(F:dG X.prog X.w X.K X.mg X.base CX k f fd ps sp)(j:dZ k X.A)(i:Binds X.K fd ps ds)(d:Vals nj ds)(c:Passes CX X E)
  (I:06)(r:Vals vs us)(h:sp (vs++nj) H Q E):bf 05 X.A (call (.ref f) us) (EP X aA σ Q) X.xe s:=by
 have b:=r.append d;have g:(us++ds).length=ps.length:=by rw[<-b.length];exact F.len _ _ _ _ h
 refine wpAny_call (Hq (F.run _ _ s H _ _ _ Q E j I.env0 (i s us I.jP g) b h) λr s' a=>?_);cases r with
 |error e=>exact c _ σ H s e s' I a
 |ok fl=>
  cases fl with
  |ret u=>exact I.after a
  |next=>trivial
  |brk=>trivial
  |cont=>trivial
theorem anK(F:dG X.prog X.w X.K X.mg X.base CX k f fd ps sp)(l:dZ k X.A)(m:Gl X x)(g:X.mg x=aa (.ref f))(d:yq X.K (.ref f)=aq)(j:Binds X.K fd ps ds)(u:Vals nj ds)(n:Passes CX X E)
  (i:PA X (e::es) t)(b:(x==("__debug__":Str))=aH:=by decide)(o:bI (e::es) X.env=006::bI es X.env:=by rfl)(a:(eN pos (bI es X.env)).any (·.1)=aH:=by rfl):
  PE X (.Call (.Name x p) (e::es) [] pos) (Jx sp nj E t):=by
 intro aA s σ H Q I h;refine Gv (adp I m g (aik I.ok.mod.Rg d (bY (i _ _ s σ H _ I h) λus s1 ⟨vs,H1,c,r,q⟩=>#[c.jP,?_]) o a) b);exact XD F l j u n c r q
theorem adt{pl:Sem Bool}(B:PE X o ta)(c:mH X.K C)(i:Meth X.K C m f)(F:dG X.prog X.w X.K X.mg X.base CX k f fd ps sp)(w:dZ k X.A)(p:Binds X.K fd ps ds)(D:Vals nj ds)(A:Passes CX X E)(n:PA X (e::es) t)
  (d:bI (e::es) X.env=006::bI es X.env:=by rfl)(b:(eN pos (bI es X.env)).any (·.1)=aH:=by rfl)
  (y:eval (.Call (.Attribute o m apos) (e::es) [] pos) X.env=(do
   let ov <-eval o X.env
   nJ apos.atName
   let (f,first) <-mW [ov] (wL ov m pl)
   yw pos f first (eN pos (bI (e::es) X.env)) (pN pos (pL [] X.env))):=by rfl):
  PE X (.Call (.Attribute o m apos) (e::es) [] pos) (O8 C m sp nj E ta t):=by
 intro aA s σ H Q I h;refine ahQ (bY (B _ s σ H _ I h) λu s1 G=>?_) y
 obtain⟨x,H1,j,rx,a,dx,fs,ex,z,l,q⟩:=G
 subst ex;obtain rfl:u=fj a:=rx;refine abu j z c i l ?_;refine aik I.ok.mod.Rg i.kp (bY (n _ _ s1 σ H1 _ j q) λus J ⟨vs,H2,g,r,v⟩=>#[g.jP,?_]) d b;exact XD (vs:=.ref a::vs) F w p D A g (.cons rfl r) v
theorem al0{pl:Sem Bool}(p:PE X o ta)(c:mH X.K C)(d:Meth X.K C m f)(F:dG X.prog X.w X.K X.mg X.base CX k f fd ps sp)(g:dZ k X.A)(e:Binds X.K fd ps ds)(r:Vals nj ds)(n:Passes CX X E)
  (i:eval (.Call (.Attribute o m apos) [] [] pos) X.env=(do
   let ov <-eval o X.env
   nJ apos.atName
   let (f,first) <-mW [ov] (wL ov m pl)
   yw pos f first (eN pos (bI [] X.env)) (pN pos (pL [] X.env))):=by rfl):
  PE X (.Call (.Attribute o m apos) [] [] pos) (O8 C m sp nj E ta BJ):=by
 intro aA s σ H Q I h;refine ahQ (bY (p _ s σ H _ I h) λu s1 t=>?_) i
 obtain⟨x,H1,b,rx,a,dx,fs,ex,j,l,q⟩:=t
 subst ex;obtain rfl:u=fj a:=rx;refine abu b j c d l ?_;exact aic b.jP d.kp (XD (vs:=[.ref a]) F g e r n b (.cons rfl .nil) q)
structure Mk(K:aU)(C f:az):Prop where
 makes:aaI K C=aq
 init:tY K (.ref C) "__init__"=aa (aa (.ref f))
 fn:TY K (.ref f)=aq
 kp:yq K (.ref C)=aq
theorem al1{aA:004}{σ:St}{H:Hp}{s:aR}{Q:VK}{us:014}{vs:012}(M:Mk X.K C f)(F:dG X.prog X.w X.K X.mg X.base CX k f fd ps sp)(l:dZ (k+1) X.A)(i:Binds X.K fd ps ds)(q:Vals nj ds)
  (p:Passes CX X E)(I:06)(r:Vals vs us)
  (h:∀x dx,H x=ao->H dx=ao->dx≠x->sp (.ref x::(vs++nj)) (upd (upd H dx (.own x)) x (.ins C dx [])) (λv H2=>v=.non/\Q (.ref x) H2) E):
  bf 05 X.A (call (.ref C) us) (EP X aA σ Q) X.xe s:=by
 have d:=h (s.heap.objs.size+1) s.heap.objs.size (I.hok.fresh (ud _)) (I.hok.fresh (bQ _)) (fW (zW _));have b:=Inv.made (C:=C) I;have c:Vals (V.ref (s.heap.objs.size+1)::(vs++nj)) _:=.cons rfl (r.append q);have j:=by
  have e:=c.length;rw[F.len _ _ _ _ d] at e;exact e.symm
 refine wpAny_call (alZ (f:=f) I.jP M.makes M.init (beq_iff_eq.mp M.fn) (Hq (F.run _ X.stack _ _ _ _ _ _ E (l.make C us [])
  (b.env0.make C us []) (i _ _ b.jP j) c d) λr s' a=>?_))
 cases r with
 |error e=>exact p aA σ _ _ e s' b a
 |ok fl=>
  cases fl with
  |ret u=>
   obtain⟨v,H',n,g,m,o⟩:=b.after a
   subst m
   exact#[g,#[V.ref (s.heap.objs.size+1),H',n,rfl,o]]
  |next=>exact Af a
  |brk=>exact Af a
  |cont=>exact Af a
theorem al2(M:Mk X.K C f)(F:dG X.prog X.w X.K X.mg X.base CX k f fd ps sp)(i:dZ (k+1) X.A)(b:Gl X x)(e:X.mg x=aa (.ref C))(g:Binds X.K fd ps ds)(d:Vals nj ds)(c:Passes CX X E)
  (a:(x==("__debug__":Str))=aH:=by decide):PE X (.Call (.Name x p) [] [] pos) (afA C sp nj E BJ):=by
 intro aA s σ H Q I h;refine Gv (adp I b e ?_ a);exact aic I.jP M.kp (al1 M F i g d c I .nil h)
end
structure gO(N P:List Str)(sc:iU):Prop where
 kind:sc.kind=.function
 co:sc.isCoroutine=aH
 gen:sc.isGenerator=aH
 nd:N.Nodup
 pre:N.take P.length=P
 par:∀x∈P,sc.names.lookup x=aa .local\/sc.names.lookup x=aa .cell
 apz:∀y∈sc.names,y.2≠.free
theorem abM{kindOf:Str->Option Aj}{x:Str}:∀{binds:List (Str×aG)}{m:Str->Option aG},(∀v,(x,v)∉binds)->bindL kindOf binds m x=m x
 |[],_,_=>rfl
 |(n,v)::r,m,h=>by
  unfold bindL;rw[abM λw a=>h w (dI _ a)];split
  .grind
  .rfl
theorem abN{kindOf:Str->Option Aj}{x:Str}:∀{binds:List (Str×aG)}{m:Str->Option aG},(∀v,(x,v)∉binds)->bindC kindOf binds m x=m x
 |[],_,_=>rfl
 |(n,v)::r,m,h=>by
  unfold bindC;rw[abN λw a=>h w (dI _ a)];split
  .rfl
  grind
theorem abO{kindOf:Str->Option Aj}{x:Str}{v:aG}:∀{P:009}{vs:014}{i:Nat}{m:Str->Option aG},P.Nodup->P[i]?=aa x->vs[i]?=aa v->kindOf x=aa .local->
  bindL kindOf (P.zip vs) m x=aa v
 |[],_,_,_,_,h,_,_=>by grind
 |_::_,[],_,_,_,_,h,_=>by grind
 |p::P,w::vs,0,m,nd,h1,h2,hk=>by
  simp at h1 h2;subst h1;subst h2;show bindL _ ((p,w)::P.zip vs) m p=_;unfold bindL;rw[abM λv a=>(mU.mp nd).1 (Tc a).1,bG hk];simp
 |p::P,w::vs,i+1,m,nd,h1,h2,hk=>by
  unfold bindL;exact abO (i:=i) (mU.mp nd).2 002 002 hk
theorem abP{kindOf:Str->Option Aj}{x:Str}{v:aG}:∀{P:009}{vs:014}{i:Nat}{m:Str->Option aG},P.Nodup->P[i]?=aa x->vs[i]?=aa v->kindOf x≠aa .local->
  bindC kindOf (P.zip vs) m x=aa v
 |[],_,_,_,_,h,_,_=>by grind
 |_::_,[],_,_,_,_,h,_=>by grind
 |p::P,w::vs,0,m,nd,h1,h2,hk=>by
  simp at h1 h2;subst h1;subst h2;show bindC _ ((p,w)::P.zip vs) m p=_;unfold bindC;rw[abN λv a=>(mU.mp nd).1 (Tc a).1,bK hk];simp
 |p::P,w::vs,i+1,m,nd,h1,h2,hk=>by
  unfold bindC;exact abP (i:=i) (mU.mp nd).2 002 002 hk
def start(N:009)(vs:012):St:=vs.map aa++cH (N.length-vs.length) ao
def xP(CX:uM)(P:dB)(w:cG)(K:aU)(mg:Str->Option aG)(base:cg)(N:009)(qual:Str)(scope:iU)(f:az)(cd:aG)(A:dN)(outer:List Env)(s:aR)(H:Hp)(E:XK):Cx where
 prog:=P
 w:=w
 K:=K
 mg:=mg
 base:=base
 A:=A.deeper (envOfC qual scope s.heap.objs.size f cd)
 N:=N
 s0:=s
 H₀:=H
 env:=envOfC qual scope s.heap.objs.size f cd
 outer:=outer
 stack:=envOfC qual scope s.heap.objs.size f cd::outer
 ex:=[]
 calm:=aq
 fn:=λ_=>aq
 pn:=[]
 xe:=λe s'=>bf (model P w) (A.deeper (envOfC qual scope s.heap.objs.size f cd)) (leaving (envOfC qual scope s.heap.objs.size f cd) e) (λ_ s''=>CX outer H s E e s'') (λe' s''=>CX outer H s E e' s'') s'
theorem acs{a:iU}{n:Nat}{x:Str}(h:a.names.lookup x=aa .cell):∃c,(sJ n a.names []).lookup x=aa c:=by
 have q:=ahH _ n [] (.inl h);exact uY.mp q
theorem akT{CX:uM}{P:dB}{w:cG}{K:aU}{mg:Str->Option aG}{base:cg}{N ps:009}{qual:Str}{scope:iU}{f:az}{m:aG}{A:dN}{outer:List Env}{s s1:aR}{H:Hp}{E:XK}{us:014}{vs:012}
  (S:gO N ps scope)(F:A.handled=ao)(d:BK P w K mg base A outer s H)(G:vs.length=ps.length)(r:Vals vs us)
  (x:InCallC s s.heap.objs.size (bindL (envOfC qual scope s.heap.objs.size f m).kindOf (ps.zip us) λ_=>ao) (sJ (s.heap.objs.size+1) scope.names []) (bindC (envOfC qual scope s.heap.objs.size f m).kindOf (ps.zip us) λ_=>ao) s1):
  Inv (xP CX P w K mg base N qual scope f m A outer s H E) [] (start N vs) H s1:=by
 have C:=by have:=congrArg ue S.pre;rw[GJ] at this;omega
 obtain⟨h1,J,rfl,o⟩:=x.done
 have n:∀b,b∉(xP CX P w K mg base N qual scope f m A outer s H E).ex:=λb z=>absurd (show b∈[] from z) bH
 refine⟨⟨d.mod,S.kind,rfl,rfl,bQ _,λy z c h1 h2=>?_,λy g=>?_,λy c _ h=>?_,λ_=>F,Around.frames_deeper d.frames,.inr ⟨rfl,rfl⟩,λb z=>absurd z (n b),d.bs,d.xV,λb _ _=>n b,λb z=>absurd z (n b),d.tG,d.Cq⟩,
  rfl,d.bare,Un.kept o,⟨_,x.toInCall.ns,λi y v h1 h2 I=>?_⟩,λy c h=>⟨_,x.cell y c h⟩,d.hok.fresh (bQ _),λy c h=>?_,λp j=>absurd (show p∈([]) from j) bH,d.hok.kept o,?_⟩
 .exact name_of_addr x.apart (zT h1) (zT h2)
 .rcases g with g|g
  .exact acs g
  .exact absurd rfl (S.apz _ (zT g))
 .exact yu (x.above y c (zT h))
 .have hi:i<vs.length:=by
   unfold start at h2;by_cases hi:i<vs.length
   .exact hi
   .rw[gh (by simpa using hi)] at h2;rw[Z2] at h2;split at h2<;>cases(h2)
  have D:vs[i]?=aa v:=by
   unfold start at h2;rw[gK (by simpa using hi),jr] at h2;cases e:vs[i]? with
   |none=>rw[e] at h2;cases(h2)
   |some a=>rw[e] at h2;cases(h2);rfl
  obtain⟨u,t,B⟩:=r.get D
  have j:ps[i]?=aa y:=by
   rwa [<-S.pre,List.getElem?_take_of_lt aD]
  have l:ps.Nodup:=by rw[<-S.pre];exact S.nd.sublist (aal _ _)
  refine#[u,B,?_]
  rcases S.par y (jY j) with k|k
  .exact .inl #[k,abO l j t k]
  .obtain⟨c,e⟩:=acs k
   refine .inr #[.inl k,c,e,?_];have q:=x.cell y c e
   rwa [abP l j t (by show scope.names.lookup y≠_;rw[k];decide)] at q
 .exact d.hok.fresh (yu (x.above y c (zT h)))
 .unfold start;show _=N.length;rw[eG,bC,wA];lia
theorem aqS{CX:uM}{P:dB}{w:cG}{K:aU}{mg:Str->Option aG}{base:cg}{k:Nat}{f:az}{name qual:Str}{params:Arguments}{body:List dF}{scope:iU}{F kV j G a ct X:aG}{D W:Option az}
  {B:Array (Option aG)}{N ps:009}{sp:Sp}(lk:K.lookup f=aa #[X,W,.func (wH name qual params body scope F kV j G D a ct),B])(p:Lh K a qual=aq)(S:gO N ps scope)
  (len:∀vs H Q E,sp vs H Q E->vs.length=ps.length)
  (d:∀(A:dN)(outer:List Env)(s:aR)(H:Hp)(vs:012)(Q:VK)(E:XK),dZ k (A.deeper (envOfC qual scope s.heap.objs.size f a))->sp vs H Q E->
   ∃t,jD (xP CX P w K mg base N qual scope f a A outer s H E) body t/\t {nx:=λ_ H'=>Q .non H',rt:=Q} (start N vs) H):
  dG P w K mg base CX (k+1) f (wH name qual params body scope F kV j G D a ct) ps sp:=by
 refine#[len,λA outer s H M us vs Q E C h O r l=>?_]
 have U:=len _ _ _ _ l;have L:=h.mod.Rg.keeps λb o e=>(h.bs b o e).1
 have z:=h.mod.nolimit.keeps λb o e=>(h.bs b o e).1
 have c:∀y∈ps.zip us,scope.names.lookup y.1=aa _\/(scope.names.lookup y.1=aa _/\((sJ (s.heap.objs.size+1) _ []).lookup y.1).isSome=aq):=λ⟨n,v⟩ T=>by
  rcases S.par n (Tc T).1 with q|q
  .exact .inl q
  .exact .inr #[q,ahH _ _ _ (.inl q)]
 refine codeAny_call_function C.depth (L _ _ lk) rfl S.co S.gen rfl (PySem.W.codeRec_of L p) (O _ _ _ _ (wpAny_newFunctionEnv_cells S.kind c λaj he s1 x=>?_));subst he
 refine#[z.keeps x.toInCall.keep,codeAny_func ?_]
 obtain⟨t,Y,Z⟩:=d A _ s H vs Q E (C.deeper _) l
 have I:Inv (xP CX P w K mg _ N qual _ f a A _ s H E) [] _ H s1:=akT S C.hd h U r x;refine qY (Y [] s1 _ H _ I Z) (λR s' g=>?_) λe s' g=>g
 have i:∀{F':St}{H':Hp}{v:V}{u:aG},Inv (xP CX P w K mg base N qual scope f a A _ s H E) [] F' H' s'->RelV v u->Q v H'->CE outer P w H s Q u s':=
  λ{F' H' v u} J m q=>#[v,H',J.os,J.bare,J.base,J.hok,m,q]
 cases R with
 |ret u=>
  obtain⟨v,F',H',J,m,q⟩:=g
  exact i J m q
 |next=>
  obtain⟨F',H',J,q⟩:=g
  exact i (v:=V.non) J rfl q
 |brk=>
  obtain⟨_,_,_,q⟩:=g
  grind
 |cont=>
  obtain⟨_,_,_,q⟩:=g
  trivial
section
variable{X:Cx}{x:Str}{p pos:Pos}{e:Expr}{es:List Expr}{t:TA}{id T:String}{r:List V->Hp->VK->Prop}
def Rn(r:List V->Hp->VK->Prop)(t:TA):TE:=λσ H Q=>t σ H λvs H1=>r vs H1 Q
theorem Mw(j:gF X (.builtin id) r)(l:Gl X x)(d:X.mg x=ao)(c:uc x=aa (.builtin id))(f:PA X (e::es) t)(k:x≠"__name__":=by decide)(b:(x==("__debug__":Str))=aH:=by decide)
  (m:bI (e::es) X.env=006::bI es X.env:=by rfl)(a:(eN pos (bI es X.env)).any (·.1)=aH:=by rfl):PE X (.Call (.Name x p) (e::es) [] pos) (Rn r t):=by
 intro aA s σ H Q I h;exact Gv (El I l d c (aht (bY (f _ _ s σ H _ I h) λus s1 ⟨vs,H1,g,i,n⟩=>j _ s1 σ H1 vs us Q g i n) m a) k b)
theorem abQ(j:gF X (.type T) r)(l:Gl X x)(d:X.mg x=ao)(c:uc x=aa (.type T))(f:PA X (e::es) t)(k:x≠"__name__":=by decide)(b:(x==("__debug__":Str))=aH:=by decide)
  (m:bI (e::es) X.env=006::bI es X.env:=by rfl)(a:(eN pos (bI es X.env)).any (·.1)=aH:=by rfl):PE X (.Call (.Name x p) (e::es) [] pos) (Rn r t):=by
 intro aA s σ H Q I h;exact Gv (El I l d c (ZQ (bY (f _ _ s σ H _ I h) λus s1 ⟨vs,H1,g,i,n⟩=>j _ s1 σ H1 vs us Q g i n) m a) k b)
end
end L2
namespace HT
open PySem PyProof.Rows
section
open PySem.SeqAt
open PySem.AutoSeq1 (wpAny_loadPart')
open PySem.MeetsSeq PySem.MeetsSeq2 PySem.MeetsSeq3
end
section
variable{prog:dB}{w:cG}{A:dN}{E:aG->aR->Prop}{s:aR}
theorem anL(o:IsTup s.heap t vs.toArray)(m:IsTup s.heap b ws.toArray)(r:vs≠[])
  (h1:ws=[]->Q (.ref t) s)(h2:ws≠[]->Q (.ref s.heap.objs.size) {s with heap:=s.heap.push {cls:=.type "tuple",data:=.seq (vs++ws).toArray}})
  (p:vs.length+ws.length<=cz):bf 000 A (rm .Add (.ref t) (.ref b)) Q E s:=by
 obtain⟨⟨cls,g,data,sl⟩,e,i,n,j⟩:=id o
 obtain⟨⟨h,k,f,l⟩,a,d,n2,c⟩:=id m
 simp only at i j d c;subst i j d c;by_cases q:ws=[]
 .exact aa4 #[_,e,rfl] #[_,a,rfl] aaw aaZ Z5 Z3 (Z0 _ _)
   (tuple_addW1 t b _ _ n n2 g _ sl _ 002 002) #[e,a,h1 q]
 .refine aa4 #[_,e,rfl] #[_,a,rfl] aaw aaZ Z5 Z3 (Z0 _ _)
   (tuple_addW2 t b _ _ n n2 g _ sl _ 002 002 002) #[e,a,?_]
  grind
def eX(n d:Nat):Option Int->Nat
 |none=>d
 |some v=>if v<0 then(v+(n:Int)).toNat else min v.toNat n
theorem anM(n d k:Nat):eX n d (aa (k:Int))=min k n:=rfl
theorem adu(v:Int)(n d:Nat):(if v<0 then max (v+(n:Int)) 0 else min v (n:Int))=((eX n d (aa v):Nat):Int):=by
 show(if v<0 then max _ 0 else min v _)=((if v<0 then(v+(n:Int)).toNat else min v.toNat n):Nat)
 grind
theorem akh(lo hi:Option Int)(n:Nat):ZS lo hi 1 (n:Int)=(((eX n 0 lo:Nat):Int),((eX n n hi:Nat):Int)):=by
 unfold ZS;refine Prod.ext ?_ ?_
 .cases lo with
  |none=>rfl
  |some v=>exact adu v n 0
 .cases hi with
  |none=>rfl
  |some v=>exact adu v n n
theorem aki(i j:Nat):ZV (i:Int) (j:Int) 1=j-i:=by
 unfold ZV
 grind
theorem abv(p:vD v o)(h:Q o s):bf 000 A (atp v) Q E s:=by
 cases p with
 |none=>exact slicePart_none h
 |int i t=>exact slicePart_int h
theorem aax{sl:az}{lo hi:Option Int}{n:Nat}(c:s.heap.IsSliceOf sl vl vu .none)(pl:vD vl lo)(e:vD vu hi)
  (h:Q (((eX n 0 lo:Nat):Int),1,eX n n hi-eX n 0 lo) s):bf 000 A (atr (.ref sl) (pure (n:Int))) Q E s:=by
 obtain⟨f,b,d,a⟩:=id c
 refine aJ (aJ (T9 b a (x:=vl) rfl (aJ (T9 b a (x:=vu) rfl (aJ (T9 b a (x:=.none) rfl (bu (aJ (slicePart_none (aJ (abv pl (aJ (abv e (aJ (bu ?_)))))))))))))));show bf _ _ (match ZS lo hi 1 _ with|(lo,hi)=>pure (lo,(1:Int),ZV lo hi 1)) _ _ s;rw[akh lo hi n];show bf _ _ (pure _) _ _ s;rw[aki];exact bu h
theorem al3(xs:Array aG)(i k:Nat):((gj k).filterMap λ(m:Nat)=>xs[((i:Int)+(m:Int)*1).toNat]?).toArray=((xs.toList.drop i).take k).toArray:=by
 have e:(λ(m:Nat)=>xs[(i+(m:Int)*1).toNat]?)=λm=>xs[i+m]?:=by grind
 rw[e];have:=pick_run xs i k;have e2:((λx=>xs[x]?) ∘ λx=>i+x)=λm=>xs[i+m]?:=rfl
 simp_all
theorem aiz{t sl:az}{g j:aG}{lo hi:Option Int}(a:IsTup s.heap t items)(i:s.heap.IsSliceOf sl g j .none)(pl:vD g lo)(k:vD j hi)
  (o:¬(eX items.size 0 lo=0/\eX items.size items.size hi=items.size))
  (h:Q (.ref s.heap.objs.size) {s with heap:=s.heap.push {cls:=.type "tuple",data:=.seq ((items.toList.drop (eX items.size 0 lo)).take (eX items.size items.size hi-eX items.size 0 lo)).toArray}})
  (m:items.size<=cz):bf 000 A (yD (.ref t) (.ref sl)) Q E s:=by
 have e:=by
  show((items.toList.drop (eX items.size 0 lo)).take (eX items.size items.size hi-eX items.size 0 lo)).toArray.size<=cz
  grind
 obtain⟨l,c,b,n⟩:=id i
 have f:s.TypeIs (.ref sl) _:=#[l,c,b]
 unfold yD
 try with_reducible refine pJ ?_
 refine aJ (aiA a.typeIs (rfl) (aJ (wz a.typeIs Ry
  (mO Ry a.typeIs entry_tuple_getitem ?_ (args_tuple_getitem _ _)))))
 show bf _ _ (ZR _ >>= _) _ _ s;refine aJ (tupleItemsOf_ a (aJ (Hr f (aJ (aax i pl k ?_)))));have d:¬((((eX items.size 0 lo):Int)==0&&(1:Int)==1&&(eX items.size items.size hi-eX items.size 0 lo)==items.size)=aq):=by lia
 show bf _ _ (if(((eX _ 0 lo):Int)==0&&1==1&&(eX _ _ hi-eX _ 0 lo)==items.size)=aq then _ else _) _ _ s;rw[bK d,al3]
 (exact aJ (nF (bu #[_,rfl,bu h]) e))
end
end HT
namespace L2
open PySem PySem.Spec PyProof.Rows
abbrev TO:=St->Hp->(Option Int->Hp->Prop)->Prop
def PO(X:Cx)(e:Option Expr)(t:TO):Prop:=
 ∀(aA:004)(s:aR)(σ:St)(H:Hp)(Q:Option Int->Hp->Prop),Inv X aA σ H s->t σ H Q->
  bf 05 X.A (evalPart e X.env) (λu s'=>∃o H',Inv X aA σ H' s'/\vD u o/\Q o H') X.xe s
def anN:TO:=λ_ H Q=>Q ao H
def aqU(t:TE):TO:=λσ H Q=>t σ H λx H1=>∃i,x=.int i/\Q (aa i) H1
theorem intsAre_of:∀{us:014},Vals (ns.map V.int) us->IntsAre us ns:=by
 induction ns with
 |nil=>intro us r;cases r;exact .nil
 |cons n ns ih=>
  intro us r;cases r with
  |cons r1 r2=>
   obtain⟨t,e⟩:=r1
   subst e;exact .cons n t (ih r2)
section
variable{X:Cx}{e:Expr}{te:TE}{lo hi:Option Expr}
theorem anO:PO X ao anN:=by
 intro aA s σ H Q I h;exact bu #[_,H,I,.none,h]
theorem anP(h:PE X e te):PO X (aa e) (aqU te):=by
 intro aA s σ H Q I d;refine bY (h _ s σ H _ I d) λu s1 g=>?_
 refine hide λj c=>?_
 obtain⟨x,H1,a,b,f⟩:=g
 obtain⟨i,rfl,q⟩:=f
 obtain⟨t,rfl⟩:=b
 exact c (#[_,H1,a,.int i t,q])
def xW(X:Cx)(r:V->Option Int->Option Int->Hp->VK->Prop):Prop:=
 ∀(aA:004)(s:aR)(σ:St)(H:Hp)(x:V)(v vl vu:aG)(lo hi:Option Int)(sl:az)(Q:VK),Inv X aA σ H s->RelV x v->s.heap.IsSliceOf sl vl vu .none->vD vl lo->vD vu hi->r x lo hi H Q->
  ∃T id,typeLookup (.type T) "__getitem__"=pure (aa (.builtin id))/\s.TypeIs v T/\bf 05 X.A (yD v (.ref sl)) (EP X aA σ Q) X.xe s
theorem xW.or(h:xW X r)(h':xW X r'):xW X (λx lo hi H Q=>r x lo hi H Q\/r' x lo hi H Q):=by
 intro aA s σ H x v b d lo hi sl Q I rx c pl a q;rcases q with q|q
 .exact h _ s σ H x v b d lo hi sl Q I rx c pl a q
 .exact h' _ s σ H x v b d lo hi sl Q I rx c pl a q
def tSl(r:V->Option Int->Option Int->Hp->VK->Prop)(te:TE)(tl th:TO):TE:=λσ H Q=>te σ H λx H1=>tl σ H1 λl H2=>th σ H2 λu H3=>r x l u H3 Q
theorem al4{r:V->Option Int->Option Int->Hp->VK->Prop}(w:xW X r)(G:PE X e te)(t:PO X lo tl)(m:PO X hi th):PE X (.Subscript e (.Slice lo hi ao p2) pos) (tSl r te tl th):=by
 intro aA s σ H Q I h;refine Subscript_ (bY (G _ s σ H _ I h) λv s1 c=>hide λD a=>?_)
 obtain⟨x,H1,p,C,J⟩:=c
 refine a (wpAny_Slice (bY (t _ s1 σ H1 _ p J) λd n ⟨l,H2,k,pl,o⟩=>bY (m _ n σ H2 _ k o) λf g c=>hide λD a=>?_))
 obtain⟨u,i,z,j,E⟩:=c
 refine a (bu ?_);have B:Inv X _ σ i {g with heap:=g.heap.push {cls:=.type "slice",data:=.fields #v[d,f,.none]}}:=z.kept λb K q=>cX _ q
 obtain⟨T,id,A,y,F⟩:=w _ _ σ i x v d f l u _ Q B C (ail ..) pl j E
 exact tail_any y A F (rfl)
def xQ(xs:012)(lo hi:Option Int):List V:=(xs.drop (HT.eX xs.length 0 lo)).take (HT.eX xs.length xs.length hi-HT.eX xs.length 0 lo)
theorem abh(xs:012)(lo hi:Option Int):(xQ xs lo hi).length<=xs.length:=by
 unfold xQ
 grind
def art(K:aU):V->Option Int->Option Int->Hp->VK->Prop:=λx lo hi H Q=>∃a xs,x=.ref a/\dH K H a xs/\
 ¬(HT.eX xs.length 0 lo=0/\HT.eX xs.length xs.length hi=xs.length)/\∀p,H p=ao->Q (.ref p) (upd H p (.tup (xQ xs lo hi)))
theorem apA:xW X (art X.K):=by
 intro aA s σ H x v m n lo hi sl Q I rx i pl f h;refine hide λo j=>?_
 obtain⟨a,xs,rfl,k,p,q⟩:=h
 cases rx
 obtain⟨e,r,d,g⟩:=I.tuple k
 have c:e.toArray.size=xs.length:=r.length.symm;refine j (#[_,_,PyProof.Rows.slot_tuple_getitem.lookup,d.typeIs,HT.aiz d i pl f 002 ?_ 002]);rw[c]
 refine#[.ref _,_,I.laid (λb l q=>cX _ q) (bQ _) ?_,rfl,q _ (I.hok.fresh (bQ _))]
 exact#[jl (abh xs lo hi) g,_,(r.drop _).take _,IsTup.new _ _]
def afB(K:aU):R2:=λx y H Q=>∃a b xs ys,x=.ref a/\y=.ref b/\dH K H a xs/\dH K H b ys/\xs≠[]/\xs.length+ys.length<=cz/\
 (ys=[]->Q (.ref a) H)/\(ys≠[]->∀p,H p=ao->Q (.ref p) (upd H p (.tup (xs++ys))))
theorem Vals.Wo(r:Vals xs us):us=[]↔xs=[]:=by
 cases r with
 |nil=>simp
 |cons _ _=>simp
theorem anQ:dR X (rm .Add) (afB X.K):=by
 intro aA s σ H x y v u Q I rx l h;refine hide λr j=>?_
 obtain⟨a,b,xs,ys,rfl,rfl,f,g,k,p,m,i⟩:=h
 cases rx;cases l
 obtain⟨o,d,p1,_⟩:=I.tuple f
 obtain⟨e,c,p2,_⟩:=I.tuple g
 refine j (HT.anL p1 p2 (λz=>k (d.Wo.mp z)) (λz=>#[.ref a,H,I,rfl,m (c.Wo.mp z)]) (λz=>#[.ref _,_,I.laid (λb n q=>cX _ q) (bQ _) ?_,rfl,i (λw=>z (c.Wo.mpr w)) _ (I.hok.fresh (bQ _))]) (by rwa [<-d.length,<-c.length]))
 exact#[by grind,_,d.append c,IsTup.new _ _]
end
noncomputable def nu (n:Nat) (i:Int):Option Nat:=if 0<=i then(if i<n then aa i.toNat else ao) else if -(n:Int)<=i then aa (i+n).toNat else ao
noncomputable def fG {α:Type} (xs:List α) (i:Int):Option α:=(nu xs.length i).bind λj=>xs[j]?
theorem adw(h:nu n i=aa j):seqIndex? i n=aa j/\j<n/\-(n:Int)<=i/\i<n:=by
 unfold nu at h;by_cases a:0<=i
 .rw[bG a] at h;by_cases h1:i<n
  .rw[bG h1] at h;have e:=lY h
   exact#[by rw[abi a h1,e],aD,aD,h1]
  grind
 .rw[bK a] at h;by_cases h1:-n<=i
  .rw[bG h1] at h;have e:=lY h
   exact#[by rw[aa5 aD h1,e],aD,h1,aD]
  grind
theorem Wq{xs:List α}{v:α}(h:fG xs i=aa v):∃j,seqIndex? i xs.length=aa j/\xs[j]?=aa v/\j<xs.length/\-(xs.length:Int)<=i/\i<xs.length:=by
 unfold fG at h;cases e:nu _ i with
 |none=>rw[e] at h;cases h
 |some j=>
  rw[e] at h
  obtain⟨h1,h2,a,b⟩:=adw e
  grind
theorem yE{xs:List α}{j:Nat}{v:α}(h:xs[j]?=aa v):fG xs (j:Int)=aa v:=by
 have a:=(jk.mp h).1;have e:nu xs.length j=aa j:=by
  unfold nu;simp_all
 unfold fG;rwa [e]
theorem acu(xs:List α)(v:α):fG (xs++[v]) (-1)=aa v:=by
 have a:(xs++[v]).length=xs.length+1:=bH;have e:nu (xs++[v]).length (-1)=aa xs.length:=by
  unfold nu
  grind
 unfold fG
 grind
def Im(b:Expr):Prop:=∀o i,abj b aH o i=operate [o,i] (yD o i)
def tQ(X:Cx)(r:R2):Prop:=
 ∀(value slice:Expr)(aA:004)(s:aR)(σ:St)(H:Hp)(x y:V)(v u:aG)(Q:VK),Inv X aA σ H s->RelV x v->RelV y u->r x y H Q->
  abj slice aH v u=operate [v,u] (yD v u)->bf 05 X.A (subscriptTail value slice v u) (EP X aA σ Q) X.xe s
def MtR(X:Cx)(id:String)(r:V->List V->Hp->VK->Prop):Prop:=
 ∀(aA:004)(s:aR)(σ:St)(H:Hp)(x:V)(xs:012)(v:aG)(us:014)(Q:VK),Inv X aA σ H s->RelV x v->Vals xs us->r x xs H Q->
  bf 05 X.A (call (.builtin id) (v::us)) (EP X aA σ Q) X.xe s
section
variable{X:Cx}{a b:Expr}{ta tb:TE}{pos:Pos}
theorem tQ.or(h:tQ X r)(h':tQ X r'):tQ X (λx y H Q=>r x y H Q\/r' x y H Q):=by
 intro value slice aA s σ H x y v u Q I rx b q a;rcases q with q|q
 .exact h _ _ _ s σ H x y v u Q I rx b q a
 .exact h' _ _ _ s σ H x y v u Q I rx b q a
theorem O9(i:tQ X r)(e:PE X a ta)(f:PE X b tb)(g:Im b):PE X (.Subscript a b pos) (J9 r ta tb):=by
 intro aA s σ H Q I h;exact Subscript_ (YZ e f I h λv u d x y H2 c rx j q=>i a b _ d σ H2 x y v u Q c rx j q (g _ _))
def agb(K:aU):R2:=λx y H Q=>∃p xs i v,x=.ref p/\y=.int i/\b7 K H p xs/\fG xs i=aa v/\Q v H
def agc(K:aU):R2:=λx y H Q=>∃p xs i v,x=.ref p/\y=.int i/\dH K H p xs/\fG xs i=aa v/\Q v H
def agd:R2:=λx y H Q=>∃z i c,x=.str z/\y=.int i/\z.length<=cz/\fG z.cps.toList i=aa c/\Q (.str #[#v[c]]) H
theorem Wr:tQ X (agb X.K):=by
 intro value slice aA s σ H x y v u Q I rx m h c;refine hide λD d=>?_
 obtain⟨p,xs,i,z,rfl,rfl,l,n,q⟩:=h
 cases rx
 obtain⟨t,rfl⟩:=m
 obtain⟨f,r,pl,A⟩:=I.list l
 obtain⟨j,h1,h2,C,g,k⟩:=Wq n
 obtain⟨w,E,b⟩:=r.get h2
 have B:=r.length;have F:=Bb;have a:EP X _ σ Q w s:=#[z,H,I,b,q]
 by_cases e:0<=i
 .have o:=by
   rw[abi e k] at h1;exact lY h1
  exact d (item_listR pl.isList e aD 002 a c)
 .have o:(i+f.toArray.size).toNat=j:=by
   rw[aa5 aD g] at h1
   grind
  exact d (subscriptTail_builtinR pl.isList.typeIs slot_list_getitem.lookup
   (wpAny_getItem_list_neg pl.isList aD (by grind) aD (by grind) ⟨rfl,a⟩) c)
theorem apB:tQ X (agc X.K):=by
 intro value slice aA s σ H x y v u Q I rx g h c;refine hide λA f=>?_
 obtain⟨p,xs,i,z,rfl,rfl,e,k,q⟩:=h
 cases rx
 obtain⟨t,rfl⟩:=g
 obtain⟨l,r,pl,m⟩:=I.tuple e
 obtain⟨j,h1,h2,n,o,C⟩:=Wq k
 obtain⟨w,B,b⟩:=r.get h2
 have d:=r.length;have D:=Bb;have a:EP X _ σ Q w s:=#[z,H,I,b,q]
 exact f (subscriptTail_builtinR pl.typeIs slot_tuple_getitem.lookup
  (getItem_tuple pl aD aD (by rwa [oX,<-d]) (by grind) ⟨rfl,a⟩) c)
theorem apC:tQ X agd:=by
 intro value slice aA s σ H x y v u Q I rx f h a;refine hide λo e=>?_
 obtain⟨z,i,c,rfl,rfl,m,g,q⟩:=h
 obtain⟨t,rfl⟩:=rx
 obtain⟨l,rfl⟩:=f
 obtain⟨j,h1,h2,n,k,d⟩:=Wq g
 have b:z.cps.toList.length=z.length:=rfl;rw[b] at h1 k d;have p:=Bb;exact e (tail_any (abw s z t) slot_str_getitem.lookup (getItem_str (by lia) 002 #[.str _,H,I.tok _,001,q]) a)
def rIx(K:aU):R2:=λx y H Q=>agb K x y H Q\/agc K x y H Q\/agd x y H Q
theorem apD:tQ X (rIx X.K):=Wr.or (apB.or apC)
theorem akj(aK:014)(n j:Nat)(u:aG):oZ (·.setIfInBounds j u) {cls:=.type "list",data:=.seq aK.toArray n}={cls:=.type "list",data:=.seq (aK.set j u).toArray n}:=by
 simp[oZ]
theorem Inv.lst{aA:004}{σ:St}{H:Hp}{s:aR}{p:az}{xs:012}(I:06)(h:H p=aa (.lst xs)):
  ∃(aK:014)(n:Nat),Vals xs aK/\s.heap.get? p=aa {cls:=.type "list",data:=.seq aK.toArray n}/\xs.length<=cz:=by
 obtain⟨z,aK,n,r,e⟩:=I.hok p _ h
 grind
theorem Inv.apE{σ:St}{H:Hp}{s:aR}{p:az}{aK its':014}{n a:Nat}{f:Obj->Obj}(I:06)(h:H p=aa (.lst xs))
  (g:s.heap.get? p=aa {cls:=.type "list",data:=.seq aK.toArray n})(c:f {cls:=.type "list",data:=.seq aK.toArray n}={cls:=.type "list",data:=.seq its'.toArray a})(r:Vals ys its')(hz:ys.length<=cz)(t:Nat):
  Inv X aA σ (upd H p (.lst ys)) {s with heap:=s.heap.update p f,toks:=t}:=by
 have e:(s.heap.update p f).get? p=aa {cls:=.type "list",data:=.seq its'.toArray a}:=by
  rw[zR f g (by rw[c]<;>rfl),c]
 refine I.write (by rw[h];trivial) (.inl rfl) (λb u d q=>(RV _ _ (jK d)).trans q) #[_,e] ?_
 exact#[hz,_,a,r,e]
def Yo:V->V->V->Hp->(Hp->Prop)->Prop:=λo i v H Q=>∃p xs k j,o=.ref p/\i=.int k/\H p=aa (.lst xs)/\nu xs.length k=aa j/\Q (upd H p (.lst (xs.set j v)))
theorem set_list:xO X Yo:=by
 intro aA s σ H o i v F z u Q I l x e h;refine hide λD c=>?_
 obtain⟨p,xs,k,j,rfl,rfl,b,y,q⟩:=h
 cases l
 obtain⟨t,rfl⟩:=x
 obtain⟨f,n,r,a,B⟩:=I.lst b
 obtain⟨h1,h2,m,w⟩:=adw y
 have C:=r.length;have E:=Bb;have A:=
  I.apE b a (akj _ n j u) (r.set e j) 002 s.toks
 by_cases d:0<=k
 .have g:=by
   rw[abi d w] at h1;exact lY h1
  exact c (PySem.W.ki_setAt a d aD 002 002)
 .have g:(k+f.toArray.size).toNat=j:=by
   rw[aa5 aD m] at h1
   grind
  exact c (PySem.W.ki_setBack a aD 002 aD 002)
theorem ajG(lo hi:Option Int)(n:Nat):(LK lo hi ao n).1=((HT.eX n 0 lo:Nat):Int)/\(LK lo hi ao n).2.1=((HT.eX n n hi:Nat):Int)/\(LK lo hi ao n).2.2=1:=by
 refine#[?_,?_,rfl]
 .cases lo with
  |none=>trivial
  |some i=>
   simp only[LK,HT.eX,aiQ,show(1:Int)>0 by decide,if_true]
   grind
 .cases hi with
  |none=>rfl
  |some i=>
   simp only[LK,HT.eX,aiQ,show(1:Int)>0 by decide,if_true]
   grind
theorem ajp(aK:014)(lo hi:Option Int):UL aK.toArray lo hi ao=((aK.drop (HT.eX aK.length 0 lo)).take (HT.eX aK.length aK.length hi-HT.eX aK.length 0 lo)).toArray:=by
 obtain⟨h1,h2,a⟩:=ajG lo hi _
 unfold UL;rw[h1,h2,a];simp only[sliceRange_one,pick_run,oX]
def aru(K:aU):V->Option Int->Option Int->Hp->VK->Prop:=λx lo hi H Q=>∃a xs,x=.ref a/\b7 K H a xs/\∀p,H p=ao->Q (.ref p) (upd H p (.lst (xQ xs lo hi)))
theorem anR:xW X (aru X.K):=by
 intro aA s σ H x v m n lo hi sl Q I rx g pl e h;refine hide λo i=>?_
 obtain⟨a,xs,rfl,j,q⟩:=h
 cases rx
 obtain⟨l,r,d,f⟩:=I.list j
 have c:=r.length;refine i (#[_,_,slot_list_getitem.lookup,d.isList.typeIs,ahB d.isList g pl e .none bH ?_ 002]);rw[ajp,<-c]
 refine#[.ref _,_,I.laid (λb k q=>cX _ q) (bQ _) ?_,rfl,q _ (I.hok.fresh (bQ _))]
 exact#[jl (abh xs lo hi) f,_,0,(r.drop _).take _,fV _ rfl]
def rF:V->Bool
 |.non=>aq
 |.bl _=>aq
 |.int _=>aq
 |.str _=>aq
 |_=>aH
def uN:V->V->Bool
 |.non,.non=>aq
 |.bl a,.bl b=>a==b
 |.bl a,.int b=>(if a then 1 else 0)==b
 |.int a,.bl b=>a==(if b then 1 else 0)
 |.int a,.int b=>a==b
 |.str a,.str b=>a==b
 |_,_=>aH
theorem XF(e:RelV y u)(rx:RelV x v)(f:rF y=aq)(d:rF x=aq):wJ A s u v (uN y x):=by
 cases y with
 |non=>
  cases e;cases x with
  |non=>cases rx;exact SX _
  |bl b=>cases rx;exact SeqAt.EqAt.none_bool b
  |int b=>obtain⟨t,rfl⟩:=rx;exact SeqAt.EqAt.none_int b t
  |str b=>obtain⟨t,rfl⟩:=rx;exact SeqAt.EqAt.none_str b t
  |_=>exact absurd (show aH=aq from d) lC
 |bl a=>
  cases e;cases x with
  |non=>cases rx;exact SeqAt.EqAt.bool_none a
  |bl b=>cases rx;exact ahU a b
  |int b=>obtain⟨t,rfl⟩:=rx;exact ah8 a b t
  |str b=>obtain⟨t,rfl⟩:=rx;exact aia a b t
  |_=>exact absurd (show aH=aq from d) lC
 |int a=>
  obtain⟨c,rfl⟩:=e
  cases x with
  |non=>cases rx;exact SeqAt.EqAt.int_none a c
  |bl b=>cases rx;exact ah7 a c b
  |int b=>obtain⟨t,rfl⟩:=rx;exact SeqAt.EqAt.int_int a c b t
  |str b=>obtain⟨t,rfl⟩:=rx;exact aif a c b t
  |_=>exact absurd (show aH=aq from d) lC
 |str a=>
  obtain⟨c,rfl⟩:=e
  cases x with
  |non=>cases rx;exact SeqAt.EqAt.str_none a c
  |bl b=>cases rx;exact ah9 a c b
  |int b=>obtain⟨t,rfl⟩:=rx;exact aih a c b t
  |str b=>obtain⟨t,rfl⟩:=rx;exact SeqAt.EqAt.str_str a c b t
  |_=>exact absurd (show aH=aq from d) lC
 |_=>exact absurd (show aH=aq from f) lC
def Cv(x:V)(u:aG):Bool:=match u with
 |.none=>uN .non x
 |.bool b=>uN (.bl b) x
 |.int i _=>uN (.int i) x
 |.str z _=>uN (.str z) x
 |_=>aH
theorem aew(r:RelV y u)(f:rF y=aq):Cv x u=uN y x:=by
 cases y with
 |non=>cases r;rfl
 |bl b=>cases r;rfl
 |int i=>obtain⟨t,rfl⟩:=r;rfl
 |str z=>obtain⟨t,rfl⟩:=r;rfl
 |_=>trivial
theorem Io:∀{xs:012}{us:014},Vals xs us->xs.all rF=aq->us.any (Cv x)=xs.any λy=>uN y x
 |_,_,.nil,_=>rfl
 |y::xs,u::us,.cons r t,f=>by
  rw[Dl,jc] at f;rw[yt,yt,aew r f.1,Io t f.2]
theorem HX(rx:RelV x v)(b:rF x=aq):∀{xs:012}{us:014},Vals xs us->xs.all rF=aq->∀u∈us,wJ A s u v (Cv x u)
 |_,_,.nil,_=>λu a=>by grind
 |y::xs,u::us,.cons r t,f=>λc a=>by
  rw[Dl,jc] at f;rcases cC.mp a with rfl|a
  .rw[aew r f.1];exact XF r rx f.1 b
  .exact HX rx b t f.2 c a
def inV(x:V)(xs:012):Bool:=xs.any λy=>uN y x
def Ro(K:aU)(neg:Bool):R2:=λx y H Q=>∃p xs,y=.ref p/\(b7 K H p xs\/dH K H p xs)/\rF x=aq/\xs.all rF=aq/\Q (.bl (if neg then !inV x xs else inV x xs)) H
theorem akU:dR X (gG .In) (Ro X.K aH):=by
 intro aA s σ H x y v u Q I rx f h;refine hide λi d=>?_
 obtain⟨p,xs,rfl,b,c,fs,q⟩:=h
 cases f;rcases b with b|b
 .obtain⟨a,r,pl,e⟩:=I.list b
  refine d (ai2 _ pl.isList (λw g=>HX rx c r fs w 002) #[.bl _,H,I,rfl,?_])
  rwa [show a.toArray.any _=a.any (Cv x) by simp,Io r fs]
 .obtain⟨a,r,pl,e⟩:=I.tuple b
  refine d (SeqAt.in_tupleAt _ pl (λw g=>HX rx c r fs w 002) #[.bl _,H,I,rfl,?_])
  rwa [show a.toArray.any _=a.any (Cv x) by simp,Io r fs]
theorem ajH:dR X (gG .NotIn) (Ro X.K aq):=by
 intro aA s σ H x y v u Q I rx f h;refine hide λi d=>?_
 obtain⟨p,xs,rfl,b,c,fs,q⟩:=h
 cases f;rcases b with b|b
 .obtain⟨a,r,pl,e⟩:=I.list b
  refine d (aim _ pl.isList (λw g=>HX rx c r fs w 002) #[.bl _,H,I,rfl,?_])
  rwa [show a.toArray.any _=a.any (Cv x) by simp,Io r fs]
 .obtain⟨a,r,pl,e⟩:=I.tuple b
  refine d (SeqAt.notIn_tupleAt _ pl (λw g=>HX rx c r fs w 002) #[.bl _,H,I,rfl,?_])
  rwa [show a.toArray.any _=a.any (Cv x) by simp,Io r fs]
theorem aa6:gF X (.builtin "len") (λxs H Q=>∃p ys,xs=[.ref p]/\(b7 X.K H p ys\/dH X.K H p ys)/\Q (.int ys.length) H):=by
 intro aA s σ H xs us Q I r h;refine hide λg d=>?_
 obtain⟨p,ys,rfl,b,q⟩:=h
 obtain⟨u,rfl,rx⟩:=vals1 r
 cases rx;have i:=Bb;rcases b with b|b
 .obtain⟨e,c,pl,f⟩:=I.list b
  have a:=c.length;exact d (Calls.call_len_list pl.isList 002 #[.int _,H,I.tok _,#[_,by rw[oX,a]],q])
 .obtain⟨e,c,pl,f⟩:=I.tuple b
  have a:=c.length;exact d (len_tuple pl 002 #[.int _,H,I.tok _,#[_,by rw[oX,a]],q])
theorem ajI:gF X (.builtin "len") (λxs H Q=>∃z,xs=[.str z]/\z.length<=cz/\Q (.int z.length) H):=by
 intro aA s σ H xs us Q I r h
 obtain⟨z,rfl,a,q⟩:=h
 obtain⟨u,rfl,t,rfl⟩:=vals1 r
 have b:=Bb;exact len_str aD #[.int _,H,I.tok _,001,q]
theorem gF.or(h:gF X f r)(h':gF X f r'):gF X f (λxs H Q=>r xs H Q\/r' xs H Q):=by
 intro aA s σ H xs us Q I a q;rcases q with q|q
 .exact h _ s σ H xs us Q I a q
 .exact h' _ s σ H xs us Q I a q
theorem ajJ:gF X (.type "list") (λxs H Q=>∃p ys,xs=[.ref p]/\(b7 X.K H p ys\/dH X.K H p ys)/\∀l,H l=ao->Q (.ref l) (upd H l (.lst ys))):=by
 intro aA s σ H xs us Q I r h;refine hide λw v=>?_
 obtain⟨p,ys,rfl,i,q⟩:=h
 obtain⟨u,rfl,rx⟩:=vals1 r
 cases rx;have g:∀(j:List _),Vals ys j->ys.length<=cz->∀(h':cg)(c:Nat),(∀b o',s.heap.get? b=aa o'->h'.get? b=aa o')->
   h'.get? _=aa _->EP X _ σ Q _ _:=λj a f h' c kp e=>
  #[.ref _,_,I.laid (t':=s.toks) kp (bQ _) (show kO _ _ _ h' _ (.lst ys) from#[f,_,c,a,e]),rfl,q _ (I.hok.fresh (bQ _))]
 rcases i with i|i
 .obtain⟨j,a,pl,f⟩:=I.list i
  have d:=a.length
  obtain⟨o,k,m,n,t⟩:=pl.isList
  exact v (call_list_seq p (.inl rfl) k m t (λh' c kp e=>g _ a f h' c kp e) 002)
 .obtain⟨j,a,pl,f⟩:=I.tuple i
  have d:=a.length
  obtain⟨o,k,m,n,t⟩:=pl
  exact v (call_list_seq p (.inr rfl) k m t (λh' c kp e=>g _ a f h' c kp e) 002)
theorem ajq:gF X (.type "tuple") (λxs H Q=>∃p ys,xs=[.ref p]/\((b7 X.K H p ys/\∀l,H l=ao->Q (.ref l) (upd H l (.tup ys)))\/(dH X.K H p ys/\Q (.ref p) H))):=by
 intro aA s σ H xs us Q I r h;refine hide λk g=>?_
 obtain⟨p,ys,rfl,h⟩:=h
 obtain⟨u,rfl,rx⟩:=vals1 r
 cases rx;rcases h with⟨hq,q⟩|⟨hq,q⟩
 .obtain⟨i,a,pl,d⟩:=I.list hq
  have c:=a.length;refine g (call_tuple_list pl.isList (λh' kp=>?_) 002);have f:=I.kept (t':=s.toks) kp;have j:=
   f.laid (t':=s.toks) (λb o e=>cX _ e) (bQ _) (show kO _ _ _ _ _ (.tup ys) from#[d,_,a,IsTup.new _ _])
  exact#[.ref _,_,j,rfl,q _ (f.hok.fresh (bQ _))]
 .obtain⟨i,a,pl,d⟩:=I.tuple hq
  exact g (call_tuple_same pl #[.ref p,H,I,rfl,q])
def Rp(K:aU)(T:String)(x:V)(H:Hp):Prop:=match x with
 |.str _=>T="str"
 |.int _=>T="int"
 |.ref p=>(T="list"/\∃xs,b7 K H p xs)\/(T="tuple"/\∃o,K.lookup p=aa o/\o.cls=.type "tuple"/\o.dict=ao)\/
   (T="dict"/\((∃au ep,H p=aa (.dK au ep))\/∃au ep,H p=aa (.dT au ep)))\/(T="set"/\∃S n,H p=aa (.set S n))
 |_=>False
theorem apF{σ:St}{H:Hp}{x:V}{v:aG}(I:06)(r:RelV x v)(ty:Rp X.K T x H):
  s.TypeIs v T/\∀a,v=.ref a->∃ob,s.heap.get? a=aa ob/\ob.dict=ao:=by
 cases x with
 |str z=>
  obtain⟨t,rfl⟩:=r
  cases(ty)
  exact#[abw s z t,λ_ e=>nomatch e]
 |int i=>
  obtain⟨t,rfl⟩:=r
  cases(ty)
  exact#[typeIs_int s i t,λ_ e=>nomatch e]
 |ref p=>
  refine hide λg b=>?_
  cases r;rcases ty with⟨rfl,xs,hq⟩|⟨rfl,o,hk,hc,d⟩|⟨rfl,hk⟩|⟨rfl,S,n,hk⟩
  .obtain⟨f,_,pl,_⟩:=I.list hq
   refine b (#[pl.isList.typeIs,λa e=>?_]);cases e
   obtain⟨o,n,e,c,d,_⟩:=pl
   grind
  .refine b (#[#[o,I.jP p o hk,hc],λa e=>?_]);cases e
   exact#[o,I.jP _ o hk,d]
  .have z:∃o,s.heap.get? p=aa o/\o.ExactDict:=by
    rcases hk with⟨au,ep,hk⟩|⟨au,ep,hk⟩
    .obtain⟨_,_,_,_,o,_,e,ex,_⟩:=I.hok p _ hk
     grind
    .obtain⟨_,_,_,_,o,_,e,ex,_⟩:=I.hok p _ hk
     grind
   obtain⟨o,e,ex⟩:=z
   refine b (#[#[o,e,ex.1],λa e2=>?_]);cases e2
   exact#[o,e,ex.2.1]
  .obtain⟨o,_,_,_,e,ex,_⟩:=I.hok p _ hk
   refine b (#[#[o,e,ex.1],λa e2=>?_]);cases e2
   exact#[o,e,ex.2.1]
 |_=>exact Af ty
def tBM(K:aU)(T:String)(r:V->List V->Hp->VK->Prop)(to:TE)(t:TA):TE:=λσ H Q=>to σ H λx H1=>Rp K T x H1/\t σ H1 λxs H2=>r x xs H2 Q
variable{o e:Expr}{to:TE}{t:TA}{name:Str}{apos cpos:Pos}{T id:String}
theorem Ew(z:PlainAttrs T)(d:Slot T name id)(f:typeOf (.builtin id)=pure (.type "method_descriptor"))(n:MtR X id r)(w:PE X o to)(p:PA X (e::es) t)
  (a:sE o name X.env (eval o X.env)=eval o X.env:=by rfl)
  (c:((eN cpos (bI (e::es) X.env)).all (λx=>!x.1)&&(pN cpos (pL [] X.env)).all (λx=>x.1.isSome)
   &&decide ((e::es).length+([]:List pP).length+(if([]:List pP).isEmpty then 0 else 1)<30))=aq:=by rfl)
  (b:(apos.endLine==cpos.line)=aq:=by rfl)(u:bI (e::es) X.env=006::bI es X.env:=by rfl)(hplain:(eN cpos (bI es X.env)).any (·.1)=aH:=by rfl):
  PE X (.Call (.Attribute o name apos) (e::es) [] cpos) (tBM X.K T r to t):=by
 intro aA s σ H Q I h;refine wpAny_Call_method_late a c b rfl (bY (w _ s σ H _ I h) λv s1 B=>hide λC y=>?_)
 obtain⟨x,H1,g,i,ty,A⟩:=B
 obtain⟨h1,h2⟩:=apF g i ty
 refine y (#[T,id,z,d,f,h1,h2,?_]);have j:=p cpos _ s1 σ H1 _ g A;rw[u] at j⊢;exact ahI 002 (ahV (bY j λus m ⟨vs,H2,l,k,q⟩=>n _ m σ H2 x vs v us Q l i k q))
end
def uO(X:Cx)(id:String)(r:V->List V->Hp->VK->Prop):Prop:=
 ∀(aA:004)(s:aR)(σ:St)(H:Hp)(x:V)(xs:012)(v:aG)(us:014)(Q:VK),Inv X aA σ H s->RelV x v->Vals xs us->r x xs H Q->
  bf 05 X.A (call (.builtin id) (v::us)) (EP X aA σ Q) X.xe s
theorem Vals.one:∀{x:V}{us:014},Vals [x] us->∃u,us=[u]/\RelV x u
 |_,_,.cons r .nil=>#[_,rfl,r]
theorem Vals.reverse(h:Vals xs us):Vals xs.reverse us.reverse:=by
 induction h with
 |nil=>exact .nil
 |cons r t ih=>rw[K4,K4];exact Vals.append ih (.cons r .nil)
section
variable{X:Cx}{aA:List (az×Obj)}{σ:St}{H:Hp}{s:aR}{l b:az}{xs ys zs:List V}
theorem Inv.age{aK its':014}{n:Nat}(I:06)(b:H l=aa (.lst xs))
  (e:s.heap.get? l=aa {cls:=.type "list",data:=.seq aK.toArray n})(c:f aK.toArray=its'.toArray)(a:Vals ys its')(hz:ys.length<=cz):
  Inv X aA σ (upd H l (.lst ys)) {s with heap:=s.heap.update l (oZ f),toks:=t'}:=by
 have q:=PySem.IsL.update e f;rw[c] at q;refine I.write (by rw[b];trivial) (.inl rfl) (λh u g d=>(RV _ _ (jK g)).trans d) #[_,q] ?_
 exact#[hz,_,_,a,q]
theorem Inv.arv(I:06)(a:Vals ys aK)(hz:ys.length<=cz):
  Inv X aA σ (upd H s.heap.objs.size (.lst ys)) {s with heap:=s.heap.push {cls:=.type "list",data:=.seq aK.toArray},toks:=t'}:=
 I.laid (λ_ _ q=>cX _ q) (bQ _) #[hz,_,0,a,fV _ rfl]
theorem Inv.fresh(I:06):H s.heap.objs.size=ao:=I.hok.fresh (bQ _)
theorem Inv.JS(I:06)(a:H l=aa (.lst xs)):xs.length<=cz/\∃(aK:014)(n:Nat),Vals xs aK/\xs.length=aK.length/\s.heap.get? l=aa {cls:=.type "list",data:=.seq aK.toArray n}:=by
 obtain⟨z,aK,n,r,e⟩:=I.hok l _ a
 exact#[z,_,n,r,r.length,e]
theorem al5(h:n<=cz):ahC n=aH:=by
 exact m7 aD
end
section
variable{X:Cx}
def Ws:V->List V->Hp->VK->Prop:=λx vs H Q=>∃l xs y,x=.ref l/\vs=[y]/\H l=aa (.lst xs)/\xs.length<cz/\Q .non (upd H l (.lst (xs++[y])))
theorem HD:uO X "list.append" Ws:=by
 intro aA s σ H x vs v us Q I rx b h;refine hide λj d=>?_
 obtain⟨l,xs,y,rfl,rfl,a,g,q⟩:=h
 cases rx
 obtain⟨u,rfl,c⟩:=b.one
 obtain⟨z,f,n,r,i,e⟩:=I.JS a
 refine d (abx KZ #[_,e,rfl] F.entry_list_append (F.args_list_append_2 _ _) (PySem.list_append l _ n u 002) #[e,(#[.non,_,I.age a e bH (r.append (.cons c .nil)) ?_,rfl,q])])
 grind
def anS:V->List V->Hp->VK->Prop:=λx vs H Q=>∃l b xs zs,x=.ref l/\vs=[.ref b]/\H l=aa (.lst xs)/\H b=aa (.lst zs)/\xs.length+zs.length<=cz/\Q .non (upd H l (.lst (xs++zs)))
theorem akV:uO X "list.extend" anS:=by
 intro aA s σ H x vs v us Q I rx i h
 obtain⟨l,b,xs,zs,rfl,rfl,g,k,p,q⟩:=h
 cases rx
 obtain⟨u,rfl,o⟩:=i.one
 cases o
 obtain⟨z,c,n,r,t,e⟩:=I.JS g
 obtain⟨w,a,n2,j,m,e2⟩:=I.JS k
 have d:c.toArray.size+a.toArray.size<=cz:=by grind
 have f:¬(!c.toArray.isEmpty&&ahC (c.toArray.size+a.toArray.size))=aq:=by
  rw[al5 d,aje]
  grind
 refine abx ain #[_,e,rfl] F.entry_list_extend (F.args_list_extend_2 _ _)
  (AutoSeq1.list_extend_list_list_0 l c.toArray n b a.toArray n2 f (by rw[oX];lia) aD) #[e,e2,(#[.non,_,I.age (its':=c++a) g e bH (r.append j) ?_,rfl,q])]
 grind
def agf:R2:=λx y H Q=>∃l b xs zs,x=.ref l/\y=.ref b/\H l=aa (.lst xs)/\H b=aa (.lst zs)/\xs.length+zs.length<=cz/\∀p,H p=ao->Q (.ref p) (upd H p (.lst (xs++zs)))
theorem apG:dR X (rm .Add) agf:=by
 intro aA s σ H x y v u Q I rx m h;refine hide λw k=>?_
 obtain⟨l,b,xs,zs,rfl,rfl,g,f,o,q⟩:=h
 cases rx;cases m
 obtain⟨z,c,n,r,p,e⟩:=I.JS g
 obtain⟨t,a,n2,d,i,e2⟩:=I.JS f
 refine k (PySem.P.add_list e e2 ?_ 002);have j:c.toArray++a.toArray=(c++a).toArray:=bH;rw[j]
 exact#[.ref _,_,I.arv (r.append d) 002,rfl,q _ I.fresh]
end
section
set_option maxRecDepth 100000 in
end
section
variable{κ:Type}[DecidableEq κ]
def iC(au:List (κ×V))(k:κ):Option V:=(au.find? λkv=>decide (kv.1=k)).map (·.2)
def putK(au:List (κ×V))(k:κ)(v:V):List (κ×V):=
 if(au.any λkv=>decide (kv.1=k))=aq then au.map (λkv=>if kv.1=k then(kv.1,v) else kv) else au++[(k,v)]
theorem HY{k:κ}(e:p.1=k):iC (p::r) k=aa p.2:=by simp[iC,e]
theorem H9{k:κ}(e:¬p.1=k):iC (p::r) k=iC r k:=by simp[iC,e]
theorem Vt(k:κ):∀au:List (κ×V),(au.any λa=>decide (a.1=k))=(iC au k).isSome
 |[]=>rfl
 |p::r=>by
  rw[yt];by_cases e:p.1=k
  .simp only[HY e,gq e,Bool.true_or,aio]
  .rw[H9 e,m7 e];exact Vt k r
theorem Ua(au:List (κ×V))(k:κ)(v:V):(putK au k v).length<=au.length+1:=by
 unfold putK
 grind
theorem al6{k:κ}(v:V)(h:iC au k=ao):putK au k v=au++[(k,v)]:=by
 unfold putK;rw[Vt,h];rfl
theorem o9.HF(r:o9 o u):o.isSome=u.isSome:=by
 cases o with
 |none=>cases u with
  |none=>rfl
  |some _=>trivial
 |some _=>cases u with
  |none=>trivial
  |some _=>rfl
theorem KV.val(r:KV au vs)(k:κ):o9 (iC au k) (Ip vs k):=by
 induction r with
 |nil=>trivial
 |@cons p q ps qs h t ih=>
  obtain⟨h1,h2⟩:=h
  by_cases e:p.1=k
  .have a:=h1.symm.trans e;have b:Ip (q::qs) k=aa q.2:=by simp[Ip,a]
   rwa [HY e,b]
  .have a:¬q.1=k:=λz=>e (h1.trans z)
   have b:Ip (q::qs) k=Ip qs k:=by simp[Ip,a]
   rwa [H9 e,b]
theorem KV.any(r:KV au vs)(k:κ):(au.any λa=>decide (a.1=k))=vs.any λa=>decide (a.1=k):=by
 induction r with
 |nil=>rfl
 |cons h t ih=>grind
theorem KV.repl(r:KV au vs)(k:κ)(b:RelV y u):
  KV (au.map λa=>if a.1=k then(a.1,y) else a) (vs.map λa=>if a.1=k then(a.1,u) else a):=by
 induction r with
 |nil=>exact .nil
 |@cons p q ps qs h t ih=>
  refine .cons ?_ ih
  grind
theorem KV.put(r:KV au vs)(k:κ)(a:RelV y u):KV (putK au k y) (stored vs k u):=by
 unfold putK stored;rw[r.any k];by_cases e:(vs.any λb=>decide (b.1=k))=aq
 .rw[bG e,bG e];exact r.repl k a
 .rw[bK e,bK e];exact Paired.snoc r #[rfl,a]
theorem KV.length{au:List (κ×V)}(r:KV au vs):au.length=vs.length:=Paired.length r
end
theorem Ex(r:RelV (kV k) u):(gV P w).is k u=aq:=by
 cases k with
 |inl i=>obtain⟨t,e⟩:=(r);subst e;exact ajU P w i t
 |inr x=>obtain⟨t,e⟩:=(r);subst e;exact ajV P w x t
theorem abR:∀{ks:List Key}{us:014},Vals (ks.map kV) us->ItemsAre (gV P w) ks us
 |[],_,r=>by cases r;exact .nil
 |k::ks,_,r=>by
  cases r with
  |cons h t=>exact .cons (Ex h) (abR t)
abbrev KT(H:Hp):List (TK×V)->List (TK×az×aG)->Prop:=Paired λp q=>p.1=q.1/\jO H q.2.1 p.1/\RelV p.2 q.2.2
theorem KT.val(r:KT H au xs)(k:TK):o9 (iC au k) ((uy xs k).map (·.2)):=by
 induction r with
 |nil=>trivial
 |@cons p q ps qs h t ih=>
  obtain⟨h1,_,h2⟩:=h
  by_cases e:p.1=k
  .have a:=h1.symm.trans e;have b:uy (q::qs) k=aa q.2:=by simp[uy,a]
   rwa [HY e,b]
  .have a:¬q.1=k:=λz=>e (h1.trans z)
   have b:uy (q::qs) k=uy qs k:=by simp[uy,a]
   rwa [H9 e,b]
theorem KT.repl(r:KT H au xs)(k:TK)(b:RelV y u):
  KT H (au.map λa=>if a.1=k then(a.1,y) else a) (xs.map (putAt k u)):=by
 induction r with
 |nil=>exact .nil
 |@cons p q ps qs h t ih=>
  refine .cons ?_ ih;unfold putAt
  grind
theorem KT.put(r:KT H au xs)(k:TK)(d:jO H b k)(a:RelV y u):
  KT H (putK au k y) (storedH xs k b u):=by
 have e:(au.any λc=>decide (c.1=k))=(uy xs k).isSome:=by
  rw[Vt,(r.val k).HF,Su]
 unfold putK storedH;rw[e];by_cases q:(uy xs k).isSome=aq
 .rw[bG q,bG q];exact r.repl k a
 .rw[bK q,bK q];exact Paired.snoc r #[rfl,d,a]
theorem KT.keeps(r:KT H au xs)(a:∀b ys,H b=aa (.tup ys)->H' b=aa (.tup ys)):KT H' au xs:=
 Paired.YT r λ_ _ z=>#[z.1,z.2.1.mono a,z.2.2]
theorem afC(ok:ig P w H h)(e:Rd H a u):kO P w H h a u:=e.ok ok
def vU(H:Hp)(a:az)(au:List (Key×V)):Prop:=∃ep,Rd H a (.dK au ep)
def Cw(H:Hp)(a:az)(au:List (TK×V)):Prop:=∃ep,Rd H a (.dT au ep)
theorem xr(ok:ig P w H h)(e:vU H a au):au.length<=cz/\(a==oY)=aH/\∃vs,KV au vs/\h.DictOf (gV P w) a vs:=
 let ⟨ep,e⟩:=e;let ⟨z,y,vs,r,p⟩:=(afC ok e);#[z,y,vs,r,p.dictOf]
theorem Yp(ok:ig P w H h)(e:H a=aa (.dK au ep)):au.length<=cz/\(a==oY)=aH/\∃vs,KV au vs/\h.DictOf (gV P w) a vs:=xr ok #[ep,.inl e]
theorem adx(ok:ig P w H h)(e:H a=aa (.tup (ks.map kV))):Hv (gV P w) h ks a:=by
 refine hide λf c=>?_
 obtain⟨_,d,r,o,h1,h2,n,b⟩:=(ok a _ e)
 exact c (#[o,_,n,h1,h2,b,by simpa using abR r])
theorem Eo(ok:ig P w H h):∀{k:TK},jO H a k->(Ej P w).is h k a
 |(_,none),e=>adx ok e
 |(_,some t),⟨c,e1,e2⟩=>by
  refine hide λg d=>?_
  obtain⟨_,f,r,o,h1,h2,n,b⟩:=(ok a _ e1)
  cases r with
  |cons q1 r=>cases r with
   |cons q2 r=>cases r with
    |nil=>
     cases(q1);cases(q2)
     exact d (#[c,#[o,n,h1,h2,b],adx ok e2])
theorem Bp(ok:ig P w H h)(e:Cw H a au):au.length<=cz/\(a==oY)=aH/\
  ∃xs,KT H au xs/\h.DictOfH (Ej P w) a xs:=by
 refine hide λi f=>?_
 obtain⟨ep,e⟩:=e
 obtain⟨z,y,xs,r,o,es,h1,h2,c,g,d⟩:=(afC ok e)
 refine f (#[z,y,xs,r,o,es,ep,h1,h2,c,g,λx b=>?_,d]);have all:∀{l:List _}{m:List _},KT H l m->∀x∈m,(Ej P w).is h x.1 x.2.1:=by
  intro l m q;induction q with
  |nil=>grind
  |@cons p q ps qs hq t ih=>
   intro x b;rcases cC.mp b with e|b
   .exact Eo ok 002
   grind
 grind
theorem afD(ok:ig P w H h)(e:H a=aa (.dT au ep)):au.length<=cz/\(a==oY)=aH/\
  ∃xs,KT H au xs/\h.DictOfH (Ej P w) a xs:=Bp ok #[ep,.inl e]
def m8(H:Hp)(a:az)(y:V)(r:Option V):Prop:=
 (∃au k,vU H a au/\y=kV k/\r=iC au k)\/∃au k b,Cw H a au/\y=.ref b/\jO H b k/\r=iC au k
def tH(H:Hp)(a:az)(y v:V)(H':Nat->Hp):Prop:=
 (∃au k,(∃ep,H a=aa (.dK au ep))/\y=kV k/\au.length<cz/\H'=λe=>upd H a (.dK (putK au k v) e))\/
 ∃au k b,(∃ep,H a=aa (.dT au ep))/\y=.ref b/\jO H b k/\au.length<cz/\H'=λe=>upd H a (.dT (putK au k v) e)
theorem m8.k{H:Hp}{k:Key}(e:H a=aa (.dK au ep)):m8 H a (kV k) (iC au k):=.inl #[_,k,#[ep,.inl e],rfl,rfl]
theorem m8.t{H:Hp}{k:TK}(e:H a=aa (.dT au ep))(c:jO H b k):m8 H a (.ref b) (iC au k):=.inr #[_,k,b,#[ep,.inl e],rfl,c,rfl]
theorem tH.k{H:Hp}{k:Key}{v:V}(e:H a=aa (.dK au ep))(b:au.length<cz):tH H a (kV k) v (λe=>upd H a (.dK (putK au k v) e)):=.inl #[_,k,#[ep,e],rfl,b,rfl]
theorem tH.t{H:Hp}{k:TK}{v:V}(e:H a=aa (.dT au ep))(d:jO H b k)(c:au.length<cz):
  tH H a (.ref b) v (λe=>upd H a (.dT (putK au k v) e)):=.inr #[_,k,b,#[ep,e],rfl,d,c,rfl]
section
variable{X:Cx}{σ:St}{H:Hp}{s:aR}{a:az}{y v:V}{u r:aG}{A:dN}
theorem Inv.big(I:06):oY<s.heap.objs.size:=by
 have h:=(I.mod.glob.keeps I.bk).lt;exact Lx aP h
theorem akW(q:A.units+2<fD)(I:06)(g:m8 H a y (aa v))(n:RelV y u)(h:∀f s',Inv X aA σ H s'->RelV v f->Q f s'):
  bf 05 A (yD (.ref a) u) Q E s:=by
 refine hide λw o=>?_
 rcases g with⟨au,k,e,ey,l⟩|⟨au,k,b,e,ey,eb,l⟩
 .subst ey
  obtain⟨z,t,vs,d,j⟩:=xr I.hok e
  obtain⟨f,m,c⟩:=o9.some_of (by rw[l];exact d.val k)
  exact o (wpAny_getItem_of (Ex n) j.mapOf m (h f _ (I.tok _) c))
 .subst ey
  cases(n)
  obtain⟨z,t,xs,d,j⟩:=Bp I.hok e
  obtain⟨f,m,c⟩:=o9.some_of (by rw[l];exact d.val k)
  obtain⟨p,r,i⟩:=lW.mp m
  refine o (wpAny_getItem_heap (Ii q) (Eo I.hok eb) j r ?_);rw[i];exact h f _ (I.tok _) c
theorem agg(m:A.units+2<fD)(I:06)(g:m8 H a y o)(i:RelV y u)(h:∀s',Inv X aA σ H s'->Q (.bool o.isSome) s'):
  bf 05 A (gG .In u (.ref a)) Q E s:=by
 refine hide λn j=>?_
 rcases g with⟨au,k,e,ey,l⟩|⟨au,k,b,e,ey,eb,l⟩
 .subst ey
  obtain⟨z,f,vs,c,d⟩:=xr I.hok e
  refine j (wpAny_in_of (Ex i) f d.mapOf ?_);rw[<-(c.val k).HF,<-l];exact h _ (I.tok _)
 .subst ey
  cases(i)
  obtain⟨z,f,xs,c,d⟩:=Bp I.hok e
  refine j (wpAny_in_heap (Ii m) (Eo I.hok eb) f d ?_);have q:=(c.val k).HF;rw[Su] at q;rw[<-q,<-l];exact h _ (I.tok _)
theorem ady(m:A.units+2<fD)(I:06)(g:m8 H a y o)(i:RelV y u)(h:∀s',Inv X aA σ H s'->Q (.bool (!o.isSome)) s'):
  bf 05 A (gG .NotIn u (.ref a)) Q E s:=by
 refine hide λn j=>?_
 rcases g with⟨au,k,e,ey,l⟩|⟨au,k,b,e,ey,eb,l⟩
 .subst ey
  obtain⟨z,f,vs,c,d⟩:=xr I.hok e
  refine j (wpAny_notIn_of (Ex i) f d.mapOf ?_);rw[<-(c.val k).HF,<-l];exact h _ (I.tok _)
 .subst ey
  cases(i)
  obtain⟨z,f,xs,c,d⟩:=Bp I.hok e
  refine j (wpAny_notIn_heap (Ii m) (Eo I.hok eb) f d ?_);have q:=(c.val k).HF;rw[Su] at q;rw[<-q,<-l];exact h _ (I.tok _)
theorem Ar(I:06)(e:J4 (H a))(d:qW a s.heap h')(f:∃q,h'.get? a=aa q)(c:kO X.prog X.w (upd H a ob) h' a ob):
  Inv X aA σ (upd H a ob) {s with heap:=h',toks:=t'}:=
 I.write e (.inl rfl) (λb q g z=>(d.2 b g).trans z) f c
theorem N8(z:au.length<=cz)(d:(a==oY)=aH)(b:KV au vs)(c:h'.DictAt (gV P w) a vs ep):
  kO P w H' h' a (.dK au ep):=#[z,d,vs,b,c]
theorem abS(C:A.units+2<fD)(I:06)(g:tH H a y v H')(B:RelV y u)(x:RelV v r)(h:∀e s',Inv X aA σ (H' e) s'->Q () s'):
  bf 05 A (Nj (.ref a) u r) Q E s:=by
 refine hide λJ j=>?_
 rcases g with⟨au,k,⟨ep,e⟩,ey,l,eH⟩|⟨au,k,b,⟨ep,e⟩,ey,eb,l,eH⟩
 .subst ey eH
  obtain⟨z,w,vs,d,p⟩:=Yp I.hok e
  have D:vs.length<=cz:=by rwa [<-d.length]
  have t:(putK au k v).length<=cz:=by have:=Ua au k v;lia
  refine j (wpAny_setItem_pairs (Ex B) p λh' f o=>?_)
  obtain⟨n,m⟩:=f.dictAt
  refine h n _ ?_;have L:∃q,h'.get? a=aa q:=let ⟨q,_,_,i,_⟩:=f;#[q,i]
  exact Ar I (by rw[e];exact ug) o L (N8 t w (d.put k x) m)
 .subst ey eH
  cases(B)
  obtain⟨z,w,xs,d,p⟩:=afD I.hok e
  have D:xs.length<=cz:=by rwa [<-Paired.length d]
  have t:(putK au k v).length<=cz:=by have:=Ua au k v;lia
  refine j (wpAny_setItem_heap (Ii C) (Eo I.hok eb) p λh' f o=>(hide λJ j=>?_))
  obtain⟨q,es,M,i,h2,F,N,_,K⟩:=f
  refine j (h _ _ (Ar I (by rw[e];exact ug) o #[q,i] #[t,w,_,(d.put k eb x).keeps λc ys G=>?_,q,es,i,h2,F,N,K]))
  rwa [c7 (Jw G e (λz=>nomatch z))]
end
section
variable{X:Cx}{aA:List (az×Obj)}{σ:St}{H:Hp}{s:aR}{a:az}{au:List (Key×V)}{k:Key}{u:aG}{A:dN}{E:aG->aR->Prop}
theorem aqW(I:06)(e:vU H a au)(h:∀t s',Inv X aA σ H s'->Q (.int au.length t) s'):bf 05 A (call (.builtin "len") [.ref a]) Q E s:=by
 obtain⟨z,d,vs,b,c⟩:=xr I.hok e
 refine call_len_dict d c (by rw[<-b.length];rw[iw] at z;lia) ?_;rw[<-b.length];exact h _ _ (I.tok _)
end
theorem ajX{X:Cx}{σ:St}{H:Hp}{a:az}{y:V}(I:06)(g:m8 H a y o):s.TypeIs (.ref a) "dict":=by
 rcases g with⟨au,k,e,_,_⟩|⟨au,k,b,e,_,_,_⟩
 .obtain⟨_,_,vs,_,c⟩:=xr I.hok e
  exact c.typeIs
 .obtain⟨_,_,xs,_,c⟩:=Bp I.hok e
  exact c.typeIs
theorem acv(h:cg)(a:oY<h.objs.size):kO P w H (h.push {cls:=.type "dict",data:=.dict #v[]}) h.objs.size (.dK [] 0):=
 #[jJ _,beq_eq_false_iff_ne.mpr (jK (fW a)),[],.nil,_,_,fV _ rfl,#[rfl,rfl,rfl],rfl,λi hi=>absurd hi bH,.nil,tZ]
def apH:TE:=λ_ H Q=>∀p,H p=ao->Q (.ref p) (upd H p (.dK [] 0))
theorem acw:PE X (.Dict [] [] pos) apH:=λaA s σ H Q I h=>
 wpAny_Dict_empty #[.ref _,_,I.laid (λ_ _ q=>cX _ q) (bQ _) (acv _ I.big),rfl,h _ (I.hok.fresh (bQ _))]
def Oa:List (TE×TE)->St->Hp->(List (V×V)->Hp->Prop)->Prop
 |[],_,H,Q=>Q [] H
 |(tk,tv)::r,σ,H,Q=>tk σ H λx H1=>tv σ H1 λy H2=>Oa r σ H2 λps H3=>Q ((x,y)::ps) H3
abbrev VV:List (V×V)->List (aG×aG)->Prop:=Paired λp q=>RelV p.1 q.1/\RelV p.2 q.2
def Kc(X:Cx)(pos:Pos)(keys:List (Option Expr))(values:List Expr)(nZ:List (TE×TE)):Prop:=
 ∀(aA:004)(s:aR)(σ:St)(H:Hp)(Q:List (V×V)->Hp->Prop),Inv X aA σ H s->Oa nZ σ H Q->
  bf 05 X.A (evalPairs (pairTrees keys values X.env pos)) (λvs s'=>∃ps H',Inv X aA σ H' s'/\VV ps vs/\Q ps H') X.xe s
theorem anT:Kc X pos [] [] []:=λaA s σ H Q I h=>pairTrees_nil_walk #[[],H,I,.nil,h]
theorem al7(b:PE X k tk)(c:PE X v tv)(i:Kc X pos ks vs nZ):
  Kc X pos (aa k::ks) (v::vs) ((tk,tv)::nZ):=λaA s σ H Q I h=>
 pairTrees_cons_walk (bY (b _ s σ H _ I h) λu s1 ⟨x,H1,g,rx,o⟩=>bY (c _ s1 σ H1 _ g o) λq e ⟨y,H2,d,n,f⟩=>
  bY (i _ e σ H2 _ d f) λws p ⟨ps,m,j,a,l⟩=>⟨_,m,j,.cons ⟨rx,n⟩ a,l⟩)
def yN(au more:List (Key×V)):List (Key×V):=more.foldl (λaM kv=>putK aM kv.1 kv.2) au
theorem KV.merge:∀{more:List (Key×V)}{a:List (Key×aG)}{au:List (Key×V)}{vs:List (Key×aG)},KV more a->KV au vs->KV (yN au more) (merged vs a):=by
 intro more a au vs r;induction r generalizing au vs with
 |nil=>intro q;exact q
 |@cons p q ps qs h t ih=>
  intro b;have e:KV (putK au p.1 p.2) (stored vs q.1 q.2):=by
   have:=b.put p.1 h.2
   grind
  exact ih e
theorem aa0:∀(more au:List (Key×V)),(yN au more).length<=au.length+more.length
 |[],au=>by show au.length<=au.length+0;lia
 |p::r,au=>by
  have h1:=aa0 r (putK au p.1 p.2);have h2:=Ua au p.1 p.2
  show(yN (putK _ _ _) r).length<=_
  grind
theorem aby:∀{au:List (Key×V)}{ws:List (aG×aG)},VV (au.map λe=>(kV e.1,e.2)) ws->∃d,Carries (gV P w) ws d/\KV au d
 |[],_,r=>by cases r;exact#[[],ug,.nil]
 |p::au,_,r=>by
  cases r with
  |@cons a b as bs h t=>
   obtain⟨d,c,q⟩:=aby t
   obtain⟨g,f⟩:=b
   exact#[(p.1,f)::d,#[Ex h.1,rfl,c],.cons #[rfl,h.2] q]
def aqX(nZ:List (TE×TE)):TE:=λσ H Q=>∀p,H p=ao->Oa nZ σ (upd H p (.dK [] 0)) λps H2=>H2 p=aa (.dK [] 0)/\∃au:List (Key×V),ps=au.map (λkv=>(kV kv.1,kv.2))/\au.length<=15/\∀e,Q (.ref p) (upd H2 p (.dK (yN [] au) e))
theorem anU(h:Kc X pos keys values nZ)(a:keys.all (·.isSome)=aq)(r:keys.length=values.length)(A:keys≠[])
  (f:keys.length<=15):PE X (.Dict keys values pos) (aqX nZ):=by
 intro aA s σ H Q I q;have v:=I.hok.fresh (bQ _);have o:=I.laid (t':=s.toks) (λ_ _ q=>cX _ q) (bQ _) (acv _ I.big);refine wpAny_Dict_walk (knd:=gV _ _) a r A f (bY (h _ _ σ _ _ o (q _ v)) λws C B=>hide λE w=>?_)
 obtain⟨ps,H2,i,g,e,au,ep,F,l⟩:=B
 subst ep
 obtain⟨k,c,t⟩:=aby g
 obtain⟨z,y,D,u,p⟩:=Yp i.hok e
 cases u;refine w (#[k,c,p,λh' j n=>?_])
 obtain⟨d,b⟩:=j.dictAt
 refine#[.ref _,_,?_,rfl,l d]
 have m:(yN [] au).length<=cz:=by
  have h1:=aa0 au [];rw[tX] at h1;rw[iw];lia
 have x:∃q,h'.get? _=aa q:=let ⟨q,_,_,hq,_⟩:=j;#[q,hq]
 exact Ar i (by rw[e];trivial) n x (N8 m y (t.merge .nil) b)
structure M2(X:Cx)(o:Expr)(m:Str)(apos:Pos)(e f:Expr)(cpos:Pos):Prop where
 base:sE o m X.env (eval o X.env)=eval o X.env
 few:((eN cpos (bI [e,f] X.env)).all (λx=>!x.1)&&(pN cpos (pL [] X.env)).all (λx=>x.1.isSome)
  &&decide (([e,f]:List Expr).length+([]:List pP).length+(if([]:List pP).isEmpty then 0 else 1)<30))=aq
 line:(apos.endLine==cpos.line)=aq
 trees:eN cpos (bI [e,f] X.env)=[006,(aH,eval f X.env)]
def IsD(H:Hp)(a:az):Prop:=(∃au,vU H a au)\/∃au,Cw H a au
theorem apI{X:Cx}{σ:St}{H:Hp}(I:06)(d:IsD H a):
  s.TypeIs (.ref a) "dict"/\(∀b,fj a=.ref b->∃ob,s.heap.get? b=aa ob/\ob.dict=ao)/\(a==oY)=aH:=by
 refine hide λh g=>?_
 rcases d with⟨au,e⟩|⟨au,e⟩
 .obtain⟨_,f,vs,_,c⟩:=xr I.hok e
  refine g (#[c.typeIs,λb q=>?_,f]);cases q
  obtain⟨ob,_,_,h1,h2,_⟩:=c
  exact#[ob,h1,h2.2.1]
 .obtain⟨_,f,xs,_,c⟩:=Bp I.hok e
  refine g (#[c.typeIs,λb q=>?_,f]);cases q
  obtain⟨ob,_,_,h1,h2,_⟩:=c
  exact#[ob,h1,h2.2.1]
end L2
namespace Att
open PySem PySem.W PySem.Calls PyProof.Rows
theorem ai3:∀(ns:List Int)(vs:014),WellAll P h vs (ns.map WData.int)->IntsAre vs ns:=by
 intro ns;induction ns with
 |nil=>
  intro vs w;cases w;exact .nil
 |cons n ns ih=>
  intro vs w;cases w with
  |cons a b=>
   cases a;exact .cons _ _ (ih _ b)
theorem akX{l:OpenLaw}{n:Nat}(m:l.most=aa n){P:Params}{h:cg}
  (b:l.row.toRowW.claim.pre args=aq)(e:WellAll P h vals args):
  ∃a vs ns,vals=[fj a]/\args=[WData.list (ns.map WData.int)]/\h.get? a=aa {cls:=.type "list",data:=.seq vs.toArray}/\IntsAre vs ns/\ns.length<=n:=by
 have g:WShape.hasAll [] _ [.list _]=aq:=(pre_splitW b).1;have j:l.pre.holds [] _=aq:=(pre_splitW b).2
 obtain⟨d,r,rfl,h1,h2⟩:=hasAllW_cons g
 obtain rfl:=hasAllW_nil h2
 obtain⟨xs,rfl,i⟩:=hasW_list h1
 obtain⟨ns,rfl⟩:=items_int i
 have c:=by
  have f:=by
   have f:=(holds_andW j).1
   rwa [m] at f
  have k:=condW_of f (w_not (w_lt w_lit (w_len_list (w_arg rfl))))
  ((simp at k;omega))
 cases e with
 |cons w1 w2=>
  cases w2;cases w1 with
  |list ho hall=>exact#[_,_,ns,rfl,rfl,ho,ai3 ns _ hall,c]
theorem akY(l:OpenLaw)(args:List WData):l.row.toRowW.claim.post args (.bool aq) args=aq:=
 postW_of
  (by first|rfl|decide|simp[WShape.has,WShape.arms,WShape.armsAll])
  (w_eq_bool (w_res rfl) w_lit) rfl
theorem ajY{l:OpenLaw}{n:Nat}{q:dB}{d:DefRec}
  (H:l.most=aa n)(u:d.params.defaults=[])
  (call:∀(w:cG)(s0 s₁:aR)(mg mb:Str->Option aG)(e:az)(o:Obj)(t j h:aG)(a:az)(vs:014)(ns:List Int),
   Ground q loose [] XP w s0 mg mb s₁.heap->YP w s₁.heap->
   s₁.heap.get? e=aa o->o.data=.func (docDef d.name d.params d.body d.scope t j h)->s₁.heap.CodeRec j d.name->mg d.name=aa (.ref e)->
   s₁.heap.get? a=aa {cls:=.type "list",data:=.seq vs.toArray}->IntsAre vs ns->ns.length<=n->s₁.gens=#v[]->
   lH (model l.prog w) Ir (.call (.ref e) ⟨[.ref a],[]⟩) (λr s'=>r=.ok (.ret (.bool aq))/\OldK s₁.heap s'.heap/\s'.os=s₁.os/\AllBare s'.gens) s₁):
  WalkO q loose XP YP l.row.toRowW d [] (λf vs=>abz f vs):=by
 intro w s0 s₁ mg mb G Y e o t j h E kV C K m v p J z x M g y D k A;obtain rfl:E=.none:=Dflts.none v u;obtain rfl:kV=.none:=Dflts.noKw v
 obtain⟨a,vs,ns,rfl,rfl,i,b,c⟩:=akX H g k
 refine enter_call (Hq (call w s0 s₁ mg mb e o t j _ a vs ns G Y C (fd_plain K) m p i b c J) λr s' I=>?_)
 obtain⟨rfl,h2,F,L⟩:=I
 exact#[.inl #[_,_,[],rfl,λ_=>rfl,.bool _,akY l _,λ_=>#[Sv,λ_ B=>(nomatch B)]],h2,F,L]
section
variable{prog:dB}{w:cG}{A:dN}{E:aG->aR->Prop}{s:aR}{K:Frag}
def ledger(h:cg)(L d:az):List (az×Obj):=(gj h.objs.size).filterMap λa=>if a=L\/a=d then ao else(h.get? a).map λo=>(a,o)
end
end Att
namespace L2
open PySem PySem.Spec PyProof.Rows
theorem Mp:∀{vs:014}{ns:List Int},IntsAre vs ns->Vals (ns.map V.int) vs
 |_,_,.nil=>.nil
 |_,_,.cons n t h=>.cons #[t,rfl] (Mp h)
def Only(H:Hp):Prop:=∀b,H b=ao\/∃o xs,H b=aa (.tO o (.lst xs))
theorem al8{P:dB}{w:cG}{K:aU}{CX:uM}{k:Nat}{E a:az}{fd:o5}{x:Str}{sp:Sp}{s₁:aR}{ns:List Int}
  (N:K.In s₁.heap)(l:s₁.heap.Ns iu mg)(c:s₁.heap.Ns builtinsNs mb)(L:∀x:Str,x≠"__name__"->mb x=uc x)(p:s₁.heap.NoLimit)(hg:s₁.gens=#v[])
  (C:s₁.heap.get? a=aa {cls:=.type "list",data:=.seq vs.toArray})(hi:IntsAre vs ns)(hl:ns.length<=cz)(hr:dZ k Ir)
  (F:∀base:cg,K.In base->base.Ns iu mg->dG P w K mg base CX k E fd [x] sp)(g:∀(s:aR)(u:aG),DY s fd #[[u],[]] [(x,u)])
  (I:∀H:Hp,Only H->b7 K H a (ns.map V.int)->sp [.ref a] H (λv _=>v=.bl aq) λ_ _ _=>False)
  (Zo:∀H e s',CX [] H s₁ (λ_ _ _=>False) e s'->False):
  lH (model P w) Ir (.call (.ref E) #[[.ref a],[]]) (λr s'=>r=.ok (.ret (.bool aq))/\OldK s₁.heap s'.heap/\s'.os=s₁.os/\AllBare s'.gens) s₁:=by
 have M:=Mp hi;have t:=hi.length;have f:∀H:Hp,Only H->b7 K H a (ns.map V.int)->ig P w H s₁.heap->(∀b,H b≠ao->b=a)->(H a≠ao->K.lookup a=ao)->
   lH (model P w) Ir (.call (.ref E) #[[.ref a],[]]) (λr s'=>r=.ok (.ret (.bool aq))/\OldK s₁.heap s'.heap/\s'.os=s₁.os/\AllBare s'.gens) s₁:=by
  intro H Q S A O T;have j:∀{b:az}{o:Obj},s₁.heap.get? b=aa o->H b=ao->(Fw _ H).get? b=aa o:=λe n=>alR e n
  have Ka:∀{b:az}{o:Obj}{es:Array _}{ep:Nat},s₁.heap.get? b=aa o->o.data=.dict es ep->H b=ao:=λ{b o es ep} e d=>by
   cases q:H b with
   |none=>rfl
   |some u=>
    have G:=O b (by rw[q];simp);subst G;rw[C] at e;cases e;have d':=d;cases d'
  have D:∀{b:az}{m:Str->Option aG},s₁.heap.Ns b m->(Fw _ H).Ns b m:=λ{b m} ⟨o,es,ep,e,d,r⟩=>#[o,es,ep,j e (Ka e d),d,r]
  have B:=λb o e=>j (N b o e) (by
   cases q:H b with
   |none=>rfl
   |some u=>
    have G:=O b (by rw[q];simp);subst G;rw[T (by rw[q];simp)] at e;cases e)
  have U:Mod K mg _:=#[B,D l,#[mb,D c,L],let ⟨mc,h1,h2⟩:=p;#[mc,D h1,h2]]
  have X:BK P w K mg _ Ir [] s₁ H:=#[rfl,U,λb o e=>anD e,ajF (akL _ _),trivial,λb c=>absurd (show b∈([]) from c) bH,A,.of_eq hg]
  refine Hq ((F _ B (D l)).run _ [] s₁ H _ [.ref a] [.ref a] _ _ hr X (g s₁ _) (.cons rfl .nil) (I H Q S)) λr s' h=>?_
  cases r with
  |error e=>exact(Zo H e s' h).elim
  |ok fl=>
   cases fl with
   |next=>exact Af h
   |brk=>exact Af h
   |cont=>exact Af h
   |ret u=>
    refine hide λGG J=>?_
    obtain⟨v,H',Z,bare,un,i,r',q⟩:=h
    have W:=q;subst W;obtain rfl:u=j5 aq:=r';refine J (#[rfl,OldK.of_keep λb o e=>?_,Z,bare]);cases q:H b with
    |none=>exact un.keep b o e q (by intro z;exact absurd (show b∈[] from z) bH) bH
    |some u=>
     rcases Q b with z|⟨R,xs,z⟩
     .rw[q] at z;cases z
     .have Y:=un.xN b R _ z
      obtain⟨e1,_⟩:=A b _ z
      obtain⟨e2,_⟩:=i b _ Y
      rw[e] at e1;cases e1;exact e2
 cases hk:K.lookup a with
 |some o=>
  have e:=N a o hk;rw[C] at e;refine hide λGG J=>?_
  cases e;refine J (f _ (λ_=>.inl rfl) (.inr #[_,_,_,hk,rfl,rfl,rfl,by rwa [oX,t],by simpa using M]) (λb u z=>by have y:=z;cases y) (λb z=>absurd rfl z) λz=>absurd rfl z)
 |none=>
  refine f (λb=>if b=a then aa _ else ao) (λb=>?_) (.inl (.inr #[{cls:=.type "list",data:=.seq vs.toArray},bG rfl])) (λb u z=>?_) (λb z=>?_) λ_=>hk
  .by_cases c:b=a
   .exact .inr #[_,_,bG c]
   .exact .inl (bK c)
  .by_cases c:b=a
   .have y:=(bG c).symm.trans z;cases y;subst c
    exact#[C,by rwa [bC],vs,_,M,C]
   .have y:=(bK c).symm.trans z;cases y
  .by_cases c:b=a
   .exact c
   .exact absurd (bK c) z
theorem anV{l:aaJ}{n k:Nat}{q:dB}{b:009}{d:DefRec}{K:Params->aU}{CX:cG->uM}{sp:cG->Sp}{x:Str}
  (B:l.most=aa n)(j:n<=cz)(g:d.params.defaults=[])(y:dZ k Ir)
  (A:∀(w:cG)(h:cg),YP w h->(K w.params).In h)
  (F:∀(w:cG)(mg:Str->Option aG)(c:az)(h:cg),(K w.params).In h->h.Ns iu mg->mg d.name=aa (.ref c)->
   ∃fd:o5,(∀(s:aR)(u:aG),DY s fd #[[u],[]] [(x,u)])/\
    ∀base:cg,(K w.params).In base->base.Ns iu mg->dG l.prog w (K w.params) mg base (CX w) k c fd [x] (sp w))
  (i:∀(w:cG)(H:Hp)(a:az)(ns:List Int),ns.length<=n->Only H->b7 (K w.params) H a (ns.map V.int)->sp w [.ref a] H (λv _=>v=.bl aq) λ_ _ _=>False)
  (z:∀(w:cG)(H:Hp)(s:aR)(e:aG)(s':aR),CX w [] H s (λ_ _ _=>False) e s'->False):
  ajr q b XP YP l.row.toRowW d [] (λf vs=>abz f vs):=by
 refine Att.ajY B g λw s0 s₁ mg mb c o pm cd doc a vs ns G Y ho hd hcd hmg hobj hints hlen hg=>?_
 have m:=A w _ Y
 obtain⟨fd,r,t⟩:=F w mg c _ m G.T.g hmg
 exact al8 m G.T.g G.T.b G.T.builtins G.T.nolimit hg hobj hints (jl hlen j) y t r (λH C p=>i w H a ns hlen C p) λH e s'=>z w H s₁ e s'
def inClass(s:dF)(j:Nat):dF:=match s with
 |.ClassDef _ _ _ body _ _ _ _ _ _ _=>body.getD j (.Pass #[0,0,0,0])
 |_=>.Pass #[0,0,0,0]
def yF(s:dF):Arguments:=match s with
 |.FunctionDef _ a _ _ _ _ _ _ _ _=>a
 |_=>{posonlyargs:=[],args:=[],vararg:=ao,kwonlyargs:=[],kw_defaults:=[],kwarg:=ao,defaults:=[]}
def sU(s:dF):List dF:=match s with
 |.FunctionDef _ _ b _ _ _ _ _ _ _=>b
 |_=>[]
def cO(s:dF):iU:=match s with
 |.FunctionDef _ _ _ _ _ _ sc _ _ _=>sc
 |_=>{kind:=.function,names:=[],isGenerator:=aH,isCoroutine:=aH}
abbrev dJ:uM:=λ_ _ _ _ _ _=>False
abbrev E0:XK:=λ_ _ _=>False
theorem Jy:Passes dJ X E0:=λ_ _ _ _ _ _ _ h=>h.elim
structure f9(K:aU)(x qual:Str)(st:dF)(f:az)(fd:o5):Prop where
 ex:∃(oc:aG)(od:Option az)(kV doc pm:aG)(an:Option az)(cdv ct:aG)(osl:Array (Option aG)),
  fd=wH x qual (yF st) (sU st) (cO st) .none kV doc pm an cdv ct/\K.lookup f=aa #[oc,od,.func fd,osl]/\Lh K cdv qual=aq
 kp:yq K (.ref f)=aq
section
variable{P:dB}{w:cG}{K:aU}{mg:Str->Option aG}{base:cg}
theorem f9.ok{st:dF}{f:az}{k:Nat}{sp:Sp}(F:f9 K x qual st f fd)(S:gO N ps (cO st))(len:∀vs H Q E,sp vs H Q E->vs.length=ps.length)
  (b:∀(a:aG)(A:dN)(outer:List Env)(s:aR)(H:Hp)(vs:012)(Q:VK)(E:XK),dZ k (A.deeper (envOfC qual (cO st) s.heap.objs.size f a))->sp vs H Q E->
   ∃t,jD (xP dJ P w K mg base N qual (cO st) f a A outer s H E).Cu (sU st) t/\t {nx:=λ_ H'=>Q .non H',rt:=Q} (start N vs) H):dG P w K mg base dJ (k+1) f fd ps sp:=by
 refine hide λu j=>?_
 obtain⟨p,o,kV,i,r,n,a,m,e,rfl,l,c⟩:=F.ex
 refine j (aqS l c S len λA outer s H vs Q E g d=>?_)
 obtain⟨t,h,q⟩:=b _ A _ s H vs Q E g d
 exact#[t,h.Cu,q]
theorem f9.binds{st:dF}{f:az}(F:f9 K x qual st f fd)
  (h:∀(kV b d:aG)(c:Option az)(a ct:aG)(us:014),us.length=ps.length->Vs (wH x qual (yF st) (sU st) (cO st) .none kV b d c a ct) #[us,[]]=pure (ps.zip us)):Binds K fd ps []:=by
 obtain⟨k,j,kV,b,d,c,a,ct,g,rfl,i,e⟩:=F.ex
 exact .all (h kV _ d c _ ct)
theorem Oc{x qual:Str}{st:dF}{f:az}{e:aG}{kV b d a ct:aG}(l:K.lookup f=aa #[e,od,.func (wH x qual (yF st) (sU st) (cO st) .none kV b d an a ct),osl])
  (c:Lh K a qual=aq)(k:yq K (.ref f)=aq):f9 K x qual st f (wH x qual (yF st) (sU st) (cO st) .none kV b d an a ct):=#[#[e,od,kV,_,d,an,_,ct,_,rfl,l,c],k]
end
section
variable{X:Cx}
theorem pv(i:Nat){pos:Pos}(b:X.N[i]?=aa x:=by rfl)(c:Zj X.env.scope x:=by first|exact di rfl|exact yO 007|exact yO (yO rfl))(d:(x==("__debug__":Str))=aH:=by decide)
  (a:(x==("__classdict__":Str))=aH:=by decide):PE X (.Name x pos) (jx i):=apn b c d a
end
theorem zp{A B:Prop}(h:B):if aH=aq then A else B:=by lia
theorem zq{A B:Prop}(h:A):if aq=aq then A else B:=by lia
def cT(H H':Hp):Prop:=∀b o,H b=aa o->H' b=aa o
theorem cT.refl(H:Hp):cT H H:=λ_ _ h=>h
theorem cT.trans(a:cT H H1)(b:cT H1 H2):cT H H2:=λc o h=>b c o (a c o h)
theorem cT.seq{K:aU}{a:az}(e:cT H H')(h:b7 K H a xs):b7 K H' a xs:=by
 rcases h with(h|⟨o,h⟩)|h
 .exact .inl (.inl (e _ _ h))
 .exact .inl (.inr #[o,e _ _ h])
 .exact .inr h
section
variable{X:Cx}
theorem akZ:gF X (.builtin "len") (λxs H Q=>∃a au,xs=[V.ref a]/\vU H a au/\Q (.int au.length) H):=by
 intro aA s σ H xs us Q I r h
 obtain⟨a,au,rfl,b,q⟩:=h
 obtain⟨u,rfl,d⟩:=vals1 r
 cases d;exact aqW I b λt s' c=>#[.int _,H,c,#[t,rfl],q]
end
section
variable{κ:Type}[DecidableEq κ]
end
def Cx.blk(X:Cx)(N:009)(scope:iU)(cl:List (Str×az))(C:az)(s:aR)(H:Hp)(fp:015):Cx:=
 {X with N:=N,s0:=s,H₀:=H,env:=Vu scope cl C X.env,outer:=X.stack,ex:=fp,fn:=λx=>scope.names.lookup x==aa .cell,pn:=[],xe:=λ_ _=>False}
theorem Ub(f:Str×Aj->List (Str×az)->Sem (ForInStep (List (Str×az))))
  (l:∀n k r,f (n,k) r=if k==G9 then(do let c <-cellOf aj n;pure (.yield ((n,c)::r))) else pure (.yield r)):
  ∀(names:List (Str×Aj))(cs:List (Str×az)),(∀y∈names,y.2=.free->∃c,aj.cells.lookup y.1=aa c)->(∀n c,cs.lookup n=aa c->aj.cells.lookup n=aa c)->
   ∃cl,(forIn names cs f:Sem (List (Str×az)))=pure cl/\(∀n c,cl.lookup n=aa c->aj.cells.lookup n=aa c)/\
    ∀n,((∃c,cs.lookup n=aa c)\/∃y∈names,y.1=n/\y.2=.free)->∃c,cl.lookup n=aa c
 |[],cs,_,h2=>#[cs,rfl,h2,λn h=>h.elim id λ⟨_,g,_⟩=>nomatch g]
 |(n,k)::r,cs,h1,h2=>by
  rw[Lb,l];by_cases p:k=.free
  .subst p
   obtain⟨c,q⟩:=h1 _ cR rfl
   have i:=q;have e:cellOf aj n=pure c:=by unfold cellOf;rw[i]
   obtain⟨cl,s,j,o⟩:=Ub f l r _ (λy g=>h1 y (dI _ g)) (λm d a=>by
    rw[GK] at a;by_cases b:(m==n)=aq
    .rw[b] at a;have:=eq_of_beq b;subst this;cases a;exact i
    .rw[aiR] at b;rw[b] at a;exact h2 m d a)
   refine#[cl,?_,j,λm a=>o m ?_]
   .rwa [e]
   grind
  .have b:=beq_eq_false_iff_ne.mpr p
   obtain⟨cl,s,j,o⟩:=Ub f l r cs (λy g=>h1 y (dI _ g)) h2
   refine#[cl,?_,j,λm a=>o m ?_]
   .rwa [b]
   grind
theorem Mh(h1:∀y∈scope.names,y.2=.free->∃c,aj.cells.lookup y.1=aa c):
  ∃cl,closureFor scope aj=pure cl/\(∀n c,cl.lookup n=aa c->aj.cells.lookup n=aa c)/\∀y∈scope.names,y.2=.free->∃c,cl.lookup y.1=aa c:=by
 obtain⟨cl,f,d,a⟩:=Ub (λx r=>if(x.2==G9)=aq then(do let c <-cellOf _ x.1;pure (.yield ((x.1,c)::r))) else pure (.yield r)) (λn k r=>rfl) _ [] h1 (λn c h=>by grind)
 have q:=congrArg (λt=>t >>= λg=>pure g) f
 exact#[cl,q,d,λy b e=>a _ (.inr #[y,b,rfl,e])]
theorem T3{scope:iU}{aj:Env}{x:Str}:∀{names:List (Str×Aj)},
  (names.map λ(n,k)=>if(k==G9&&aj.scope.kind==.function&&aj.kindOf n==aa .cell) then(n,t6) else(n,k)).lookup x=
   (names.lookup x).map λk=>if(k==G9&&aj.scope.kind==.function&&aj.kindOf x==aa .cell) then t6 else k
 |[]=>rfl
 |(n,k)::r=>by
  have a:=@T3 scope aj x r
  grind
def frees(js:List Nat)(σ:St):St:=js.map λj=>(σ[j]?).join
section
variable{X:Cx}{σ:St}{H:Hp}{s s1:aR}{js:List Nat}{scope:iU}{fp:List az}
structure pX(X:Cx)(NT NF:List Str)(js:List Nat)(scope:iU):Prop where
 kind:scope.kind=.function
 names:∀y∈scope.names,y.2=.local->scope.names.lookup y.1=aa .local
 cell:∀y∈scope.names,y.2=.cell->scope.names.lookup y.1=aa .cell
 free:∀y∈scope.names,y.2=.free->X.env.scope.names.lookup y.1=aa .cell\/X.env.scope.names.lookup y.1=aa .free
 len:js.length=NF.length
 fr:∀(k:Nat)(j:Nat)(x:Str),js[k]?=aa j->NF[k]?=aa x->X.N[j]?=aa x/\scope.names.lookup x=aa .free
 tg:∀x∈NT,scope.names.lookup x=aa .local\/scope.names.lookup x=aa .cell
 nd:(NT++NF).Nodup
structure Jg(X:Cx)(scope:iU)(h h₁:cg)(cl:List (Str×az)):Prop where
 old:∀n c,cl.lookup n=aa c->X.env.cells.lookup n=aa c\/h.objs.size<c
 fre:∀n c,scope.names.lookup n=aa .free->cl.lookup n=aa c->X.env.cells.lookup n=aa c
 own:∀n c,scope.names.lookup n=aa .cell->cl.lookup n=aa c->h.objs.size<c
 has:∀n,scope.names.lookup n=aa .free\/scope.names.lookup n=aa .cell->∃c,cl.lookup n=aa c
 inj:∀x y c,cl.lookup x=aa c->cl.lookup y=aa c->x=y
 isc:∀n c,cl.lookup n=aa c->∃v,h₁.IsCell c v
theorem Yq:∀(names:List (Str×Aj))(h:cg)(aM:List (Str×az)),(∀x c,aM.lookup x=aa c->c<h.objs.size/\∃v,h.IsCell c v)->(∀x y c,aM.lookup x=aa c->aM.lookup y=aa c->x=y)->
  (∀x y c,(sJ h.objs.size names aM).lookup x=aa c->(sJ h.objs.size names aM).lookup y=aa c->x=y)/\
  (∀x c,(sJ h.objs.size names aM).lookup x=aa c->(aM.lookup x=aa c/\(x,t6)∉names)\/(h.objs.size<=c/\(x,t6)∈names))/\
  (∀x c,(sJ h.objs.size names aM).lookup x=aa c->∃v,(Du h names).IsCell c v)/\
  (∀x,(∃c,aM.lookup x=aa c)\/(x,t6)∈names->∃c,(sJ h.objs.size names aM).lookup x=aa c)/\
  ∀b o,h.get? b=aa o->(Du h names).get? b=aa o
 |[],h,aM,h1,h2=>#[h2,λx c e=>.inl #[e,λm=>nomatch m],λx c e=>(h1 x c e).2,λx e=>e.elim id (λm=>(nomatch m)),λ_ _ e=>e]
 |(n,k)::r,h,aM,h1,h2=>by
  by_cases l:k=.cell
  .subst l;have sz:(h.push {cls:=.type "cell",data:=.cell ao}).objs.size=h.objs.size+1:=u5 ..;have up:∀b o,h.get? b=aa o->(h.push {cls:=.type "cell",data:=.cell ao}).get? b=aa o:=λb o e=>cX _ e
   have j:∀x c,ajW x ((n,h.objs.size)::aM)=aa c->(x=n/\c=h.objs.size)\/(x≠n/\aM.lookup x=aa c):=λx c e=>by
    rw[GK] at e;by_cases a:(x==n)=aq
    .rw[a] at e;cases e;exact .inl #[eq_of_beq a,rfl]
    .have p:=a;rw[aiR] at a;rw[a] at e;exact .inr #[λz=>p (beq_iff_eq.mpr z),e]
   obtain⟨i,g,d,f,s⟩:=Yq r _ _ (λx c e=>by
    rw[sz];rcases j x c e with⟨_,rfl⟩|⟨_,e⟩
    .exact#[zW _,ao,_,fV _ rfl,rfl]
    .obtain⟨B,v,o,u,A⟩:=h1 x c e
     exact⟨yj B,v,o,up _ _ u,A⟩) (λx y c e1 e2=>by
    rcases j x c e1 with⟨p1,p2⟩|⟨_,p2⟩<;>rcases j y _ e2 with⟨r1,r2⟩|⟨_,r2⟩
    .rw[p1,r1]
    .exact absurd (h1 y _ r2).1 (by rw[p2];exact wG _)
    .exact absurd (h1 x _ p2).1 (by rw[r2];exact wG _)
    .exact h2 x y _ p2 r2)
   rw[sz] at i g d f;have t:sJ h.objs.size ((n,t6)::r) aM=sJ (h.objs.size+1) r _:=rfl;have ep:Du h ((n,t6)::r)=Du _ r:=rfl;rw[t,ep]
   refine#[i,λx c e=>?_,d,λx e=>f x ?_,λb o e=>s b o (up b o e)]
   .rcases g x c e with⟨q,m⟩|⟨q,m⟩
    .rcases j x c q with⟨rfl,rfl⟩|⟨ne,q⟩
     .exact .inr #[bQ _,cR]
     .exact .inl ⟨q,λw=>by
       rcases cC.mp w with z|z
       .cases z;exact ne rfl
       .exact m z⟩
    .exact .inr #[Nat.le_of_succ_le q,dI _ m]
   .by_cases a:x=n
    .subst a;exact .inl #[h.objs.size,by simp[GK]]
    .rcases e with⟨c,e⟩|m
     .exact .inl #[c,by rwa [GK,beq_eq_false_iff_ne.mpr a]]
     .rcases cC.mp m with z|z
      .cases z;exact absurd rfl a
      .exact .inr z
  .have a:=beq_eq_false_iff_ne.mpr l;have t:sJ h.objs.size ((n,k)::r) aM=sJ h.objs.size r aM:=by show(if(k==t6)=aq then _ else _)=_;rw[a];rfl
   have ep:Du h ((n,k)::r)=Du h r:=by show(if(k==t6)=aq then _ else _)=_;rw[a];rfl
   obtain⟨i,g,d,f,s⟩:=Yq r h aM h1 h2
   rw[t,ep];have no:∀x,(x,t6)∈(n,k)::r↔(x,t6)∈r:=λx=>by
    rw[cC]
    exact#[λz=>z.elim (λz=>by cases z;exact absurd rfl l) id,.inr]
   exact#[i,λx c e=>by rw[no];exact g x c e,d,λx e=>f x (by rw[no] at e;exact e),s]
theorem Zq(I:06)(B:pX X NT NF js scope)(a:∀n c,cl.lookup n=aa c->X.env.cells.lookup n=aa c)(u:∀y∈scope.names,y.2=.free->∃c,cl.lookup y.1=aa c)
  (A:∀rR h₁,Jg X scope s.heap h₁ rR->h₁.Ns s.heap.objs.size (λ_=>ao)->(∀b o,s.heap.get? b=aa o->h₁.get? b=aa o)->Q (newEnv scope s.heap.objs.size X.env.globals rR X.env.qual ao .none (aa X.env) builtinsNs) {s with heap:=h₁}):
  bf 05 X.A (Ti scope X.env.globals cl [] X.env.qual ao .none (aa X.env)) Q E s:=by
 have sz:(s.heap.push {cls:=.type "dict",data:=.dict #v[]}).objs.size=s.heap.objs.size+1:=u5 ..;have up:∀b o,s.heap.get? b=aa o->(s.heap.push {cls:=.type "dict",data:=.dict #v[]}).get? b=aa o:=λb o e=>cX _ e
 obtain⟨r,z,k,d,l⟩:=Yq _ _ cl (λx c e=>by
  obtain⟨v,o,e1,e2⟩:=I.cell x c (a x c e)
  exact⟨by rw[sz];exact yj (cY e1),v,o,up _ _ e1,e2⟩) (λx y c e1 e2=>I.ok.inj x y c (a x c e1) (a y c e2))
 rw[sz] at r z k d;have g:∀x,scope.names.lookup x=aa _↔(x,t6)∈scope.names:=λx=>#[λe=>zT e,λm=>B.cell _ m rfl]
 have t:Jg X scope s.heap (Du (s.heap.push {cls:=.type "dict",data:=.dict #v[]}) scope.names) (sJ (s.heap.objs.size+1) scope.names cl):=by
  refine#[λn c e=>?_,λn c p e=>?_,λn c q e=>?_,λn w=>?_,r,k]
  .grind
  .grind
  .grind
  .rcases w with p|q
   .exact d n (.inl (u _ (zT p) rfl))
   .exact d n (.inr ((g n).mp q))
 have f:=A _ _ t ((Heap.Ns.new (h:=s.heap) _).keeps l) λb o e=>l b o (up b o e)
 simp only[Ti,aio,if_true];refine aJ (wpAny_alloc (aJ (wpAny_layCells _ (λname j i=>rfl) _ _ _ _ ?_)));rw[sz];exact aJ (bu (bu f))
theorem Inv.blk(I:06)(B:pX X NT NF js scope)(f:Jg X scope s.heap s1.heap cl)
  (E:∀b∈fp,mF X aA H b)(n:∀b∈fp,b<s.heap.objs.size)(D:s1.heap.Ns s.heap.objs.size m)(keep:∀b o,s.heap.get? b=aa o->s1.heap.get? b=aa o)
  (F:s1.os=s.os)(U:AllBare s1.gens):
  Inv (X.blk (NT++NF) scope cl s.heap.objs.size s H fp) [] (cH NT.length ao++frees js σ) H s1:=by
 have look:∀x,(X.blk (NT++NF) scope cl s.heap.objs.size s H fp).env.kindOf x=(scope.names.lookup x).map _:=λx=>T3 (scope:=scope)
 have G:∀x,((X.blk (NT++NF) scope cl _ s H fp).env.kindOf x=aa .cell\/(X.blk (NT++NF) scope cl _ s H fp).env.kindOf x=aa .free)->scope.names.lookup x=aa .free\/scope.names.lookup x=aa .cell:=λx h=>by
  rw[look] at h;cases e:scope.names.lookup x with
  |none=>rw[e] at h;simp at h
  |some k=>
   rw[e] at h;by_cases q:k=.free
   .rw[q];exact .inl rfl
   .have d:=beq_eq_false_iff_ne.mpr q;simp only[pI,d,if_false,aiB] at h;rcases h with h|h
    .subst h;exact .inr rfl
    .exact absurd h q
 refine⟨⟨I.ok.mod,B.kind,I.ok.glob,I.ok.blt,bQ _,f.inj,λx V=>?_,λx c h e=>yu (f.own x c (eq_of_beq h) e),I.ok.hd,I.ok.frames,.inl rfl,λb d=>⟨fW (n b d),λx c e=>(f.old x c e).elim (λz=>(E b d).2.2.2.2.1 x c z) λz=>Ho (Lx (n b d) z)⟩,I.bs,jl I.ok.xV I.sz,λb o e d=>?_,λb d J=>?_,I.stack,I.adn⟩,
  F,U,Un.kept keep,⟨m,D,λi x v h1 h2 h3=>?_⟩,λx c e=>?_,I.hok.fresh (bQ _),λx c e=>(f.old x c e).elim (I.ux x c) λz=>I.hok.fresh (yu z),λp R=>(nomatch(R)),I.hok.kept keep,?_⟩
 .exact f.has x (G x V)
 .rcases(E b d).2.2.2.1 with z|z
  .exact I.ok.JR b o e z
  .exact absurd (oV (cY e) (jl I.ok.xV z)) (wG _)
 .obtain⟨_,N,P,_⟩:=E b d
  rcases cC.mp (I.Ek b J) with z|z
  .exact N z
  .exact P z
 .have w:(NT++NF)[i]?=aa x:=h1;by_cases hi:i<NT.length
  .rw[gK (by simpa using hi),Z2] at h2;split at h2<;>cases h2
  .have g:NT.length<=i:=aD;rw[gh (by simpa using g)] at h2;rw[gh g] at w;simp only[wA] at h2;unfold frees at h2;rw[jr] at h2;cases ej:js[i-NT.length]? with
   |none=>rw[ej] at h2;cases h2
   |some j=>
    rw[ej] at h2;have a:=by simpa using h2
    refine hide λT K=>?_
    obtain⟨O,C⟩:=B.fr _ j x ej w
    have W:σ[j]?=aa (aa v):=by
     cases e:σ[j]? with
     |none=>rw[e] at a;cases a
     |some o=>rw[e] at a;simp at a;rw[a]
    have q:=B.free _ (zT C) rfl;have y:=q
    obtain⟨m0,Z,L⟩:=I.loc
    obtain⟨u,r,l⟩:=L j x v O W (.inr y)
    refine K (#[u,r,.inr #[?_,?_]])
    .rw[look,C];by_cases M:(G9==G9&&X.env.scope.kind==.function&&X.env.kindOf x==aa .cell)=aq
     .left;simp only[pI,M,if_true]
     .right;simp only[pI,M];rfl
    .refine hide λT K=>?_;rcases l with⟨k0,_⟩|⟨_,c,e,z⟩
     .have t:X.env.scope.names.lookup x=aa .local:=k0;rcases y with z|z<;>rw[z] at t<;>cases t
     .obtain⟨S,A⟩:=f.has x (.inl C)
      have e2:=f.fre x S C A;rw[e] at e2;cases e2
      obtain⟨o,Q,Y⟩:=z
      exact K (#[c,A,o,keep c o Q,Y])
 .exact f.isc x c e
 .show(cH NT.length ao++frees js σ).length=(NT++NF).length
  unfold frees;simp[B.len]
theorem pX.loc(B:pX X NT NF js scope)(a:x∈NT):Loc (X.blk (NT++NF) scope cl C s H fp).env.scope x/\((X.blk (NT++NF) scope cl C s H fp).fn x=aq\/(X.blk (NT++NF) scope cl C s H fp).env.scope.names.lookup x=aa .local):=by
 rcases B.tg x a with h|h
 .exact#[.inl (ahW h),.inr (ahW h)]
 .refine#[.inr ?_,.inl (beq_iff_eq.mpr h)]
  show(scope.names.map _).lookup x=_
  rw[T3 (scope:=scope),h];rfl
theorem Jg.ne(d:Jg X scope s.heap h₁ cl)(f:mF X aA H b)(a:b<s.heap.objs.size)(e:cl.lookup x=aa c):c≠b:=(d.old x c e).elim (λz=>f.2.2.2.2.1 x c z) λz=>Ho (Lx a z)
theorem Inv.Yr(I:06)(a:∀b∈fp,mF X aA H b)(J:Inv (X.blk N scope cl s.heap.objs.size s H fp) Yl F' H' s'):Inv X aA σ H' s':=
 I.call' J.os J.base J.hok J.bare λb c=>#[(a b c).2.2.2.1,(a b c).2.1,(a b c).2.2.2.2.1,(a b c).2.2.2.2.2]
end
theorem adA(a:List α)(x y:α)(b:List α)(h:a.length=n):(a++x::b).set n y=a++y::b:=by
 simp_all
inductive gU where
 |one|many (n:Nat)
def xX(K:aU):gU->V->Hp->List V->Prop
 |.one,x,_,vs=>vs=[x]
 |.many n,x,H,vs=>∃a,x=.ref a/\dH K H a vs/\vs.length=n
def isNm(e:Expr)(x:Str):Prop:=∃pos,e=.Name x pos
def nU(tg:Expr)(NT:009):gU->Prop
 |.one=>∃x,isNm tg x/\NT=[x]
 |.many n=>∃es k pos,tg=.Tuple es k pos/\Paired isNm es NT/\NT.length=n
theorem Uq:∀{es:List Expr}{NT:009},Paired isNm es NT->vg es aj=es.map λe=>(aH,assign e aj)
 |_,_,.nil=>rfl
 |_,_,.cons ⟨_,e⟩ t=>by
  subst e
  show(aH,assign _ _)::vg _ _=_
  rw[Uq t];rfl
theorem abT(p:Paired isNm es NT):∀{pre NF:009}{σp fs:St}{s:aR}{vs:012}{us:014}{Q:Unit->aR->Prop},
  X.N=pre++NT++NF->X.N.Nodup->(∀x∈NT,Loc X.env.scope x/\(X.fn x=aq\/X.env.scope.names.lookup x=aa .local))->σp.length=pre.length->vs.length=NT.length->
  Inv X aA (σp++(cH NT.length ao++fs)) H s->Vals vs us->(∀s',Inv X aA (σp++(vs.map aa++fs)) H s'->Q () s')->
  bf 05 X.A (assignInOrder (es.map λe=>assign e X.env) us) Q E s:=by
 induction p with
 |nil=>
  intro pre NF σp fs s vs us Q j d b c a I r q;cases vs with
  |cons _ _=>simp at a
  |nil=>
   exact assignInOrder_nil (q s I)
 |@cons e x es NT he t ih=>
  intro pre NF σp fs s vs us Q j d b c a I r q;refine hide λm k=>?_
  cases vs with
  |nil=>simp at a
  |cons v vs=>
   cases r with
   |cons r rr=>
    obtain⟨pos,rfl⟩:=he
    have f:=b x cR;have hi:X.N[pre.length]?=aa x:=by grind
    refine k (assignInOrder_cons (K3 (vh I d hi f.1 r (λs' g=>?_) f.2)));have e1:(σp++(cH (x::NT).length _++fs)).set _ _=(σp++[aa v])++(cH _ ao++fs):=(adA σp _ _ _ c).trans (List.append_cons σp _ _);rw[e1] at g;refine ih (pre:=pre++[x]) (NF:=NF) 002 d (λy i=>b y (dI _ i)) (by simp[c]) 002 g rr λh l=>q h ?_
    grind
theorem apK(j:nU tg NT T)(z:X.N=NT++NF)(m:017)(B:011)
  (h:∀x∈NT,Loc X.env.scope x/\(X.fn x=aq\/X.env.scope.names.lookup x=aa .local))(I:Inv X aA (cH NT.length ao++fs) H s)(r:RelV v u)(g:xX X.K T v H vs)
  (q:∀s',Inv X aA (vs.map aa++fs) H s'->Q () s'):bf 05 X.A (assign tg X.env u) Q E s:=by
 refine hide λJ l=>?_
 cases T with
 |one=>
  obtain⟨x,⟨pos,rfl⟩,rfl⟩:=j
  have d:=g;subst d;have c:=h x cR;exact l (K3 (vh I m (i:=0) 002 c.1 r (λs' D=>q s' D) c.2))
 |many n=>
  obtain⟨es,k,pos,rfl,p,K⟩:=j
  obtain⟨a,rfl,C,f⟩:=g
  cases r
  obtain⟨F,t,A,G⟩:=I.tuple C
  have e:=Uq (aj:=X.env) p;have w:=p.length;refine l (assign_Tuple_tuple (I.ok.hd B) A (by rw[e];simp only[bC,oX];rw[<-t.length];lia) 002 λh' c=>?_);have y:=I.kept (t':=s.toks) λb o e=>c b o (fW (cY e)) e
  rw[e,eZ];exact abT p (pre:=[]) (σp:=[]) (by rw[z];rfl) m h rfl aD y 002 q
def turnOf(target iter:Expr)(ifs:List Expr)(it:aG)(aj:Env)(emit:Sem Unit)(more:Sem PySem.Fin):Sem PySem.Fin:=do
 nJ iter.pos
 match <-qu it with
 |none=>pure (.done .next)
 |some v=>
  Dh target it v
  assign target aj v
  let mut ok:=aq
  for c in ifs do
   if ok then ok <-isTrue c aj (eval c aj)
  if ok then emit
  more
theorem akk(elt target iter:Expr)(ifs:List Expr)(scope:iU)(pos:Pos)(it aM:aG)(aj:Env):
  vm (.ListComp elt [#[target,iter,ifs,0]] scope pos) 0 it aM aj=turnOf target iter ifs it aj (do let _ <-call (.builtin "list.append") [aM,<-eval elt aj]) (again (.compLoop (.ListComp elt [#[target,iter,ifs,0]] scope pos) 0 it aM aj)):=rfl
theorem ak0(elt target iter:Expr)(ifs:List Expr)(scope:iU)(pos:Pos)(it aM:aG)(aj:Env):
  vm (.SetComp elt [#[target,iter,ifs,0]] scope pos) 0 it aM aj=turnOf target iter ifs it aj (do let v <-eval elt aj;nJ elt.pos;let _ <-call (.builtin "set.add") [aM,v]) (again (.compLoop (.SetComp elt [#[target,iter,ifs,0]] scope pos) 0 it aM aj)):=rfl
def nA(X:Cx)(ifs:List Expr)(t:TT):Prop:=
 ∀(aA:004)(s:aR)(σ:St)(H:Hp)(Q:Bool->Hp->Prop),Inv X aA σ H s->t σ H Q->
  bf 05 X.A (forIn ifs aq λc r=>if r=aq then do let ok <-isTrue c X.env (eval c X.env);pure (ai4 ok) else pure (ai4 r)) (TP X aA σ Q) X.xe s
def arw:TT:=λ_ H Q=>Q aq H
theorem anW:nA X [] arw:=λ_ _ _ H _ I h=>wpAny_tests_nil #[H,I,h]
theorem anY(h:PT X c t):nA X [c] t:=λaA s σ H Q I q=>wpAny_tests_one (h _ s σ H Q I q)
abbrev TM:=St->Hp->(Hp->Prop)->Prop
def PM(X:Cx)(emit:Sem Unit)(t:TM):Prop:=
 ∀(aA:004)(s:aR)(σ:St)(H:Hp)(Q:Hp->Prop),Inv X aA σ H s->t σ H Q->
  bf 05 X.A emit (λ_ s'=>∃H',Inv X aA σ H' s'/\Q H') X.xe s
def Ea(D:az)(te:TE):TM:=λσ H Q=>te σ H λy H1=>∃xs,H1 D=aa (.lst xs)/\xs.length<cz/\Q (upd H1 D (.lst (xs++[y])))
theorem abU(i:PE X elt te):PM X (do let _ <-call (.builtin "list.append") [.ref D,<-eval elt X.env]) (Ea D te):=by
 intro aA s σ H Q I h;refine aJ (bY (i _ s σ H _ I h) λv s1 j=>hide λl g=>?_)
 obtain⟨y,H1,e,f,xs,a,d,q⟩:=j
 refine g (aJ (bY (HD _ s1 σ H1 (.ref D) _ _ _ _ e rfl (.cons f .nil) #[D,xs,y,rfl,rfl,a,d,q]) λ_ k ⟨_,H2,b,_,c⟩=>bu #[H2,b,c]))
def BL(K:aU)(T:gU)(ts:TT)(em:TM)(fs:St)(J:It)(H0:Hp)(done:Hp->Prop):Prop:=
 ∃W:Nat->Nat->Hp->Prop,(∃m,W 0 m H0)/\∀i m H,W i m H->
  (J.stop i H/\done H)\/(J.go i H/\∀x H',J.J6 i H x H'->∃vs,xX K T x H' vs/\
   ts (vs.map aa++fs) H' λb H2=>if b=aq then em (vs.map aa++fs) H2 λH3=>∃m',m'<m/\W (i+1) m' H3 else ∃m',m'<m/\W (i+1) m' H2)
section
variable{X:Cx}{NT NF:List Str}{ifs:List Expr}{T:gU}{ts:TT}{em:TM}{emit:Sem Unit}{aM:aG}{fp:List az}{it:az}{J:It}
theorem al9{fs:St}{vs:012}{H:Hp}(a:vs.length=NT.length)(I:Inv X aA (vs.map aa++fs) H s):Inv X aA (cH NT.length ao++fs) H s:=
 I.weak 002 λi v h=>by grind
theorem xX.len{K:aU}{x:V}{H:Hp}(a:nU tg NT T)(h:xX K T x H vs):vs.length=NT.length:=by
 cases T with
 |one=>obtain⟨y,_,rfl⟩:=a;rw[h];rfl
 |many n=>obtain⟨_,_,_,_,_,e⟩:=a;obtain⟨_,_,_,b⟩:=h;lia
theorem Vv(hx:X.xe=λ_ _=>False)(hT:vm e 0 (.ref it) aM X.env=turnOf tg iter ifs (.ref it) X.env emit (again (.compLoop e 0 (.ref it) aM X.env)))
  (Z:(t7 e 0 (.ref it) aM X.env).isFrame=aH)(Zr:(t7 e 0 (.ref it) aM X.env).quiet=aq)(hA:X.A.under (t7 e 0 (.ref it) aM X.env)=X.A)
  (C:nU tg NT T)(hN:X.N=NT++NF)(nd:017)(w:011)(hl:∀x∈NT,Loc X.env.scope x/\(X.fn x=aq\/X.env.scope.names.lookup x=aa .local))
  (y:nA X ifs ts)(q:PM X emit em)(TT:Turn X.prog X.w X.K tg J fp it tn)(N:∀b∈fp,mF X [] H b)(I:Inv X [] (cH NT.length ao++fs) H s)(st:tn 0 s.heap)(c:BL X.K T ts em fs J H done)
  (V:∀H' s' F',Inv X [] F' H' s'->done H'->R (.ok .next) s'):
  lH 05 X.A (.compLoop e 0 (.ref it) aM X.env) R s:=by
 obtain⟨W,⟨m0,w0⟩,turn⟩:=c
 have a:∀{H':Hp},(∀b∈fp,H' b=ao)->∀b∈fp,mF X [] H' b:=λhn b c=>#[hn b c,(N b c).2]
 have K:∀{α:Type}{t:Sem α}{Q:α->aR->Prop}{E:aG->aR->Prop}{s:aR},bf _ X.A t Q (λ_ _=>False) s->bf 05 X.A t Q E s:=λh=>qY h (λ_ _ z=>z) λ_ _ z=>z.elim
 have D:∀{α:Type}{t:Sem α}{Q:α->aR->Prop}{E:aG->aR->Prop}{s:aR},bf 05 X.A t Q X.xe s->bf _ X.A t Q E s:=λh=>K (by rwa [hx] at h)
 refine codeAny_loop Zr (λn s'=>∃i H',Inv X [] _ H' s'/\tn i s'.heap/\(∀b∈fp,H' b=ao)/\W i n H') ?_ m0 #[0,H,I,st,λb c=>(N b c).1,w0];rintro n s3 ⟨i,H3,I3,st3,zK,w3⟩;rw[hA];show bf _ X.A (if(t7 e 0 (.ref it) aM X.env).isFrame=aq then(vm e 0 (.ref it) aM X.env).onRaise (leaving X.env) else(vm e 0 (.ref it) aM X.env).onRaise _) _ _ s3;rw[Z];refine wpAny_noted (K ?_);rw[hT];unfold turnOf;refine aJ (u6 (aJ (hide λGG p=>?_)));rcases turn i n H3 w3 with⟨stop,qn⟩|⟨go,step⟩
 .refine p (bY (TT.done X rfl rfl rfl w i [] s3 _ H3 _ I3 (a zK) st3 stop) λr O f=>?_)
  obtain⟨A,I4⟩:=f
  subst A;exact bu (V H3 O _ I4 qn)
 .refine p (bY (TT.item X rfl rfl rfl w i [] s3 _ H3 _ I3 (a zK) st3 go) λr O f=>?_)
  obtain⟨u,A,h4⟩:=f
  subst A;refine aJ (bY h4 λ_ s5 f=>(hide λGG p=>?_))
  obtain⟨x,G,I5,r5,U,B,J7⟩:=f
  have J8:=I5.pinned (a J7) (TT.obj _ _ B)
  obtain⟨vs,M,q5⟩:=step x G U
  have v:=xX.len C M;refine p (aJ (apK C hN nd w hl J8 r5 M λs6 I6=>(aJ (D (bY (y _ s6 _ G _ I6 q5) λb s7 f=>?_)))))
  obtain⟨Y,L,P⟩:=f
  have F:∀{g:aR}{j:Hp},Inv X _ (vs.map aa++fs) j g->(∃l,l<n/\W (i+1) l j)->
    (t7 e 0 (.ref it) aM X.env=t7 e 0 (.ref it) aM X.env)/\∃m,m<n/\∃i H',Inv X [] _ H' g/\tn i g.heap/\(∀b∈fp,H' b=ao)/\W i m H':=λ{g j} k n8=>by
   obtain⟨l,hm,w8⟩:=n8
   refine#[rfl,l,hm,i+1,j,al9 v k.HW,TT.keep _ _ _ B λb c o e=>(k.pin (b,o) (fJ _ (fJ _ (Dr c e)))).1,λb c=>?_,w8]
   obtain⟨o,e,d⟩:=TT.obj _ _ B b c
   exact(k.pin (b,o) (fJ _ (fJ _ (Dr c e)))).2.1
  cases b with
  |false=>exact bu (F L P)
  |true=>exact aJ (D (bY (q _ s7 _ Y _ L P) λ_ g ⟨j,k,S⟩=>bu (F k S)))
end
structure Bk where
 cl:List (Str×az)
 C:az
 s:aR
 H:Hp
 fp:List az
abbrev Cx.bk(X:Cx)(N:List Str)(scope:iU)(b:Bk):Cx:=X.blk N scope b.cl b.C b.s b.H b.fp
section
variable{X:Cx}{js:List Nat}{ifs:List Expr}{T:gU}{wi:TI}{ts:Bk->TT}{te tk' tv:Bk->TE}{scope:iU}{pos:Pos}
def Zt(K:aU)(wi:TI)(T:gU)(ts:Bk->TT)(te:Bk->TE)(js:List Nat):TE:=λσ H Q=>wi σ H λJ H1=>∀D,H1 D=ao->∀b,BL K T (ts b) (Ea D (te b)) (frees js σ) J (upd H1 D (.lst [])) (Q (.ref D))
theorem aex{σ:St}{a:aR}{H2:Hp}{cl:List (Str×az)}{it:az}{fp:015}{tn:Nat->cg->Prop}{J:It}{Q:Hp->Prop}{RR:aG->az->Em->aR->Prop}{E:aG->aR->Prop}
  (B:pX X NT NF js scope)(I:nU tg NT T)(M:011)
  (j:∀b,nA (X.bk (NT++NF) scope b) ifs (ts b)/\PE (X.bk (NT++NF) scope b) elt (te b))
  (A:∀n c,cl.lookup n=aa c->X.env.cells.lookup n=aa c)(L:∀y∈scope.names,y.2=.free->∃c,cl.lookup y.1=aa c)
  (t:Inv X aA σ H2 a)(TT:Turn X.prog X.w X.K tg J fp it tn)(st2:tn 0 a.heap)(u:∀b∈fp,mF X aA H2 b)
  (q:∀b,BL X.K T (ts b) (Ea a.heap.objs.size (te b)) (frees js σ) J (upd H2 a.heap.objs.size (.lst [])) Q)
  (F:∀C H' s' m,Inv X aA σ H' s'->mF X aA H' C->s'.heap.Ns C m->Q H'->RR (.ref a.heap.objs.size) C (.ok .next) s'):
  bf (model X.prog X.w) X.A (newList []) (λaM s₃=>bf (model X.prog X.w) X.A (Ti scope X.env.globals cl [] X.env.qual ao .none (aa X.env)) (λcenv s₄=>
   lH (model X.prog X.w) X.A (.compStart (.ListComp elt [⟨tg,iter,ifs,0⟩] scope pos) 0 (.ref it) aM {cenv with scope:=relabel scope X.env}) (RR aM cenv.locals) s₄) E s₃) E a:=by
 refine nF ?_;have i:Inv X aA σ (upd H2 a.heap.objs.size (.lst [])) _:=
  t.laid (t':=a.toks) (λb o e=>cX _ e) (bQ _) #[jJ _,[],0,.nil,fV _ rfl]
 have l:(a.heap.push {cls:=.type "list",dict:=ao,data:=.seq ([]:List aG).toArray}).objs.size=a.heap.objs.size+1:=u5 ..;refine Zq i B A L λrR h₁ cb hns1 keep=>?_
 have v:∀b∈fp,b<a.heap.objs.size:=λb d=>by
  obtain⟨o,e,_⟩:=TT.obj 0 _ st2 b d
  exact cY e
 have g:∀b∈fp,mF X aA (upd H2 a.heap.objs.size (.lst [])) b:=λb d=>#[by rw[c7 (fW (v b d))];exact(u b d).1,(u b d).2]
 have r:∀b∈fp,b<(a.heap.push _).objs.size:=λb d=>by have:=v b d;rw[l];exact yj this
 have H:=i.blk (s1:={a with heap:=h₁}) B cb g r hns1 keep rfl t.bare;have w:tn 0 h₁:=TT.keep 0 _ _ st2 λb _ o e=>keep b o (cX _ e)
 obtain⟨D,K⟩:=j #[rR,_,_,upd H2 a.heap.objs.size (.lst []),fp]
 have f:lH (model X.prog X.w) X.A (.compLoop (.ListComp elt [#[tg,iter,ifs,0]] scope pos) 0 (.ref it) (.ref a.heap.objs.size) (Vu scope rR (a.heap.push {cls:=.type "list",dict:=ao,data:=.seq ([]:List aG).toArray}).objs.size X.env))
   (RR (.ref a.heap.objs.size) (a.heap.push {cls:=.type "list",dict:=ao,data:=.seq ([]:List aG).toArray}).objs.size) {a with heap:=h₁}:=by
  refine Vv (X:=X.blk (NT++NF) scope rR _ _ (upd H2 a.heap.objs.size (.lst [])) fp)
   (T:=T) (fs:=frees js σ) (done:=Q) rfl (akk elt tg iter ifs scope pos _ _ _) rfl rfl rfl I rfl B.nd M (λx O=>B.loc O) D (abU K) TT (λb d=>?_) H w (q _) λH' s' F' J' qd=>?_
  .exact⟨(g b d).1,fW (r b d),λk=>by
    rcases cC.mp (i.Ek b k) with z|z
    .exact(g b d).2.1 z
    .exact(g b d).2.2.1 z,.inl d,λx c e=>cb.ne (g b d) (r b d) e,λp G=>(nomatch(show p∈([]:List (az×Obj)) from G))⟩
  .obtain⟨m,N,_⟩:=J'.loc
   exact F _ H' s' m (i.Yr g J') (i.Bx (bQ _) J'.free) N qd
 exact ahJ f (TT.self _ 0 _ _ _ w f)
theorem aqY(B:pX X NT NF js scope)(r:nU tg NT T)(u:011)(hi:PI X tg iter wi)
  (d:∀b,nA (X.bk (NT++NF) scope b) ifs (ts b)/\PE (X.bk (NT++NF) scope b) elt (te b))
  (l:∀x,qm iter X.env x=pure x:=by intro _;rfl):PE X (.ListComp elt [#[tg,iter,ifs,0]] scope pos) (Zt X.K wi T ts te js):=by
 intro aA s σ H Q I h
 obtain⟨cl,a,j,t⟩:=Mh λy n e=>I.ok.has _ (B.free y n e)
 refine RP rfl l a B.kind B.names (bY (hi _ s σ H _ I h) λv s1 h1=>bY h1 λz g D=>?_);refine hide λF A=>?_
 obtain⟨it,fp,tn,J,H2,e,f,TT,st2,k,q⟩:=D
 subst e;refine A (aex (Q:=λH'=>Q (.ref g.heap.objs.size) H') (RR:=λaM C=>compPost 05 X.A X.xe ao (EP X aA σ Q) aM C) B r u d j t f TT st2 k (q _ (f.hok.fresh (bQ _))) λC H' s' m E c w p=>(#[m,w,λh' sb=>#[.ref g.heap.objs.size,H',?_,rfl,p]]));exact E.turned (λb o i e=>(sb.2 b i).trans e) c.1 c.2.1 c.2.2.2.1 c.2.2.2.2.1 c.2.2.2.2.2
theorem ama(B:pX X NT NF js scope)(L:nU tg NT T)(M:011)(hi:PI X tg iter wi)
  (j:∀b,nA (X.bk (NT++NF) scope b) ifs (ts b)/\PE (X.bk (NT++NF) scope b) elt (te b))
  (k:lG (.ListComp elt [#[tg,iter,ifs,0]] scope pos) (aa (.Name y pos')) spos.line X.env=pure aq)
  (F:017)(E:X.N[i]?=aa y)(f:X.env.scope.names.lookup y=aa .local)
  (A:∀x,qm iter X.env x=pure x:=by intro _;rfl):PS X (.Assign [.Name y pos'] (.ListComp elt [#[tg,iter,ifs,0]] scope pos) spos) (zm (Zt X.K wi T ts te js) (vH i)):=by
 intro aA s σ H D I h
 obtain⟨cl,c,r,N⟩:=Mh λy f e=>I.ok.has y.1 (B.free y f e)
 rw[exec_Assign_Name_used _ _ _ _ k];refine aJ (u6 (aJ ?_));refine aJ (qY (RP rfl A c B.kind B.names
  (bY (hi aA s σ H _ I h) λv s1 h1=>bY h1 λQ V ⟨it,fp,tn,J,H2,e,n,TT,st2,u,q⟩=>?_)) (λ_ s' P=>bu (bu P)) λ_ _ e=>e)
 subst e;refine aex B L M j r N n TT st2 u (q _ (n.hok.fresh (bQ _))) λC H' s' m U d R G=>?_
 refine K3 (abJ U F E (.inl f) (v:=.ref _) rfl (λO K S=>?_) (.inr f))
 obtain⟨a,sb,t⟩:=S
 have l:C≠a:=by
  rcases t with z|z
  .rw[z];exact d.2.1
  .exact λw=>d.2.2.2.2.1 y a z w.symm
 exact#[m,R.sameBut sb l,λh' g=>#[_,H',K.turned (t':=O.toks) (λb o p e=>(g.2 b p).trans e) d.1 d.2.1 d.2.2.2.1 d.2.2.2.2.1 d.2.2.2.2.2,G]]
end
def Zu(z:Str):It:=#[λi _=>i<z.cps.size,λi H x H'=>H'=H/\∃c,z.cps[i]?=aa c/\x=.str #[#v[c]],λi _=>z.cps.size<=i]
theorem amb{P:dB}{w:cG}{K:aU}{tg:Expr}{z:Str}{t:Tok}{ty:String}{it:az}(f:ty="str_ascii_iterator"\/ty="str_iterator")(F:∀i u,Dh tg i u=pure ()):
  Turn P w K tg (Zu z) [it] it (λi h=>h.IsStrIter it ty z t i) where
 mem:=bH
 obj:=λi h st b a=>by
  have e:b=it:=by simpa using a
  subst e
  obtain⟨o,e,c,d⟩:=st
  exact#[o,e,λv q=>by rw[d] at q;cases q]
 keep:=λi h h' st k=>let ⟨o,ho,r⟩:=st;#[o,k it bH o ho,r]
 item:=by
  intro X A J y g i aA s σ H E I n st G;subst A J y
  obtain⟨m,j,M,l,p,x⟩:=n it bH
  have hi:i<z.cps.size:=G;have W:Walks X.prog X.w X.A it [it] [it] z.cps.size (SignAt z) (λi h=>h.IsStrIter it ty z t i):=by
   rcases f with rfl|rfl
   .exact Walks.strAscii (I.ok.hd g) it z t
   .exact Walks.strWide (I.ok.hd g) it z t
  refine W.item i s _ _ hi st λv h' Q L D O=>?_
  obtain⟨c,u,B,rfl⟩:=L
  have N:Inv X aA σ H {s with heap:=h',toks:=Q}:=I.turned (λb o a e=>O b o (by simpa using a) e) m j l p x
  refine#[_,rfl,?_]
  rw[F];exact bu #[.str #[#v[c]],H,N,#[u,rfl],#[rfl,c,B,rfl],D,λb a=>(n b a).1]
 done:=by
  intro X A J y g i aA s σ H E I n st G;subst A J y
  obtain⟨m,j,M,l,p,x⟩:=n it bH
  have hi:z.cps.size<=i:=G;rcases f with rfl|rfl
  .exact wpAny_pyNext_ascii_end (I.ok.hd g) st (by simpa using hi) λh' C=>#[rfl,I.turned (t':=s.toks) (λb o a e=>C b o a e) m j l p x]
  .exact wpAny_pyNext_wide_end (I.ok.hd g) st (by simpa using hi) λh' C=>#[rfl,I.turned (t':=s.toks) (λb o a e=>C b o a e) m j l p x]
 self:=λ_ _ _ _ _ st h=>by
  rcases f with rfl|rfl
  .exact wpAny_pyIter_striter_ascii st h
  .exact wpAny_pyIter_striter_wide st h
def arx(tl:TE):TI:=λσ H R=>tl σ H λx H1=>∃z,x=.str z/\R (Zu z) H1
theorem aey(k:PE X l tl)(f:∀i u,Dh tg i u=pure ():=by intro _ _;rfl):PI X tg l (arx tl):=by
 intro aA s σ H R I h;refine bY (k aA s σ H _ I h) λv s1 p=>?_
 refine hide λr g=>?_
 obtain⟨x,H1,c,m,n⟩:=p
 obtain⟨z,e,q⟩:=n
 subst e
 obtain⟨t,rfl⟩:=m
 have a:∀(o:Obj)(ty:String),(ty="str_ascii_iterator"\/ty="str_iterator")->Heap.IsStrIter (s1.heap.push o) s1.heap.objs.size ty z t 0->PIE X aA σ tg R (.ref s1.heap.objs.size) _:=λo ty d st=>by
  refine#[s1.heap.objs.size,[s1.heap.objs.size],_,_,H1,rfl,c.kept (t':=s1.toks) λb o e=>cX _ e,amb d f,st,λb j=>?_,q]
  have e:b=s1.heap.objs.size:=by simpa using j
  subst e;exact c.Bx (bQ _) (c.hok.fresh (bQ _))
 cases ha:z.cps.all (·<128)
 .exact g (wpAny_pyIter_wide ha (a _ _ (.inr rfl) #[_,fV _ rfl,rfl,rfl]))
 .exact g (wpAny_pyIter_ascii ha (a _ _ (.inl rfl) #[_,fV _ rfl,rfl,rfl]))
theorem ak1:dR X (gG .LtE) (λx y H Q=>∃i j,x=.str i/\y=.str j/\Q (.bl (!(decide (j.cps.toList<i.cps.toList)))) H):=by
 intro aA s σ H x y v u Q I rx a h
 obtain⟨i,j,rfl,rfl,q⟩:=h
 obtain⟨t,rfl⟩:=rx
 obtain⟨b,rfl⟩:=a
 exact PySem.P.le_str (gH I q rfl)
theorem Mi:∀{ys:009}{us:014},Vals (ys.map V.str) us->StrsAre us ys
 |[],_,h=>by cases h;exact .nil
 |y::ys,_,h=>by
  cases h with
  |cons r rr=>
   obtain⟨t,rfl⟩:=r
   exact .cons y t (Mi rr)
theorem anZ:uO X "str.join" (λx xs H Q=>∃z p ys,x=.str z/\xs=[.ref p]/\b7 X.K H p (ys.map V.str)/\(ys.map (·.length)).sum+ys.length*z.length<=16777216/\Q (.str (Txt.join z ys)) H):=by
 intro aA s σ H x xs v us Q I rx r h;refine hide λi e=>?_
 obtain⟨z,p,ys,rfl,rfl,c,b,q⟩:=h
 obtain⟨t,rfl⟩:=rx
 obtain⟨u,rfl,d⟩:=vals1 r
 cases d
 obtain⟨f,a,pl,_⟩:=I.list c
 exact e (join_list pl.isList (by simpa using Mi a) b λg k=>#[.str _,H,I.tok _,001,q])
section
variable{X:Cx}
theorem part_of(h:vD v o):∃l:Option (Int×Tok),v=partValue l/\l.map (·.1)=o:=by
 cases h with
 |none=>exact#[ao,rfl,rfl]
 |int i t=>exact#[aa (i,t),rfl,rfl]
theorem apL:xW X (λx lo hi H Q=>∃z,x=.str z/\z.length<=cz/\Q (.str (Txt.slice z lo hi)) H):=by
 intro aA s σ H x v f g lo hi sl Q I rx d pl a h;refine hide λi e=>?_
 obtain⟨z,rfl,c,q⟩:=h
 obtain⟨t,rfl⟩:=rx
 obtain⟨l,rfl,rfl⟩:=part_of pl
 obtain⟨u,rfl,rfl⟩:=part_of a
 exact e (#["str",_,F.slot_str_getitem.lookup,abw s z t,wpAny_getItem_str_slice (l:=l) (u:=u) (st:=ao) d rfl (post_val_or_str #[jl (Txt.slice_le z _ _) c,λb k=>#[.str _,H,I.tok _,#[b,rfl],q]])])
theorem Vw:∀{bs:List Bool}{us:014},Vals (bs.map V.bl) us->us=bs.map j5
 |[],_,h=>by cases h;rfl
 |b::bs,_,h=>by
  cases h with
  |cons r rr=>
   cases r;rw[Vw rr];rfl
theorem Mx(y:011):gF X (.builtin "all") (λxs H Q=>∃(p:az)(bs:List Bool),xs=[.ref p]/\b7 X.K H p (bs.map V.bl)/\Q (.bl (bs.all id)) H):=by
 intro aA s σ H xs us Q I r h;refine hide λD z=>?_
 obtain⟨p,bs,rfl,t,q⟩:=h
 obtain⟨u,rfl,w⟩:=vals1 r
 cases w
 obtain⟨B,j,pl,_⟩:=I.list t
 have f:=pl.isList;have n:=Vw j;subst n;have d:p<s.heap.objs.size:=by obtain⟨_,e,_⟩:=f;exact cY e
 refine z (call_all_walk (aaj f ⟨s.heap.objs.size,[s.heap.objs.size,p],[s.heap.objs.size],(bs.map j5).toArray.size,_,_,λi=>(bs[i]?).getD aq,rfl,akl (A:=X.A.in1) (I.ok.hd y) _ p (fW d) (bs.map j5).toArray,
  ⟨⟨_,fV _ rfl,rfl,rfl⟩,f.push _⟩,λi v s' Q' E' o g=>?_,λh' C k=>?_⟩))
 .have a:(bs.map j5)[i]?=aa v:=by simpa using o
  rw[jr] at a;cases e:bs[i]? with
  |none=>rw[e] at a;cases a
  |some b=>
   rw[e] at a;cases a;simp only[e] at g;exact zV g
 .have e:((gj (bs.map j5).toArray.size).all λi=>(bs[i]?).getD aq)=bs.all id:=by
   have:(bs.map j5).toArray.size=bs.length:=bH;rw[this,wC,jT,jT];constructor
   .intro h b m
    obtain⟨i,hi,rfl⟩:=KH m
    have:=h i (qp.mpr hi);simpa[qR hi] using this
   .intro h i hi;have c:=qp.mp hi;simp only[qR c];exact h _ (ym _)
  rw[e]
  refine#[.bl _,H,I.kept λb x e=>k b x (λl=>?_) (cX _ e),rfl,q]
  rw[gB.mp l] at e;exact wG _ (cY e)
theorem acy(g:011):gF X (.builtin "sum") (λxs H Q=>∃(p:az)(ns:List Int),xs=[.ref p]/\b7 X.K H p (ns.map V.int)/\Q (.int ns.sum) H):=by
 intro aA s σ H xs us Q I r h
 obtain⟨p,ns,rfl,e,q⟩:=h
 obtain⟨u,rfl,f⟩:=vals1 r
 cases f
 obtain⟨i,c,pl,_⟩:=I.list e
 have hi:=intsAre_of c
 obtain⟨ys,b⟩:=hi.allInts.items
 have a:=b▸pl.isList;refine sum_intListG (I.ok.hd g) a λh' k j d=>?_
 have e1:ns=ys.toList.map (·.1):=by
  rw[<-nums_intItems,<-b]
  exact(hi.numsOf).symm
 have e2:preSum (numAt ys) ys.size=ns.sum:=by
  rw[preSum_eq,RW bH,e1]
 rw[e2]
 exact#[.int _,H,I.kept d,001,q]
end
mutual
def RD(K:aU)(H:Hp):aB->V->Prop
 |.none,v=>v=.non
 |.bool b,v=>v=.bl b
 |.int i,v=>v=.int i
 |.str x,v=>v=.str x
 |.tuple ds,v=>∃a vs,v=.ref a/\dH K H a vs/\qM K H ds vs
 |.list ds,v=>∃a vs,v=.ref a/\b7 K H a vs/\qM K H ds vs
 |.dict _,_=>False
def qM(K:aU)(H:Hp):List aB->List V->Prop
 |[],vs=>vs=[]
 |d::ds,vs=>∃v r,vs=v::r/\RD K H d v/\qM K H ds r
end
mutual
theorem RD.nodict{K:aU}:∀{d:aB}{v:V},RD K H d v->d.hasDict=aH
 |.none,_,h=>rfl
 |.bool _,_,h=>rfl
 |.int _,_,h=>rfl
 |.str _,_,h=>rfl
 |.tuple ds,v,h=>by
  obtain⟨a,vs,e1,q,r⟩:=h
  simpa[ajf] using qM.nodict r
 |.list ds,v,h=>by
  obtain⟨a,vs,e1,q,r⟩:=h
  simpa[ajf] using qM.nodict r
theorem qM.nodict{K:aU}:∀{ds:016}{vs:012},qM K H ds vs->aam ds=aH
 |[],_,h=>by simp[aam]
 |d::ds,vs,h=>by
  obtain⟨v,r,e1,q,t⟩:=h
  simp[aam,RD.nodict q,qM.nodict t]
end
section
variable{σ:St}{H:Hp}
mutual
theorem RD.reads(I:06):∀{d:aB}{v:V}{u:aG},RD X.K H d v->RelV v u->∃g,Reads s.heap u d g
 |.none,_,_,h,r=>by
  cases(show _=V.non from h)
  cases r
  exact#[_,.none]
 |.bool b,_,_,h,r=>by
  cases(show _=V.bl b from h)
  cases r
  exact#[_,.bool b]
 |.int i,_,_,h,r=>by
  cases(show _=V.int i from h)
  obtain⟨t,rfl⟩:=r
  exact#[_,.int i t]
 |.str x,_,_,h,r=>by
  cases(h)
  obtain⟨t,rfl⟩:=r
  exact#[_,.str x t]
 |.tuple ds,v,u,h,r=>by
  obtain⟨a,vs,e1,q,t⟩:=h
  subst e1;cases r
  obtain⟨j,f,⟨o,e,c,n,d⟩,_⟩:=I.tuple q
  obtain⟨g,R⟩:=qM.reads I t f
  exact#[_,.tuple e c d (by simpa using R)]
 |.list ds,v,u,h,r=>by
  obtain⟨a,vs,e1,q,t⟩:=h
  subst e1;cases r
  obtain⟨j,f,⟨o,n,e,c,_,d⟩,_⟩:=I.list q
  obtain⟨g,R⟩:=qM.reads I t f
  exact#[_,.list e c d (by simpa using R)]
theorem qM.reads(I:06):∀{ds:016}{vs:012}{us:014},qM X.K H ds vs->Vals vs us->∃a,ReadsAll s.heap us ds a
 |[],_,_,h,r=>by
  cases(show _=[] from h)
  cases r
  exact#[_,.nil]
 |d::ds,vs,us,h,r=>by
  obtain⟨v,b,e1,q,t⟩:=h
  subst e1;cases r with
  |cons r1 r2=>
   obtain⟨a,R⟩:=RD.reads I q r1
   obtain⟨bs,R2⟩:=qM.reads I t r2
   exact#[_,.cons R R2]
end
end
theorem abV(l:X.A.guards=aa [])(p:X.A.units+64<fD):gF X (.builtin "repr") (λxs H Q=>∃v d,xs=[v]/\RD X.K H d v/\d.showable=aq/\d.depth<=60/\d.shown.length<=cz/\Q (.str d.shown) H):=by
 intro aA s σ H xs us Q I r h
 obtain⟨v,d,rfl,c,k,m,j,q⟩:=h
 obtain⟨u,rfl,f⟩:=vals1 r
 cases d with
 |none=>
  cases(show v=V.non from c)
  cases f;exact PySem.P.repr_of_none #[.str _,H,I.tok _,001,by simpa[Dm] using q]
 |bool b=>
  cases(c)
  cases f;exact PySem.P.repr_of_bool #[.str _,H,I.tok _,001,by simpa[Dm] using q]
 |int i=>
  cases(show v=V.int i from c)
  obtain⟨t,rfl⟩:=f
  exact PySem.P.repr_of_int (by simpa[aaK] using k) #[.str _,H,I.tok _,001,by simpa[Dm] using q]
 |str x=>
  cases(show v=V.str x from c)
  obtain⟨t,rfl⟩:=f
  exact PySem.P.repr_of_str #[.str _,H,I.tok _,001,by simpa[Dm] using q] (by simpa[Dm] using j)
 |dict au=>exact c.elim
 |tuple ds=>
  obtain⟨n,R⟩:=c.reads I f
  obtain⟨a,vs,e1,_,_⟩:=id c
  subst e1;cases f;exact repr_of_reads' R k (aiC c.nodict) l aD (λ_ _ e=>e) (λh' u o g=>#[.str _,H,I.kept g,001,q]) j
 |list ds=>
  obtain⟨n,R⟩:=c.reads I f
  obtain⟨a,vs,e1,_,_⟩:=id c
  subst e1;cases f;exact repr_of_reads' R k (aiC c.nodict) l aD (λ_ _ e=>e) (λh' u o g=>#[.str _,H,I.kept g,001,q]) j
def acz(scope jg:iU):iU:=
 {scope with names:=scope.names.map λ(n,k)=>if(k==.free&&jg.kind==.function&&jg.names.lookup n==aa .cell) then(n,.cell) else(n,k)}
def aez(jg:iU)(N0 NT NF:009)(js:List Nat)(scope:iU):Bool:=
 scope.kind==.function&&scope.names.all (λy=>!(y.2==.local)||scope.names.lookup y.1==some .local)&&scope.names.all (λy=>!(y.2==.cell)||scope.names.lookup y.1==aa .cell)&&
  scope.names.all (λy=>!(y.2==.free)||(jg.names.lookup y.1==aa .cell||jg.names.lookup y.1==aa .free))&&js.length==NF.length&&
  (js.zip NF).all (λp=>N0[p.1]?==aa p.2&&scope.names.lookup p.2==aa .free)&&NT.all (λx=>scope.names.lookup x==aa .local||scope.names.lookup x==aa .cell)&&decide (NT++NF).Nodup
theorem lN.ok(h:aez jg N0 NT NF js scope=aq)(n:X.env.scope=jg)(o:X.N=N0):pX X NT NF js scope:=by
 unfold aez at h;simp only[jc] at h
 obtain⟨⟨⟨⟨⟨⟨⟨h1,h2⟩,c⟩,p⟩,f⟩,l⟩,i⟩,d⟩:=h
 refine#[eq_of_beq h1,λy a e=>?_,λy a e=>?_,λy a e=>?_,by simpa using f,λk j x b ex=>?_,λx g=>?_,of_decide_eq_true d]
 .grind
 .have:=jT.mp c y a;rw[e] at this;simpa using this
 .grind
 .have m:=by
   have:(js.zip NF)[k]?=aa (j,x):=by
    rw[List.getElem?_zip_eq_some]
    exact#[b,ex]
   exact jY this
  grind
 .simpa using jT.mp i x g
structure jQ(P:dB)(w:cG)(K:aU)(mg:Str->Option aG)(base:cg)(x:Str)(k:Nat)(ps:List Str)(sp:Sp):Prop where
 ex:∃(f:az)(fd:o5),mg x=aa (.ref f)/\yq K (.ref f)=aq/\Binds K fd ps []/\dG P w K mg base dJ k f fd ps sp
section
variable{X:Cx}{x:Str}{k:Nat}{sp:Sp}{p pos:Pos}{e:Expr}{t:TA}
theorem Pa(F:jQ X.prog X.w X.K X.mg X.base x k ps sp)(j:dZ k X.A)(d:Gl X x)(i:PA X (e::es) t)(b:(x==("__debug__":Str))=aH:=by decide)
  (h:bI (e::es) X.env=006::bI es X.env:=by rfl)(a:(eN pos (bI es X.env)).any (·.1)=aH:=by rfl):
  PE X (.Call (.Name x p) (e::es) [] pos) (Jx sp [] E0 t):=by
 obtain⟨f,fd,h1,h2,c,g⟩:=F.ex
 exact anK g j d h1 h2 c .nil Jy i b h a
theorem ajZ:gF X (.builtin "isinstance") (λxs H Q=>∃x n t b,xs=[x,.ty n]/\p7 X.K H x t/\aaO X.K t (.type n)=aa b/\Q (.bl b) H):=by
 intro aA s σ H xs us Q I r h;refine hide λi f=>?_
 obtain⟨x,n,t,b,rfl,ty,e,q⟩:=h
 obtain⟨u,g,rfl,c,a⟩:=vals2 r
 cases a;exact f (akS I c ty e λd=>#[.bl b,H,I.tok d,rfl,q])
end
theorem uO.r{id:String}{r:V->List V->Hp->VK->Prop}(h:uO X id r):MtR X id r:=h
theorem akm:dR X (gG .Is) (λx y H Q=>∃a b,x=.bl a/\y=.bl b/\Q (.bl (a==b)) H):=by
 intro aA s σ H x y v u Q I rx c h
 obtain⟨a,b,rfl,rfl,q⟩:=h
 cases rx;cases c;exact is_bool (gH I q rfl)
theorem ajs:dR X (gG .IsNot) (λx y H Q=>∃a b,x=.bl a/\y=.bl b/\Q (.bl (a != b)) H):=by
 intro aA s σ H x y v u Q I rx c h
 obtain⟨a,b,rfl,rfl,q⟩:=h
 cases rx;cases c;exact isnot_bool (gH I q rfl)
theorem cT.upd(h:H p=ao):cT H (L2.upd H p o):=λb u e=>by rwa [c7 (sI e h)]
section
variable{X:Cx}{σ:St}{H:Hp}
theorem Inv.Kf(I:06)(h:H a=aa (.dK [] Cy)):Inv X aA σ (upd H a (.dT [] Cy)) s:=by
 obtain⟨z,e,vs,r,o,es,h1,h2,c,g,b,f⟩:=I.hok a _ h
 cases r;have d:es.toList=[]:=by
  cases hh:es.toList with
  |nil=>rfl
  |cons x xs=>rw[hh] at b;trivial
 have:=Ar (t':=s.toks) (ob:=.dT [] _) I (by rw[h];trivial) (aan a _) #[_,h1] #[jJ _,e,[],.nil,o,es,h1,h2,c,d,tZ];trivial
theorem Inv.Zv(I:Inv X aA σ (upd H a (.dT [] Cy)) s)(h:H a=aa (.dK [] Cy)):Inv X aA σ H s:=by
 obtain⟨z,g,xs,r,o,es,h1,h2,d,k,j⟩:=I.hok a _ fK
 cases r;have f:es=#v[]:=by grind
 subst f;have:=Ar (t':=s.toks) I (by rw[fK];trivial) (aan a _) #[_,h1] (N8 (jJ _) g .nil #[o,_,h1,h2,d,λi hi=>absurd hi bH,.nil,tZ]);rw[Wk] at this;have e:upd H a (.dK [] Cy)=H:=by
  funext b;by_cases c:b=a
  .subst c;rw[fK,h]
  .exact c7 c
 simp_all
end
end L2
namespace L2
open PySem PySem.Spec PyProof.Rows PySem.W
section
variable{N:Nat}{lt:Nat->Nat->Bool}{α β:Type}
def dO(N:Nat)(lt:Nat->Nat->Bool):KasT α->(α->Prop)->Prop
 |.ret a,R=>R a
 |.ask i j k,R=>i<N/\j<N/\dO N lt (k (lt i j)) R
theorem dO.mono:∀{t:KasT α},dO N lt t R->(∀a,R a->S a)->dO N lt t S
 |.ret a,h,f=>f a h
 |.ask i j k,h,f=>#[h.1,h.2.1,dO.mono h.2.2 f]
theorem dO.bind:∀{t:KasT α},dO N lt t (λa=>dO N lt (f a) R)->dO N lt (t.bind f) R
 |.ret a,h=>h
 |.ask i j k,h=>#[h.1,h.2.1,dO.bind h.2.2]
theorem dO.wp(b:∀i j,i<N->j<N->∀C:Bool->aR->Prop,C (lt i j) s->cmp i j C s)(q:∀a,R a->Q a s):∀{t:KasT α},dO N lt t R->t.kasWp cmp Q s
 |.ret a,h=>q a h
 |.ask i j k,h=>b i j h.1 h.2.1 _ (dO.wp b q h.2.2)
def KP(N:Nat)(p:Array Nat):Prop:=p.toList.Perm (gj N)
theorem KP.ix(h:KP N p)(a:0<N)(i:Nat):p.getD i 0<N:=by
 by_cases hi:i<p.size
 .have:p.getD i 0∈p.toList:=by simp_all
  exact qp.mp (h.mem_iff.mp this)
 lia
theorem KP.rev(h:KP N p)(i j:Nat):KP N (kas_rev p i j):=((mirror_perm p i j _).toList).trans h
theorem KP.bub(h:KP N p)(i j:Nat):KP N (bubble p i j):=((bubble_perm p i j).toList).trans h
theorem XH(h:KP N p)(a:0<N):∀f n,dO N lt (kas_asc p f n) λ_=>True
 |0,n=>trivial
 |f+1,n=>by
  refine#[h.ix a _,h.ix a _,?_]
  dsimp only;split
  .trivial
  .exact XH h a f _
theorem Nm(a:0<N):∀f (p:Array Nat) n q,KP N p->dO N lt (kas_desc f p n q) λr=>KP N r.1
 |0,p,n,q,h=>h
 |f+1,p,n,q,h=>by
  refine#[h.ix a _,h.ix a _,?_]
  dsimp only;split
  .split
   .exact Nm a f _ _ _ (h.rev _ _)
   .exact Nm a f _ _ _ h
  .refine#[h.ix a _,h.ix a _,?_]
   dsimp only;split
   .exact h
   .exact Nm a f _ _ _ h
theorem acA(b:0<N)(h:KP N p)(n a:Nat):dO N lt (kas_tail3 n a p) λr=>KP N r.2:=
 dO.bind (dO.mono (XH (h.rev 0 n) b _ _) λ_ _=>h.rev 0 n)
theorem abk(b:0<N)(h:KP N p)(n a:Nat):dO N lt (kas_descPart n a p) λr=>KP N r.2:=by
 refine dO.bind (dO.mono (Nm b _ p _ _ h) λr c=>?_);split
 .exact acA b (KP.rev c _ _) _ _
 .exact acA b c _ _
theorem amc(b:0<N)(h:KP N p)(a:Nat):dO N lt (kas_count a p) λr=>KP N r.2:=by
 refine dO.bind (dO.mono (XH h b _ _) λn _=>?_);split
 .exact h
 .split
  .refine#[h.ix b _,h.ix b _,?_]
   dsimp only;split
   .exact h
   .exact abk b (h.rev _ _) _ _
  .exact abk b h _ _
theorem Vx(a:0<N)(h:KP N p)(k:Nat):∀f l r,dO N lt (kas_place p k f l r) λ_=>True
 |0,l,r=>trivial
 |f+1,l,r=>by
  unfold kas_place;split
  .trivial
  .refine#[h.ix a _,h.ix a _,?_]
   dsimp only;split
   .exact Vx a h k f _ _
   .exact Vx a h k f _ _
theorem aeA(a:0<N):∀f (p:Array Nat) k,KP N p->dO N lt (kas_bin f p k) (KP N)
 |0,p,k,h=>h
 |f+1,p,k,h=>dO.bind (dO.mono (Vx a h k _ _ _) λl _=>aeA a f _ _ (h.bub _ _))
theorem an0(a:0<N):dO N lt (kas_sort N) (KP N):=by
 refine dO.bind (dO.mono (amc a (G7 _) N) λr b=>?_);split
 .exact aeA a _ _ _ b
 trivial
end
def kLt:Key->Key->Bool
 |.inl i,.inl j=>decide (i<j)
 |.inr x,.inr y=>decide (x.cps.toList<y.cps.toList)
 |_,_=>aH
def nW:List Key->List Key->Bool
 |a::r,b::t=>if a=b then nW r t else kLt a b
 |_,_=>aH
def dz:Key->Bool
 |.inl _=>aq
 |.inr _=>aH
theorem amd(e:RelV (kV a) u)(d:RelV (kV b) v)(c:dz a=dz b)(h:Q (kLt a b) s):bf 000 A (oneLt' f u v) Q E s:=by
 cases a with
 |inl i=>
  cases b with
  |inr y=>cases c
  |inl j=>
   obtain⟨t,rfl⟩:=e
   obtain⟨g,rfl⟩:=d
   cases f with
   |true=>exact oneLt_int h
   |false=>exact kat_one _ _ (lt_int h)
 |inr x=>
  cases b with
  |inl y=>cases c
  |inr y=>
   obtain⟨t,rfl⟩:=e
   obtain⟨g,rfl⟩:=d
   cases f with
   |true=>exact oneLt_str h
   |false=>exact kat_one _ _ (lt_str h)
theorem adB(c:dz a=dz b):uN (kV a) (kV b)=decide (a=b):=by
 cases a with
 |inl i=>
  cases b with
  |inr y=>rfl
  |inl j=>show(i==j)=_;grind
 |inr x=>
  cases b with
  |inl y=>rfl
  |inr y=>show(x==y)=_;grind
theorem My(a:Key):rF (kV a)=aq:=by cases a<;>rfl
theorem acB:∀{ks js:List Key}{us vs:014}{i:Nat},Vals (ks.map kV) us->Vals (js.map kV) vs->ks.map dz=js.map dz->Q (nW ks js) s->KatLex prog w A aq aH Q (us.zip vs) i s
 |[],[],_,_,_,ra,rb,_,h=>by
  cases ra;trivial
 |[],_::_,_,_,_,_,_,e,_=>by cases e
 |_::_,[],_,_,_,_,_,e,_=>by cases e
 |a::ks,b::js,us,vs,i,ra,rb,e,h=>by
  cases ra with
  |cons r1 ra=>
   cases rb with
   |cons r2 rb=>
    have e1:=(Tt e).1;have e2:=(Tt e).2;refine kat_cons (XF r1 r2 (My a) (My b) _ w _ _ ?_);rw[adB e1];unfold nW at h;by_cases c:a=b
    .rw[bG c] at h;rw[gq c];exact kat_yes (acB ra rb e2 h)
    .rw[bK c] at h;rw[m7 c];exact kat_no (amd r1 r2 e1 h)
section
variable{prog:dB}{w:cG}{A:dN}{s:aR}{vs:List aG}{κ:SortKind}{Rl:List Nat->Prop}
def Kp(a:az)(h h':cg):Prop:=∀b o,b≠a->h.get? b=aa o->h'.get? b=aa o
theorem akn(v:s.heap.get? a=aa (seqObj "list" vs.toArray n))(B:vs.length<64)(N:2<=vs.length->dO vs.length lt (kas_sort vs.length) λp=>KP vs.length p/\Rl p.toList)(D:vs.length<2->Rl (gj vs.length))
  (H:2<=vs.length->∀s':aR,Kp a s.heap s'.heap->∀Q:SortKind->aR->Prop,Q κ s'->bf 000 A (keyKind' vs.toArray) Q (λ_ _=>False) s')
  (K:2<=vs.length->∀s':aR,Kp a s.heap s'.heap->∀i j,i<vs.length->j<vs.length->∀C:Bool->aR->Prop,C (lt i j) s'->kas_ask prog w A κ vs i j C s')
  (h:∀(p:List Nat)(h':cg)(c:Nat),p.Perm (gj vs.length)->Rl p->Kp a s.heap h'->h'.get? a=aa (seqObj "list" (p.map λi=>vs.getD i nH).toArray c)->P (.done (.ret .none)) {s with heap:=h'}):
  bf 000 A (rA.«list.sort» #[[.ref a],[]]) P E s:=by
 have J:a<s.heap.objs.size:=cY v
 obtain⟨e1,m⟩:∃e1,(s.heap.update a (oZ λ_=>(#v[]:Array aG))).get? a=aa (seqObj "list" #v[] e1):=#[_,get?_update_seq v λ_=>#v[]]
 have sz:vs.length<=cz:=by rw[iw];lia
 have kp:Kp a s.heap (((s.heap.update a (oZ λ_=>(#v[]:Array aG))).push (seqObj "tuple" vs.toArray 0)).push (seqObj "list" #v[] 0)):=λb o u e=>
  cX _ (cX _ (((oU s.heap a _).2 b u).trans e))
 have q:(((s.heap.update a (oZ λ_=>(#v[]:Array aG))).push (seqObj "tuple" vs.toArray 0)).push (seqObj "list" #v[] 0)).get? a=aa (seqObj "list" #v[] e1):=cX _ (cX _ m);rw[list_sort_plain];refine aJ (listItems_at v rfl (aJ (listUpdate_at v rfl (aJ (seqEpoch_at m rfl (aJ (wpAny_newTuple (aJ (Lr (pJ ?_) (jJ _))) (by show vs.length<=_;exact sz))))) (by rw[oX];exact sz) (jJ _))));dsimp only;have r:∀(p:List Nat),p.Perm (gj vs.length)->Rl p->∀out:Array aG,out=(p.map λi=>vs.getD i nH).toArray->
   P (.done (.ret .none)) {s with heap:=(((s.heap.update a (oZ λ_=>(#v[]:Array aG))).push (seqObj "tuple" vs.toArray 0)).push (seqObj "list" #v[] 0)).update a (oZ λ_=>out)}:=λp l g out L=>by
  subst L;refine h p _ _ l g (λb o u e=>((oU _ a _).2 b u).trans (kp b o u e)) (get?_update_seq q _)
 by_cases h2:vs.toArray.size<2
 .rw[bG h2,bG h2];refine aJ (bu ?_);rw[StateT.run_pure];refine aJ (bu ?_);dsimp only;have O:(pairsOf vs).size<=cz:=by rw[pairsOf_size];exact sz
  refine aJ (seqEpoch_at q rfl (aJ (listUpdate_at q rfl ?_ (hsz2:=by rw[Array.size_map];show(pairsOf vs).size<=_;lia))));simp only[bne_self_eq_false,zU,if_false];refine bu (r (gj vs.length) (G7 _) (D (by simpa using h2)) _ ?_);apply Array.toList_inj.mp
  show((vs.toArray.zip vs.toArray).map (·.2)).toList=_
  rw[Array.toList_map,Array.toList_zip,aay (bQ _)];show vs=_;refine GP bH λi h1 R=>?_
  simp[wM,h1]
 .have f:2<=vs.length:=by simpa using h2
  rw[bK h2,bK h2];refine aJ (qY (H f _ kp (λk s'=>k=κ/\s'={s with heap:=((s.heap.update a (oZ λ_=>(#v[]:Array aG))).push (seqObj "tuple" vs.toArray 0)).push (seqObj "list" #v[] 0)}) #[rfl,rfl]) (λk S y=>?_) λ_ _ x=>x.elim)
  obtain⟨rfl,rfl⟩:=y
  refine aJ (qY (kat_run (ks:=vs) (vs:=vs) (Q:=λd s'=>∃p:Array Nat,(KP vs.length p/\Rl p.toList)/\arrOf d=p.map (kas_item (vs.toArray.zip vs.toArray))/\failedOf d=ao/\s'={s with heap:=((s.heap.update a (oZ λ_=>(#v[]:Array aG))).push (seqObj "tuple" vs.toArray 0)).push (seqObj "list" #v[] 0)})
   rfl f B (G:=λp s'=>(KP vs.length p/\Rl p.toList)/\s'={s with heap:=((s.heap.update a (oZ λ_=>(#v[]:Array aG))).push (seqObj "tuple" vs.toArray 0)).push (seqObj "list" #v[] 0)}) (λp d s' T M I F=>⟨p,F.1,M,I,F.2⟩) (dO.wp (lt:=lt) (K f _ kp) (λp l=>⟨l,rfl⟩) (N f))) ?_ λ_ _ e=>e)
  rintro⟨⟨⟩,d⟩ s' ⟨p,⟨l,g⟩,har,hf,rfl⟩
  dsimp only;have t:=kat_snds (ks:=vs) (vs:=vs) rfl har;have z:p.toList.length=vs.length:=by rw[l.length_eq,uZ]
  rw[t];refine aJ (seqEpoch_at q rfl (aJ (listUpdate_at q rfl ?_ (jJ _) (by rw[oX,bC,z];lia))));rw[hf];simp only[bne_self_eq_false,zU,if_false];exact bu (r p.toList l g _ rfl)
theorem LQ(g:vs.length<64)(z:2<=vs.length->dO vs.length lt (kas_sort vs.length) λp=>KP vs.length p/\Rl p.toList)(n:vs.length<2->Rl (gj vs.length))
  (y:∀R:List aG->aR->Prop,(∀us h1 d,s.heap.objs.size<=h1.objs.size->(∀b o,s.heap.get? b=aa o->h1.get? b=aa o)->us=vs->R us {s with heap:=h1,toks:=d})->bf 000 A.in1 (collect (.ref r)) R E s)
  (t:2<=vs.length->∀s':aR,(∀b o,s.heap.get? b=aa o->s'.heap.get? b=aa o)->∀Q:SortKind->aR->Prop,Q κ s'->bf 000 A.in1.in1 (keyKind' vs.toArray) Q (λ_ _=>False) s')
  (u:2<=vs.length->∀s':aR,(∀b o,s.heap.get? b=aa o->s'.heap.get? b=aa o)->∀i j,i<vs.length->j<vs.length->∀C:Bool->aR->Prop,C (lt i j) s'->kas_ask prog w A.in1.in1 κ vs i j C s')
  (h:∀(p:List Nat)(D:az)(h':cg)(c d:Nat),p.Perm (gj vs.length)->Rl p->s.heap.objs.size<=D->(∀b o,s.heap.get? b=aa o->h'.get? b=aa o)->h'.get? D=aa (seqObj "list" (p.map λi=>vs.getD i nH).toArray c)->Q (.ref D) {s with heap:=h',toks:=d}):
  bf 000 A (call (.builtin "sorted") [.ref r]) Q E s:=by
 refine ZW kind_sorted plain_sorted entry_sorted (args_sorted1 _) (aJ (bu (aJ (y _ λus h1 d m q x=>?_))));subst x;refine aJ (Lr ?_ (by rw[iw];lia));have a:(h1.push (seqObj "list" us.toArray 0)).get? _=aa _:=fV _ rfl;have l:=λb o e=>fW (cY (q b o e))
 have up:∀s':aR,Kp _ (h1.push (seqObj "list" us.toArray 0)) _->∀b o,s.heap.get? b=aa o->s'.heap.get? b=aa o:=λs' k b o e=>k b o (l b o e) (cX _ (q b o e))
 exact aJ (pJ (mO slot_list_sort #[_,a,rfl] entry_list_sort (akn a g z n (λh2 s' k=>t h2 s' (up s' k)) (λh2 s' k=>u h2 s' (up s' k)) λp h' c v f k e=>#[_,rfl,bu #[_,rfl,h p _ h' c d v f m (up {s with heap:=h'} k) e]]) (args_list_sort _)))
end
def pB(h:cg)(d:az)(es:Array UT)(ep:Nat):Prop:=∃o,h.get? d=aa o/\o.ExactDict/\o.data=.dict es ep
section
variable{w:cG}{A:dN}{s:aR}{d it:az}{ep i:Nat}
theorem pB.ty(h:pB s.heap d es ep):s.TypeIs (.ref d) "dict":=let ⟨o,ho,hc,_⟩:=h;#[o,ho,hc.1]
theorem ame(g:(d==oY)=aH)(e:pB s.heap d es ep)
  (f:Q (.ref s.heap.objs.size) {s with heap:=s.heap.push {cls:=.type "dict_keyiterator",data:=.fields #v[.ref d,.int 0 0,.int es.size 0,.int ep 0]}}):bf 000 A (wW (.ref d)) Q E s:=by
 obtain⟨o,c,h,a⟩:=id e
 have b:=e.ty;refine Sw b aiS (mO aiS b F.entry_dict_iter (aJ ?_) (F.args_dict_iter_1 _));refine aJ (Z9 b (bu ?_));show bf _ _ (R4 d >>= _) _ _ s
 unfold R4;rw[bK (by lia)];refine aJ (bu (aJ (Df c a (aJ (G3 c a (aJ (nF (bu #[_,rfl,_,_,#[_,fV _ rfl,rfl],F.slot_dict_keyiterator_next.lookup,?_]))))))));trivial
theorem amf(a:s.heap.IsKeyIter it d i es.size ep)(l:pB s.heap d es ep)(h:i<es.size)
  (j:∀h',h'.IsKeyIter it d (i+1) es.size ep->qW it s.heap h'->Q (aa es[i].key) {s with heap:=h'}):bf 000 A (qu (.ref it)) Q E s:=by
 obtain⟨o,g,m,f⟩:=id a;obtain⟨n,e,k,c⟩:=id l
 unfold qu;refine aJ (Ab (wz a.typeIs RG (mO RG a.typeIs ahv ?_ (ahu _))));refine aJ (bu (aJ (aJ ?_)))
 (refine aJ (RB a.typeIs (bu (aJ (zZ g f ?_)))))
 refine aJ (bu (aJ (Df e c ?_)));rw[bK bH];refine aJ (bu (aJ (G3 e c ?_)));rw[bK bH];refine bu ?_;simp only[if_false,Gz,lV h];refine aJ ?_
 (refine aJ (RB a.typeIs (bu (aJ (ahR a.typeIs ?_)))))
 show bf _ _ (Vy (.ref it) 1 _ >>= _) _ _ s;refine aJ (wF g f bH ?_);have b:(s.heap.update it (Ls (·.setIfInBounds 1 (jm ((i:Int)+1))))).IsKeyIter it d (i+1) es.size ep:=#[_,zR _ g (aaa (Gw f _)),(aao ..).trans m,by rw[Gw f];simp[jm]]
 refine aJ (pJ (aJ (ahR b.typeIs ?_)));exact bu (bu #[_,rfl,bu (j _ b (oU ..))])
theorem an1(p:A.handled=ao)(c:s.heap.IsKeyIter it d i es.size ep)(n:pB s.heap d es ep)(g:es.size<=i)
  (k:∀h',aj0 it s.heap h'->Q ao {s with heap:=h'}):bf 000 A (qu (.ref it)) Q E s:=by
 obtain⟨o,h,r,j⟩:=id c;obtain⟨q,f,l,e⟩:=id n
 unfold qu;refine aJ (Ab (wz c.typeIs RG (mO RG c.typeIs ahv ?_ (ahu _))));refine aJ (bu (aJ (aJ ?_)))
 (refine aJ (RB c.typeIs (bu (aJ (zZ h j ?_)))))
 have own:RJ "dict_keyiterator"=aH:=aP;refine aJ (bu (aJ (Df f e ?_)));rw[bK bH];refine aJ (bu (aJ (G3 f e ?_)));rw[bK bH];refine bu ?_;simp only[if_false,Gz,Z6 g];refine aJ ?_
 (refine aJ (RB c.typeIs (bu ?_)))
 show bf _ _ (Vy (.ref it) 0 .none >>= _) _ _ s;refine aJ (wF h j bH (aJ ?_));refine aJ (nF (aJ (m:=G8 _ _) (Uc (a:=nH) (by first|rfl|(simp only[G8];rfl)) (nF ?_ (by size_fits)))) (by size_fits));simp only[raiseNew];refine aJ (aa1 ?_);rw[p];refine aJ (bu (abl ?_));refine aJ (GF (T:="StopIteration") (b:=aq) #[_,fV _ rfl,rfl] aaP ?_);exact bu (k _ (((oU ..).extBut.push _).push _))
theorem ak2(m:A.handled=ao)(j:d≠it):Walks prog w A it [it,d] [it] es.size (λi v=>(es[i]?).map (·.key)=aa v) (λi h=>h.IsKeyIter it d i es.size ep/\pB h d es ep) where
 sub:=λb g=>by grind
 frame:=λ_ _ _ st l=>#[st.1.at λo e=>l it bH o e,let ⟨o,ho,r⟩:=st.2;#[o,l d bH o ho,r]]
 item:=λi s Q E hi st f=>amf st.1 st.2 hi λh' c a=>f _ h' _ 002 #[c,let ⟨o,ho,r⟩:=st.2;#[o,(a.2 d j).trans ho,r]] λb o g e=>(a.2 b λz=>g 002).trans e
 done:=λs Q E st f=>an1 m st.1 st.2 (bQ _) λh' k=>f h' _ λb o g e=>k b o (λz=>g 002) e
 self:=λ_ _ _ _ st f=>wpAny_pyIter_keyiter st.1 f
theorem an2(lo:(d==oY)=aH):KdlSrc prog w "dict" d d es.size (λi v=>(es[i]?).map (·.key)=aa v) (λh=>pB h d es ep) where
 type:=λ_ a=>a.ty
 there:=λ_ a=>let ⟨_,ho,_⟩:=a;#[cY ho,cY ho]
 keep:=λ_ _ a c=>let ⟨o,ho,r⟩:=a;#[o,c d (.inl rfl) o ho,r]
 notList:=rfl
 notTuple:=rfl
 hint:=λ_ _ _ _ a b=>kdl_hint_dict a.ty b
 iter:=λ_ _ e a=>#[_,_,(λ_ _ b=>ame lo a b),ak2 e (let ⟨_,ho,_⟩:=a;fW (cY ho)),#[#[_,fV _ rfl,rfl,rfl],let ⟨o,ho,r⟩:=a;#[o,cX _ ho,r]]]
theorem abm(K:KdlSrc prog w T r d n P OK)(B:A.handled=ao)(m:OK s.heap)(C:n<=cz)
  (h:∀(h':cg)(j:Nat)(aM:Array aG),s.heap.objs.size<=h'.objs.size->(∀b o,s.heap.get? b=aa o->h'.get? b=aa o)->ItemsOf P aM n->R aM.toList {s with heap:=h',toks:=j}):
  bf 000 A (collect (.ref r)) R E s:=by
 have l:=K.there _ m;refine aJ (aaQ (zY entry_proto_collect' (aJ (nF (bu #[Hf ahE _,zY entry_list_iadd' ?_])))));have v:(s.heap.push _).get? _=aa {cls:=.type "list",data:=.seq #v[]}:=fV _ rfl;have u:=kdl_extend (s:={s with heap:=s.heap.push _}) (R:=λq s'=>∃(h':cg)(j:Nat)(a:Array _)(p:Nat),q=.ok _/\s'={s with heap:=h',toks:=j}/\(∀b o,s.heap.get? b=aa o->h'.get? b=aa o)/\h'.get? _=aa {cls:=.type _,dict:=ao,data:=.seq a p,slots:=#v[]}/\ItemsOf P a n)
  K B (K.keep _ _ m λb _ o e=>cX _ e) _ (Ho l.1) (Ho l.2) (.ref s.heap.objs.size) 0 v (λh' j a p k i g=>#[h',j,_,p,rfl,rfl,λb o e=>k b o (fW (cY e)) (cX _ e),i,g]) C
 refine qY u (λt s' x=>?_) λe s' x=>?_
 .cases t with
  |done f=>
   refine hide λF D=>?_
   obtain⟨h',j,a,p,e,rfl,k,i,g⟩:=x
   cases e;exact D (aJ (Hw i (bu (h h' j _ (yu (cY i)) k g))))
  |again c₁=>
   refine#[x.1,Hq x.2 λq s₂ y=>?_]
   obtain⟨h',j,a,p,rfl,rfl,k,i,g⟩:=y
   exact aJ (Hw i (bu (h h' j _ (yu (cY i)) k g)))
 .obtain⟨_,_,_,_,z,_⟩:=x;cases z
end
theorem UW:∀{us:014}{ns:009},StrsAre us ns->Vals (ns.map V.str) us
 |_,_,.nil=>.nil
 |_,_,.cons _ t r=>.cons #[t,rfl] (UW r)
theorem aiT:gF X (.builtin "sorted") (λxs H Q=>∃(p:az)(ns:List Int),xs=[.ref p]/\b7 X.K H p (ns.map V.int)/\ns.length<64/\∀(l:az)(ns':List Int),H l=ao->ns'.Perm ns->ns'.Pairwise (·<=·)->Q (.ref l) (upd H l (.lst (ns'.map V.int)))):=by
 intro aA s σ H xs us Q I r h;refine hide λv k=>?_
 obtain⟨p,ns,rfl,g,c,q⟩:=h
 obtain⟨u,rfl,i⟩:=vals1 r
 cases i
 obtain⟨n,a,pl,_⟩:=I.list g
 have hi:=intsAre_of a;have f:=a.length;rw[bC] at f;refine k (sorted_ints pl.isList hi aD λout ns' j b d=>?_)
 obtain⟨e,m⟩:=sortedAll_at _ _ _
 have t:ns'.length<=cz:=by rw[b.length_eq,iw];lia
 exact#[.ref _,_,I.laid (o:=.lst _) (λ_ _=>sortedAll_old) (ud _) #[by grind,_,e,Mp j,by simpa[seqObj] using m],rfl,q _ _ (I.hok.fresh (ud _)) b d]
theorem aiU:gF X (.builtin "sorted") (λxs H Q=>∃(p:az)(ns:009),xs=[.ref p]/\b7 X.K H p (ns.map V.str)/\ns.length<64/\∀(l:az)(ns':009),H l=ao->ns'.Perm ns->sortedS ns'=aq->Q (.ref l) (upd H l (.lst (ns'.map V.str)))):=by
 intro aA s σ H xs us Q I r h;refine hide λv k=>?_
 obtain⟨p,ns,rfl,g,c,q⟩:=h
 obtain⟨u,rfl,i⟩:=vals1 r
 cases i
 obtain⟨n,a,pl,_⟩:=I.list g
 have hi:=Mi a;have f:=a.length;rw[bC] at f;refine k (sorted_strs pl.isList hi aD λout ns' j b d=>?_)
 obtain⟨e,m⟩:=sortedAll_at _ _ _
 have t:ns'.length<=cz:=by rw[b.length_eq,iw];lia
 exact#[.ref _,_,I.laid (o:=.lst _) (λ_ _=>sortedAll_old) (ud _) #[by grind,_,e,UW j,by simpa[seqObj] using m],rfl,q _ _ (I.hok.fresh (ud _)) b d]
theorem dZ.iT(r:dZ k A):A.units+2<fD:=by have:=r.un;lia
abbrev Row:=az×List Key
def TupAt(h:cg)(r:Row):Prop:=∃aK,Vals (r.2.map kV) aK/\IsTup h r.1 aK.toArray
theorem TupAt.keep(t:TupAt h r)(k:∀b o,h.get? b=aa o->h'.get? b=aa o):TupAt h' r:=by
 obtain⟨a,v,o,e,c⟩:=t
 exact#[_,v,o,k _ _ e,c]
theorem adC:∀{aL:List Row},(∀r∈aL,TupAt h r/\r.2.map dz=b::sh)->∃fs,KatTups h (aL.map λr=>fj r.1) fs/\fs.length=aL.length/\∀f∈fs,∃k,RelV (kV k) f/\dz k=b
 |[],_=>#[[],KatTups.nil,rfl,bH]
 |r::aL,ha=>by
  obtain⟨fs,t,l,g⟩:=adC λq i=>ha q (dI _ i)
  obtain⟨⟨j,v,o,e,c,n,d⟩,s⟩:=ha r cR
  obtain⟨a,ks⟩:=r
  cases ks with
  |nil=>cases s
  |cons k ks=>
   cases v with
   |@cons _ u _ us v1 v2=>
    refine#[u::fs,KatTups.cons e c d (rfl) t,by grind,λf m=>?_]
    grind
theorem ak3(r:RelV (kV k) f)(e:dz k=b):Looks M h (typeOf f) (if b=aq then .type "int" else .type "str"):=by
 subst e;cases k with
 |inl i=>obtain⟨t,rfl⟩:=r;exact Looks.of_pure rfl
 |inr i=>obtain⟨t,rfl⟩:=r;exact Looks.of_pure rfl
theorem acC(aL:List Row)(hi:i<aL.length):(aL.map λr=>fj r.1).getD i nH=.ref aL[i].1:=by grind
def rowAt(aL:List Row)(i:Nat):List Key:=((aL[i]?).map (·.2)).getD []
theorem U0{w:cG}{A:dN}{s':aR}{aL:List Row}{b:Bool}(c:∀r∈aL,TupAt s'.heap r/\r.2.map dz=b::sh)(d:0<aL.length)(Q:SortKind->aR->Prop)(q:Q (tuples' aq) s'):
  bf 000 A (keyKind' (aL.map λr=>fj r.1).toArray) Q (λ_ _=>False) s':=by
 obtain⟨fs,t,l,g⟩:=adC c
 refine kat_kind (T:=if b=aq then .type "int" else .type "str") t aD (λv a=>?_) 002 (by cases b<;>exact q)
 obtain⟨k,r,e⟩:=g v a
 exact ak3 r e
theorem an3(g:∀r∈aL,TupAt s'.heap r/\r.2.map dz=sh)(hi:i<aL.length)(b:j<aL.length)(C:Bool->aR->Prop)(q:C (nW (rowAt aL i) (rowAt aL j)) s'):
  kas_ask prog w A (tuples' aq) (aL.map λr=>fj r.1) i j C s':=by
 obtain⟨⟨h,v,o,e,c,n,d⟩,s1⟩:=g _ (ym hi)
 obtain⟨⟨a,v2,t,e2,s,n2,m⟩,f⟩:=g _ (ym b)
 unfold kas_ask;rw[acC _ hi,acC _ b];have p:=v.length;have x:=v2.length;have u:=by
  have:=congrArg ue (s1.trans f.symm);simpa using this
 refine kat_lt e d e2 m ?_;have l:decide (h.toArray.size<a.toArray.size)=aH:=by grind
 rw[l];have k:C (nW aL[i].2 aL[j].2) s':=by
  unfold rowAt at q
  rwa [qR hi,qR b] at q
 exact acB (by simpa using v) 002 (s1.trans f.symm) k
theorem Mq{aL:List Row}{p:List Nat}(h:p.Perm (gj aL.length)):(p.map λi=>aL.getD i (0,[])).Perm aL:=by
 have e:(gj aL.length).map (λi=>aL.getD i (0,[]))=aL:=GP bH λi h1 h2=>by grind
 grind
theorem U3{aL:List Row}{p:List Nat}(h:p.Perm (gj aL.length)):(p.map λi=>(aL.map λr=>fj r.1).getD i nH)=(p.map λi=>aL.getD i (0,[])).map λr=>fj r.1:=by
 rw[eZ];refine yg λi hi=>?_
 grind
theorem Wt:∀{aL:List Row}{us:014},Vals (aL.map λr=>V.ref r.1) us->us=aL.map λr=>fj r.1
 |[],_,h=>by cases h;rfl
 |r::aL,_,h=>by
  cases h with
  |cons a b=>
   cases a;rw[Wt b];rfl
theorem Mr:∀(aL:List Row),Vals (aL.map λr=>V.ref r.1) (aL.map λr=>fj r.1)
 |[]=>.nil
 |r::aL=>.cons rfl (Mr _)
theorem Vz(A:dN)(s:aR)(e:RelV (kV a) u)(d:RelV (kV b) v)(c:dz a=dz b):wJ A s u v (decide (a=b)):=by
 rw[<-adB c];exact XF e d (My a) (My b)
theorem VB(A:dN)(s:aR)(d:RelV (kV a) u)(c:RelV (kV b) v)(f:dz a=dz b)(prog:dB)(w:cG)(E:aG->aR->Prop)(Q:aG->aR->Prop)(h:Q (.bool (kLt a b)) s):
  bf 000 A (richCompare .Lt u v) Q E s:=by
 cases a with
 |inl i=>
  cases b with
  |inr y=>trivial
  |inl j=>
   obtain⟨t,rfl⟩:=d
   obtain⟨e,rfl⟩:=c
   exact(lt_int h)
 |inr x=>
  cases b with
  |inl y=>trivial
  |inr y=>
   obtain⟨t,rfl⟩:=d
   obtain⟨e,rfl⟩:=c
   exact lt_str h
section
open PySem.SeqAt
open PySem.AutoSeq1 (wpAny_loadPart')
open PySem.MeetsSeq PySem.MeetsSeq2 PySem.MeetsSeq3
theorem ajt(l b:az)(items items2:Array aG)(n n2:Nat)(z o:Option az)(sl p:Array (Option aG))(ns ms:List Key)(hi:Vals (ns.map kV) items.toList)(r:Vals (ms.map kV) items2.toList)(i:ns.map dz=ms.map dz):
  Meets (rA.«tuple.__lt__» #[[.ref l,.ref b],[]])
   (λ_ R s=>s.heap.get? l=aa {cls:=.type "tuple",dict:=z,data:=.seq items n,slots:=sl}/\s.heap.get? b=aa {cls:=.type "tuple",dict:=o,data:=.seq items2 n2,slots:=p}/\R (.ok (.ret (.bool (nW ns ms)))) s):=
 .of_wp λprog w A R s h=>by
  obtain⟨k,g,d,m,j⟩:=s;obtain⟨B,v,h⟩:=h
  have F:=AutoSeq1.sub_tuple_tuple;have E:ns.length=ms.length:=by have:=congrArg ue i;simpa using this
  have D:items.size=ns.length:=by have:=hi.length;rw[bC] at this;simpa using this.symm
  have G:items2.size=ms.length:=by have:=r.length;rw[bC] at this;simpa using this.symm
  wp_walk using oh B,oh v,aiN _ (λrest b s'=>b.1=ao/\s'=⟨k,g,d,m,j⟩/\∃(vs ws:014)(ns' e:List Key),rest=vs.zip ws/\
   Vals (ns'.map kV) vs/\Vals (e.map kV) ws/\ns'.map dz=e.map dz/\R (.ok (.ret (.bool (nW ns' e)))) ⟨k,g,d,m,j⟩) _
  case turn=>
   rintro⟨y,x⟩ rest b s' ⟨hb',rfl,vs,ws,ns',e,hz,Rr,hwi,hlen,hR⟩
   cases ns' with
   |nil=>cases Rr;rw[List.zip_nil_left] at hz;cases hz
   |cons a ns'=>
    cases e with
    |nil=>cases hlen
    |cons c e=>
     cases Rr with
     |cons r1 agh=>
      cases hwi with
      |cons r2 agi=>
       rw[yh] at hz;injection hz with hyx hrest
       injection hyx with hy hx
       subst hy hx;have t:dz a=dz c:=(Tt hlen).1;have C:=(Tt hlen).2;unfold nW at hR;refine aJ (Vz A.in1 #[k,g,d,m,j] r1 r2 t prog w _ _ ?_);by_cases f:a=c
       .rw[bG f] at hR;rw[gq f];wp_walk
        exact#[rfl,rfl,_,_,_,_,hrest,agh,agi,C,hR]
       .rw[bK f] at hR;rw[m7 f];have q:=VB A.in1 #[k,g,d,m,j] r1 r2 t prog w;wp_walk using q
        exact#[_,rfl,by simpa using hR]
  case fin=>
   rintro⟨b1,b2⟩ s' ⟨hb',rfl,vs,ws,ns',e,hz,Rr,hwi,hlen,hR⟩
   simp only at hb';subst hb';have u:nW ns' e=decide (items.size<items2.size):=by
    rw[m7 aD];cases ns' with
    |nil=>unfold nW;rfl
    |cons a ns'=>
     cases e with
     |nil=>cases hlen
     |cons c e=>
      cases Rr with
      |cons r1 agh=>
       cases hwi with
       |cons r2 agi=>
        rw[yh] at hz;cases hz
   rw[u] at hR;wp_walk
   exact#[_,rfl,by simpa[atm] using hR]
  case h=>
   exact#[rfl,rfl,items.toList,items2.toList,ns,ms,rfl,hi,r,i,h]
end
theorem ako(t:IsTup s.heap l items)(q:IsTup s.heap b items2)(hi:Vals (ns.map kV) items.toList)(u:Vals (ms.map kV) items2.toList)(e:ns.map dz=ms.map dz)
  (p:A.units<fD)(h:Q (.bool (nW ns ms)) s):bf 000 A (gG .Lt (.ref l) (.ref b)) Q E s:=by
 obtain⟨⟨cls,r,data,sl⟩,g,j,n,k⟩:=id t
 obtain⟨⟨i,m,f,o⟩,a,d,n2,c⟩:=id q
 simp only at j k d c;subst j k d c;exact richCompare_meets_room (op:=.Lt) #[_,g,rfl] #[_,a,rfl] PySem.F.slot_tuple_lt PySem.F.entry_tuple_lt (PySem.F.args_tuple_lt_2 _ _) (ajt l b _ _ n n2 r _ sl _ ns ms hi u e)
  #[g,a,#[(λx=>nomatch x),h]] p
mutual
def RX(H:Hp):aB->V->Prop
 |.none,v=>v=.non
 |.bool b,v=>v=.bl b
 |.int i,v=>v=.int i
 |.str x,v=>v=.str x
 |.list ds,v=>∃a vs,v=.ref a/\H a=aa (.lst vs)/\xY H ds vs
 |.tuple ds,v=>∃a vs,v=.ref a/\H a=aa (.tup vs)/\xY H ds vs
 |.dict _,_=>False
def xY(H:Hp):List aB->List V->Prop
 |[],vs=>vs=[]
 |d::ds,vs=>∃v r,vs=v::r/\RX H d v/\xY H ds r
end
mutual
theorem RX.rd{K:aU}:∀{d:aB}{v:V},RX H d v->RD K H d v
 |.none,_,h=>h
 |.bool _,_,h=>h
 |.int _,_,h=>h
 |.str _,_,h=>h
 |.list ds,_,h=>by
  obtain⟨a,vs,e,q,r⟩:=h
  exact#[a,vs,e,b7.of q,xY.rd r]
 |.tuple ds,_,h=>by
  obtain⟨a,vs,e,q,r⟩:=h
  exact#[a,vs,e,dH.of q,xY.rd r]
theorem xY.rd{K:aU}:∀{ds:016}{vs:012},xY H ds vs->qM K H ds vs
 |[],_,h=>h
 |d::ds,vs,h=>by
  obtain⟨v,r,e,q,t⟩:=h
  exact#[v,r,e,RX.rd q,xY.rd t]
end
def Zw:aB->aG
 |.none=>.type "NoneType"
 |.bool _=>.type "bool"
 |.int _=>.type "int"
 |.str _=>.type "str"
 |.list _=>.type "list"
 |.tuple _=>.type "tuple"
 |.dict _=>.type "dict"
theorem RX.ty{K:aU}{v:V}(h:RX H d v):p7 K H v (Zw d):=by
 cases d with
 |none=>cases(h);exact .non
 |bool b=>cases(h);exact .bl b
 |int i=>cases(h);exact .int i
 |str x=>cases(h);exact .str x
 |list ds=>obtain⟨a,vs,rfl,e,_⟩:=h;exact .lst e
 |tuple ds=>obtain⟨a,vs,rfl,e,_⟩:=h;exact .tup e
 |dict ds=>trivial
theorem akp(d:X.A.units<fD):dR X (gG .Lt) (λx y H Q=>∃a b ks js,x=.ref a/\y=.ref b/\H a=aa (.tup (ks.map kV))/\H b=aa (.tup (js.map kV))/\ks.map dz=js.map dz/\Q (.bl (nW ks js)) H):=by
 intro aA s σ H x y v u Q I rx i h
 obtain⟨a,b,ks,js,rfl,rfl,e,f,g,q⟩:=h
 cases rx;cases i
 obtain⟨_,k,l,p1⟩:=(I.hok a _ e)
 obtain⟨_,c,j,p2⟩:=(I.hok b _ f)
 exact ako p1 p2 (by lia) 002 g d (gH I q rfl)
theorem Ag(c:X.A.units<fD):dR X (gG .Lt) (λx y H Q=>(∃a b,x=kV a/\y=kV b/\dz a=dz b/\Q (.bl (kLt a b)) H)\/∃a b ks js,x=.ref a/\y=.ref b/\H a=aa (.tup (ks.map kV))/\H b=aa (.tup (js.map kV))/\ks.map dz=js.map dz/\Q (.bl (nW ks js)) H):=by
 refine dR.or ?_ (akp c);intro aA s σ H x y v u Q I rx e h
 obtain⟨a,b,rfl,rfl,d,q⟩:=h
 exact VB _ s rx e d _ _ _ _ (gH I q rfl)
structure Ord(lt:Nat->Nat->Bool):Prop where
 BP:∀a b,lt a b=aq->lt b a=aH
 trans:∀a b c,lt b a=aH->lt c b=aH->lt c a=aH
section
variable{N:Nat}{lt:Nat->Nat->Bool}(O:Ord lt)
abbrev at0(p:Array Nat)(i:Nat):Nat:=p.getD i 0
def Up(lt:Nat->Nat->Bool)(p:Array Nat)(n:Nat):Prop:=∀i j,i<j->j<n->lt (at0 p j) (at0 p i)=aH
def Dn(lt:Nat->Nat->Bool)(p:Array Nat)(n:Nat):Prop:=∀i j,i<j->j<n->lt (at0 p i) (at0 p j)=aH
def Lk(lt:Nat->Nat->Bool)(p:Array Nat)(i j:Nat):Prop:=∀a b,i<=a->a<j->i<=b->b<j->lt (at0 p a) (at0 p b)=aH
theorem wY(p:Array Nat)(i:Nat):at0 p i=(p[i]?).getD 0:=Dd
theorem yP(a:j<=p.size)(k:Nat):at0 (kas_rev p i j) k=if i<=k/\k<j then at0 p (i+j-1-k) else at0 p k:=by
 rw[wY,wY,wY];unfold kas_rev;rw[getElem?_mirror_all a];split<;>rfl
theorem aeB(a:k<p.size)(b:l<=k)(x:Nat):at0 (bubble p k (k-l)) x=if x=l then at0 p k else if l<x/\x<=k then at0 p (x-1) else at0 p x:=by
 rw[wY,wY,wY,wY,getElem?_bubble a (k-l) aD];have e:k-(k-l)=l:=aD;rw[e];split
 .rfl
 .split<;>rfl
theorem KP.size(h:KP N p):p.size=N:=by
 have:=h.length_eq;rw[uZ] at this;simpa using this
include O
theorem Ord.Gg(a:Nat):lt a a=aH:=by
 cases e:lt a a with
 |false=>rfl
 |true=>rw[O.BP a a e] at e;cases e
theorem Up.succ(h:Up lt p n)(f:1<=n)(b:lt (at0 p n) (at0 p (n-1))=aH):Up lt p (n+1):=λi j a g=>by
 by_cases e:j<n
 .exact h i j a e
 .have c:j=n:=aD;subst c;by_cases d:i=j-1
  .rw[d];exact b
  .exact O.trans _ _ _ (h i (j-1) aD aD) b
theorem Dn.succ(h:Dn lt p n)(f:1<=n)(b:lt (at0 p (n-1)) (at0 p n)=aH):Dn lt p (n+1):=λi j a g=>by
 by_cases e:j<n
 .exact h i j a e
 .have c:j=n:=aD;subst c;by_cases d:i=j-1
  .rw[d];exact b
  .exact O.trans _ _ _ b (h i (j-1) aD aD)
theorem Dn.like(h:Dn lt p n)(l:Lk lt p i j)(d:j<=p.size)(g:j<=n):Dn lt (kas_rev p i j) n:=λa b f k=>by
 rw[yP d,yP d];by_cases e:i<=a/\a<j
 .rw[bG e];by_cases c:i<=b/\b<j
  .rw[bG c];exact l _ _ aD aD aD aD
  .rw[bK c];exact h _ _ aD aD
 .rw[bK e];by_cases c:i<=b/\b<j
  .rw[bG c];exact h _ _ aD aD
  .rw[bK c];exact h _ _ aD aD
theorem Dn.turn(h:Dn lt p n)(c:n<=p.size):Up lt (kas_rev p 0 n) n:=λa b d e=>by
 rw[yP c,yP c,bG #[aD,aD],bG #[aD,aD]];exact h _ _ aD aD
theorem XJ(h:KP N p)(g:0<N):∀f n,1<=n->Up lt p n->dO N lt (kas_asc p f n) λm=>Up lt p m/\n<=m/\m<=n+f/\(m=n+f\/lt (at0 p m) (at0 p (m-1))=aq)
 |0,n,hn,u=>#[u,bQ _,bQ _,.inl rfl]
 |f+1,n,hn,u=>by
  refine#[h.ix g _,h.ix g _,?_]
  dsimp only;split
  .rename_i e
   exact#[u,bQ _,aD,.inr e]
  .rename_i e
   refine(XJ h g f (n+1) aD (u.succ O hn (by simpa using e))).mono λm i=>?_
   obtain⟨a,b,c,d⟩:=i
   refine#[a,aD,aD,?_]
   rcases d with d|d
   .left;lia
   .exact .inr d
theorem Np(c:0<N):∀f (p:Array Nat) n q,KP N p->1<=n->q<n->n+f<=N->Dn lt p n->Lk lt p (n-(q+1)) n->dO N lt (kas_desc f p n q) λr=>KP N r.1/\1<=r.2.1/\r.2.2<r.2.1/\r.2.1<=n+f/\Dn lt r.1 r.2.1/\Lk lt r.1 (r.2.1-(r.2.2+1)) r.2.1
 |0,p,n,q,h,hn,hq,hf,d,l=>#[h,hn,hq,bQ _,d,l]
 |f+1,p,n,q,h,hn,hq,hf,d,l=>by
  have sz:=h.size;have one:∀(p:Array Nat),Lk lt p (n+1-(0+1)) (n+1):=λp a b h1 h2 x C=>by
   have e1:a=n:=aD;have e2:b=n:=aD;rw[e1,e2];exact O.Gg _
  refine#[h.ix c _,h.ix c _,?_]
  dsimp only;split
  .rename_i e;have s:lt (at0 p (n-1)) (at0 p n)=aH:=O.BP _ _ e;split
   .have u:n<=p.size:=aD;have z:=d.like O l u (bQ _);have A:lt (at0 (kas_rev p (n-(q+1)) n) (n-1)) (at0 (kas_rev p (n-(q+1)) n) n)=aH:=by
     rw[yP u,yP u,bG #[aD,aD],bK aD];exact O.trans _ _ _ s (l _ _ aD aD aD aD)
    refine(Np c f _ (n+1) 0 (h.rev _ _) aD aD aD (z.succ O hn A) (one _)).mono λr k=>?_
    obtain⟨o,m,i,w,j,g⟩:=k
    exact#[o,m,i,aD,j,g]
   .refine(Np c f _ (n+1) 0 h aD aD aD (d.succ O hn s) (one _)).mono λr k=>?_
    obtain⟨o,m,i,w,j,g⟩:=k
    exact#[o,m,i,aD,j,g]
  .rename_i e;have e1:lt (at0 p n) (at0 p (n-1))=aH:=by simpa using e
   refine#[h.ix c _,h.ix c _,?_]
   dsimp only;split
   .exact#[h,hn,hq,(by show n<=n+(f+1);lia),d,l]
   .rename_i s;have e2:lt (at0 p (n-1)) (at0 p n)=aH:=by simpa using s
    have y:Lk lt p (n+1-(q+1+1)) (n+1):=λa b h1 h2 x C=>by
     have B:n+1-(q+1+1)=n-(q+1):=aD;rw[B] at h1 x;by_cases v:a=n
     .by_cases t:b=n
      .rw[v,t];exact O.Gg _
      .rw[v];exact O.trans _ _ _ (l (n-1) b aD aD aD aD) e1
     .by_cases t:b=n
      .rw[t];exact O.trans _ _ _ e2 (l a (n-1) aD aD aD aD)
      .exact l a b aD aD aD aD
    refine(Np c f _ (n+1) (q+1) h aD aD aD (d.succ O hn e2) y).mono λr k=>?_
    obtain⟨o,m,i,w,j,g⟩:=k
    exact#[o,m,i,aD,j,g]
theorem acD(c:0<N)(h:KP N p)(n:Nat)(a:1<=n)(e:n<=N)(d:Dn lt p n):dO N lt (kas_tail3 n N p) λr=>KP N r.2/\Up lt r.2 r.1/\1<=r.1/\r.1<=N:=by
 have sz:=h.size;refine dO.bind ((XJ O (h.rev 0 n) c (N-n) n a (d.turn O aD)).mono λm b=>?_)
 exact#[h.rev 0 n,b.1,aD,aD]
theorem abn(e:0<N)(h:KP N p)(n:Nat)(s:1<=n)(o:n+1<=N)(d:Dn lt p (n+1)):dO N lt (kas_descPart n N p) λr=>KP N r.2/\Up lt r.2 r.1/\1<=r.1/\r.1<=N:=by
 have j:Lk lt p (n+1-(0+1)) (n+1):=λa b h1 h2 q t=>by
  have e1:a=n:=aD;have e2:b=n:=aD;rw[e1,e2];exact O.Gg _
 refine dO.bind ((Np O e (N-(n+1)) p (n+1) 0 h aD aD aD d j).mono λr k=>?_)
 obtain⟨c,g,l,m,f,i⟩:=k
 have sz:=c.size;split
 .exact acD O e (c.rev _ _) _ g aD (f.like O i aD (bQ _))
 .exact acD O e c _ g aD f
theorem amg(g:0<N)(h:KP N p):dO N lt (kas_count N p) λr=>KP N r.2/\Up lt r.2 r.1/\1<=r.1/\r.1<=N:=by
 have sz:=h.size;refine dO.bind ((XJ O h g (N-1) 1 (bQ _) (λi j f l=>absurd l aD)).mono λn E=>?_)
 obtain⟨u,h1,h2,k⟩:=E
 split
 .rename_i e;have:=eq_of_beq e
  exact#[h,u,h1,by show n<=N;lia]
 .rename_i e;have H:n≠N:=λx=>e (by rw[x];simp)
  have B:lt (at0 p n) (at0 p (n-1))=aq:=by
   rcases k with k|k
   .lia
   .exact k
  have d:=O.BP _ _ B;split
  .refine#[h.ix g _,h.ix g _,?_]
   dsimp only;split
   .exact#[h,u,h1,by show n<=N;lia]
   .rename_i C;have e1:lt (at0 p 0) (at0 p (n-1))=aH:=by simpa using C
    have like:Lk lt p 0 n:=λa b _ v _ F=>by
     have o:lt (at0 p a) (at0 p 0)=aH:=by
      by_cases c:a=0
      .rw[c];exact O.Gg _
      .exact u 0 a aD v
     have m:lt (at0 p (n-1)) (at0 p b)=aH:=by
      by_cases c:b=n-1
      .rw[c];exact O.Gg _
      .exact u b (n-1) aD aD
     have G:lt (at0 p 0) (at0 p b)=aH:=O.trans (at0 p b) (at0 p (n-1)) (at0 p 0) m e1;have w:lt (at0 p a) (at0 p (n-1))=aH:=by
      by_cases c:a=n-1
      .rw[c];exact O.Gg _
      .cases q:lt (at0 p a) (at0 p (n-1)) with
       |false=>rfl
       |true=>
        exfalso;have A:lt (at0 p 0) (at0 p (n-1))=aH:=e1;have D:lt (at0 p a) (at0 p 0)=aH:=o;have:=O.trans (at0 p (n-1)) (at0 p 0) (at0 p a) A D;rw[this] at q;cases q
     exact O.trans (at0 p b) (at0 p (n-1)) (at0 p a) m w
    have t:Dn lt p n:=λi j f l=>like i j (jJ _) aD (jJ _) l
    have z:=t.like O like aD (bQ _);refine abn O g (h.rev 0 n) n h1 aD (z.succ O h1 ?_);rw[yP aD,yP aD,bG #[aD,aD],bK aD];exact O.trans _ _ _ d (like _ _ aD aD aD aD)
  .have e1:n=1:=aD;subst e1;refine abn O g h 1 (bQ _) aD λi j f l=>?_
   have s:i=0:=aD;have y:j=1:=aD;rw[s,y];exact d
theorem VD(b:0<N)(h:KP N p)(k:Nat)(u:Up lt p k):∀f l r,l<=r->r<=k->r-l<=f->(∀i,i<l->lt (at0 p k) (at0 p i)=aH)->(∀i,r<=i->i<k->lt (at0 p i) (at0 p k)=aH)->
  dO N lt (kas_place p k f l r) λm=>m<=k/\(∀i,i<m->lt (at0 p k) (at0 p i)=aH)/\∀i,m<=i->i<k->lt (at0 p i) (at0 p k)=aH
 |0,l,r,hlr,hr,hf,g1,g2=>by
  have e:l=r:=aD;subst e
  exact#[hr,g1,g2]
 |f+1,l,r,hlr,hr,hf,g1,g2=>by
  unfold kas_place;split
  .have e:l=r:=aD;subst e
   exact#[hr,g1,g2]
  .refine#[h.ix b _,h.ix b _,?_]
   dsimp only;split
   .rename_i e;have a:=O.BP _ _ e;refine VD b h k u f l ((l+r) / 2) aD aD aD g1 λi hi d=>?_
    by_cases c:i=(l+r) / 2
    .rw[c];exact a
    .exact O.trans _ _ _ a (u _ i aD d)
   .rename_i e;have a:lt (at0 p k) (at0 p ((l+r) / 2))=aH:=by simpa using e
    refine VD b h k u f ((l+r) / 2+1) r aD hr aD (λi hi=>?_) g2;by_cases c:i=(l+r) / 2
    .rw[c];exact a
    .exact O.trans _ _ _ (u i _ aD aD) a
theorem aeC(g:0<N):∀f (p:Array Nat) k,KP N p->k+f<=N->Up lt p k->dO N lt (kas_bin f p k) λr=>KP N r/\Up lt r (k+f)
 |0,p,k,h,hk,u=>#[h,u]
 |f+1,p,k,h,hk,u=>by
  have sz:=h.size;refine dO.bind ((VD O g h k u k 0 k (jJ _) (bQ _) aD (λi hi=>absurd hi (Nat.not_lt_zero _)) (λi h1 h2=>absurd h2 aD)).mono λl n=>?_)
  obtain⟨b,m,q⟩:=n
  have s:Up lt (bubble p k (k-l)) (k+1):=λi j t v=>by
   rw[aeB aD b,aeB aD b];by_cases hi:i=l
   .rw[bK aD,bG #[aD,aD],bG hi];exact q _ aD aD
   .by_cases a:j=l
    .rw[bG a,bK hi,bK aD];exact m _ aD
    .by_cases c:l<i
     .rw[bK a,bG #[aD,aD],bK hi,bG #[c,aD]];exact u _ _ aD aD
     .by_cases d:l<j
      .rw[bK a,bG #[d,aD],bK hi,bK aD];exact u _ _ aD aD
      .rw[bK a,bK aD,bK hi,bK aD];exact u _ _ aD aD
  refine(aeC g f _ (k+1) (h.bub _ _) aD s).mono λr o=>?_
  have e:k+(f+1)=k+1+f:=aD;rw[e];exact o
theorem an4(d:0<N):dO N lt (kas_sort N) λp=>KP N p/\Up lt p N:=by
 refine dO.bind ((amg O d (p:=List.toArray (gj N)) (G7 _)).mono λr f=>?_)
 obtain⟨c,a,h,g⟩:=f
 split
 .have e:max r.1 1=r.1:=aD;rw[e]
  refine(aeC O d (N-r.1) r.2 r.1 c aD a).mono λp b=>?_
  have e2:r.1+(N-r.1)=N:=aD;rw[e2] at b;exact b
 .have e:r.1=N:=aD;rw[e] at a
  exact#[c,a]
end
theorem an5(h:kLt a b=aq):kLt b a=aH:=by
 cases a with
 |inl i=>
  cases b with
  |inr y=>cases h
  |inl j=>have:=of_decide_eq_true h;exact m7 aD
 |inr x=>
  cases b with
  |inl y=>cases h
  |inr y=>exact KeyOrd.klt_asymm (O:=strKind.toKeyOrd) h
theorem apM(e:dz a=dz b)(d:dz b=dz c)(h:kLt a c=aq):kLt a b=aq\/kLt b c=aq:=by
 cases a with
 |inl i=>
  cases b with
  |inr y=>trivial
  |inl j=>
   cases c with
   |inr y=>trivial
   |inl k=>
    have h1:=of_decide_eq_true h;by_cases h2:i<j
    .exact .inl (gq h2)
    .exact .inr (gq aD)
 |inr x=>
  cases b with
  |inl y=>trivial
  |inr y=>
   cases c with
   |inl k=>trivial
   |inr z=>exact strKind.negTrans _ _ _ h
theorem str_of_list{x y:Str}(h:x.cps.toList=y.cps.toList):x=y:=by
 cases x;simp_all
theorem apO(t:dz a=dz b)(h1:kLt a b=aH)(h2:kLt b a=aH):a=b:=by
 cases a with
 |inl i=>
  cases b with
  |inr y=>cases t
  |inl j=>
   have c:=of_decide_eq_false h1;have d:=of_decide_eq_false h2
   grind
 |inr x=>
  cases b with
  |inl y=>cases t
  |inr y=>
   have:=strKind.total _ _ h1 h2;rw[str_of_list this]
def yU(aL:List Row)(i:Nat):List Key:=(aL.getD i (aL.headD (0,[]))).2
def yV(aL:List Row)(i j:Nat):Bool:=nW (yU aL i) (yU aL j)
def runK{α:Type}(lt:Nat->Nat->Bool):KasT α->α
 |.ret a=>a
 |.ask i j k=>runK lt (k (lt i j))
theorem dO.run:∀{t:KasT α},dO N lt t R->dO N lt t (λa=>R a/\a=runK lt t)/\R (runK lt t)
 |.ret a,h=>#[#[h,rfl],h]
 |.ask i j k,h=>let r:=dO.run h.2.2;#[#[h.1,h.2.1,r.1],r.2]
def xR(ks:List (List Key)):List Nat:=if ks.length<2 then gj ks.length else(runK (λi j=>nW (ks.getD i (ks.headD [])) (ks.getD j (ks.headD []))) (kas_sort ks.length)).toList
def uD(ks:List (List Key)):List (List Key):=(xR ks).map λi=>ks.getD i (ks.headD [])
theorem acE(aL:List Row)(i:Nat):yU aL i=(aL.map (·.2)).getD i ((aL.map (·.2)).headD []):=by
 unfold yU;cases h:aL[i]? with
 |none=>cases aL<;>simp_all [wM]
 |some r=>grind
theorem U4(b:n=aL.length)(h2:2<=n):dO n (yV aL) (kas_sort n) λp=>KP n p/\p.toList=xR (aL.map (·.2)):=by
 have e:yV aL=λi j=>nW ((aL.map (·.2)).getD i ((aL.map (·.2)).headD [])) ((aL.map (·.2)).getD j ((aL.map (·.2)).headD [])):=by
  funext i j;rw[yV,acE,acE]
 refine(dO.run (an0 aD)).1.mono λp a=>#[a.1,?_]
 unfold xR
 grind
theorem Ur{aL:List Row}(a:n=aL.length)(h:n<2):gj n=xR (aL.map (·.2)):=by
 subst a;unfold xR;simp_all
theorem Wu{aL:List Row}(h:p.Perm (gj aL.length))(a:p=xR (aL.map (·.2))):(p.map λi=>aL.getD i (0,[])).map (·.2)=uD (aL.map (·.2)):=by
 unfold uD;rw[<-a,eZ];refine yg λi hi=>?_
 grind
theorem VF(b:∀r∈aL,TupAt s'.heap r/\r.2.map dz=sh)(hi:i<aL.length)(a:j<aL.length)(C:Bool->aR->Prop)(q:C (yV aL i j) s'):
  kas_ask prog w A (tuples' aq) (aL.map λr=>fj r.1) i j C s':=by
 refine an3 b hi a C ?_;have e1:yU aL i=rowAt aL i:=by simp[yU,rowAt,wM,hi]
 have e2:yU aL j=rowAt aL j:=by simp[yU,rowAt,wM,a]
 unfold yV at q;simp_all
theorem aiD:gF X (.builtin "sorted") (λxs H Q=>∃(p:az)(aL:List Row)(b:Bool)(sh:List Bool),xs=[.ref p]/\b7 X.K H p (aL.map λr=>V.ref r.1)/\aL.length<64/\(∀r∈aL,H r.1=aa (.tup (r.2.map kV))/\r.2.map dz=b::sh)/\
  ∀(l:az)(rows':List Row),H l=ao->rows'.Perm aL->rows'.map (·.2)=uD (aL.map (·.2))->Q (.ref l) (upd H l (.lst (rows'.map λr=>V.ref r.1)))):=by
 intro aA s σ H xs us Q I r h
 obtain⟨p,aL,b,sh,rfl,F,n,z,q⟩:=h
 obtain⟨u,rfl,G⟩:=vals1 r
 cases G
 obtain⟨y,A,pl,_⟩:=I.list F
 have B:=Wt A;subst B;have f:∀r∈aL,TupAt s.heap r/\r.2.map dz=b::sh:=λr d=>by
  obtain⟨_,y,v,t⟩:=(I.hok r.1 _ (z r d).1)
  exact#[#[y,v,t],(z r d).2]
 refine LQ (κ:=tuples' aq) (lt:=yV aL) (Rl:=λp=>p=xR (aL.map (·.2))) (by simpa using n) (λh2=>U4 (by rw[bC]) h2) (λh2=>Ur (by rw[bC]) h2) (λR E=>?_) (λh2 s' k Q' w=>U0 (λr d=>#[(f r d).1.keep k,(f r d).2]) (by rw[bC] at h2;lia) Q' w)
  (λh2 s' k i j hi J C w=>VF (sh:=b::sh) (λr d=>#[(f r d).1.keep k,(f r d).2]) (by simpa using hi) (by simpa using J) C w) λp D h' c K a m x k e=>?_
 .refine collect_list pl.isList (E _ _ s.toks ?_ (λb o e=>?_) rfl)
  .rw[aaz,size_push'];lia
  .have g:b≠s.heap.objs.size:=fW (cY e);rw[aae _ _ _ _ g];exact cX _ e
 .rw[bC] at a;rw[U3 a] at e
  refine#[.ref D,_,I.laid (o:=.lst _) k x #[?_,_,c,Mr _,by simpa[seqObj] using e],rfl,q D _ (I.hok.fresh x) (Mq a) (Wu a m)]
  rw[bC,bC,a.length_eq,uZ,iw];lia
theorem aaL(hc:011):gF X (.builtin "sorted") (λxs H Q=>∃(d:az)(au:List (TK×V))(b:Bool)(sh:List Bool),xs=[.ref d]/\Cw H d au/\au.length<64/\(∀n∈au,n.1.2=ao/\n.1.1.map dz=b::sh)/\
  ∀(l:az)(aL:List Row),H l=ao->(aL.map (·.2)).Perm (au.map (·.1.1))->aL.map (·.2)=uD (au.map (·.1.1))->(∀r∈aL,H r.1=aa (.tup (r.2.map kV)))->Q (.ref l) (upd H l (.lst (aL.map λr=>V.ref r.1)))):=by
 intro aA s σ H xs us Q I r h
 obtain⟨d,au,b,sh,rfl,O,E,F,q⟩:=h
 obtain⟨u,rfl,ru⟩:=vals1 r
 cases ru
 obtain⟨z,lo,ys,B,o,es,ep,g1,Z,M,N,g5,g6⟩:=Bp I.hok O
 have w:pB s.heap d es ep:=#[o,g1,Z,M]
 obtain⟨aL,y,K,U⟩:∃aL:List Row,aL.map (·.2)=au.map (·.1.1)/\(∀r∈aL,H r.1=aa (.tup (r.2.map kV)))/\es.toList.map (·.key)=aL.map λr=>fj r.1:=by
  have T:∀n∈au,n.1.2=ao:=λn m=>(F n m).1
  clear g5 g6 E F q z O;rw[N];clear N w M;induction B with
  |nil=>exact#[[],rfl,bH,rfl]
  |@cons p q ps qs h t ih=>
   obtain⟨aL,a1,a2,W⟩:=ih λn m=>T n (dI _ m)
   refine#[(q.2.1,p.1.1)::aL,by simp[a1],λr a=>?_,?_]
   .rcases cC.mp a with rfl|a
    .have e:=T p cR
     obtain⟨⟨ks,o⟩,v⟩:=p
     cases(show o=ao from e)
     exact h.2.1
    .exact a2 r a
   .rw[cM,cM,W];rfl
 have S:aL.length=au.length:=by
  have:=congrArg ue y;simpa using this
 have hes:es.size=aL.length:=by
  have:=congrArg ue U;simpa using this
 have x:∀r∈aL,TupAt s.heap r/\r.2.map dz=b::sh:=λr a=>by
  obtain⟨_,aK,v,t⟩:=(I.hok r.1 _ (K r a))
  have:r.2∈au.map (·.1.1):=by rw[<-y];exact eO.mpr #[r,a,rfl]
  obtain⟨n,hk,e⟩:=eO.mp this
  exact#[#[aK,v,t],by rw[<-e];exact(F n hk).2]
 refine LQ (κ:=tuples' aq) (lt:=yV aL) (vs:=aL.map λr=>fj r.1) (Rl:=λp=>p=xR (aL.map (·.2))) (by rw[bC];lia) (λh2=>U4 (by rw[bC]) h2) (λh2=>Ur (by rw[bC]) h2) (λR Y=>?_) (λh2 s' k Q' G=>U0 (λr a=>#[(x r a).1.keep k,(x r a).2]) (by rw[bC] at h2;lia) Q' G)
  (λh2 s' k i j hi hj C G=>VF (sh:=b::sh) (λr a=>#[(x r a).1.keep k,(x r a).2]) (by simpa using hi) (by simpa using hj) C G) λp D h' c L f A P k e=>?_
 .refine abm (an2 (es:=es) (ep:=ep) lo) (I.ok.hd hc) w (by rw[iw];lia) λh' L aM J kk g=>Y _ h' L J kk (Sx λi=>?_)
  by_cases hi:i<es.size
  .have e1:aM.size=es.size:=g.1;have:=g.2 i (aM[i]'aD) (by simp[e1,hi]);rw[Gr,lV aD];rw[<-this,<-U,jr,Gr]
  .have e1:aM.size=es.size:=g.1;rw[Gs (by simp;lia),Gs (by simp;lia)]
 .rw[bC] at f;rw[U3 f] at e
  refine#[.ref D,_,I.laid (o:=.lst _) k P #[?_,_,c,Mr _,by simpa[seqObj] using e],rfl,q D _ (I.hok.fresh P) (((Mq f).map _).trans (by rw[y])) ((Wu f A).trans (by rw[y])) λr a=>K r ((Mq f).mem_iff.mp a)]
  rw[bC,bC,f.length_eq,uZ,iw];lia
abbrev Y6:=List (Option aB)
def er(Z:015)(H:Hp):Hp:=λb=>if b∈Z then ao else H b
theorem gW(h:er Z H b=aa o):H b=aa o:=by
 unfold er at h;simp_all
theorem sZ(Z:015)(H:Hp):cT (er Z H) H:=λb o h=>gW h
end L2
namespace HT
open PySem PySem.Spec PyProof.Rows
section
variable{prog:dB}{w:cG}{A:dN}{E:aG->aR->Prop}{s:aR}
theorem aid{t sl:az}{g j:aG}{lo hi:Option Int}(a:IsTup s.heap t items)(f:s.heap.IsSliceOf sl g j .none)(pl:vD g lo)(k:vD j hi)
  (i:eX items.size 0 lo=0/\eX items.size items.size hi=items.size)(h:Q (.ref t) s):bf 000 A (yD (.ref t) (.ref sl)) Q E s:=by
 obtain⟨m,d,c,l⟩:=id f
 have e:s.TypeIs (.ref sl) _:=#[m,d,c]
 unfold yD
 try with_reducible refine pJ ?_
 refine aJ (aiA a.typeIs aP (aJ (wz (name:=aO "__getitem__") a.typeIs Ry
  (mO Ry a.typeIs entry_tuple_getitem ?_ (args_tuple_getitem _ _)))))
 show bf _ _ (ZR _ >>= _) _ _ s;refine aJ (tupleItemsOf_ a (aJ (Hr e ?_)));refine aJ (aax f pl k ?_);have b:(((eX items.size 0 lo:Int)==0&&(1:Int)==1&&(eX items.size items.size hi-eX items.size 0 lo)==items.size)=aq):=by
  rw[i.1,i.2];simp
 show bf _ _ (if((eX items.size 0 lo:Int)==0&&1==1&&(eX _ _ hi-eX _ 0 lo)==items.size)=aq then _ else _) _ _ s;rw[bG b];refine aJ (aJ (Hr a.typeIs (bu ?_)));exact aJ (uf (bu #[_,rfl,bu h]))
theorem aeD:∀(l:List Nat),(∀m,m∈l->f m=aa (g m))->l.filterMap f=l.map g
 |[],_=>rfl
 |a::l,h=>by
  rw[List.filterMap_cons_some (h a (cR ..)),cM,aeD l λm b=>h m (dI _ b)]
theorem ak4(xs:Array aG):((gj xs.size).filterMap λ(m:Nat)=>xs[(((xs.size:Nat):Int)-1+(m:Int)*(-1)).toNat]?).toArray=xs.toList.reverse.toArray:=by
 congr 1;refine Sx λi=>?_
 have e:∀m,m∈gj xs.size->(λ(m:Nat)=>xs[(((xs.size:Nat):Int)-1+(m:Int)*(-1)).toNat]?) m=aa ((λm=>xs.toList.reverse.getD m .none) m):=by
  intro m b;have a:m<xs.size:=qp.mp b;have e1:(((xs.size:Nat):Int)-1+(m:Int)*(-1)).toNat=xs.size-1-m:=aD;show xs[(((xs.size:Nat):Int)-1+(m:Int)*(-1)).toNat]?=_;rw[e1];have d:xs.size-1-m<xs.size:=aD;simp[wM,a]
 have c:aaR (λ(m:Nat)=>xs[(((xs.size:Nat):Int)-1+(m:Int)*(-1)).toNat]?) (gj xs.size)=(gj xs.size).map (λm=>xs.toList.reverse.getD m .none):=aeD _ e;rw[c];by_cases h:i<xs.size
 .simp[wM,h]
 .have h2:¬i<xs.toList.length:=by simpa using h
  simp[h]
end
end HT
namespace L2
open PySem PySem.Spec PyProof.Rows PySem.W
section
variable{X:Cx}
def arz(K:aU):V->Option Int->Option Int->Hp->VK->Prop:=λx lo hi H Q=>∃a xs,x=.ref a/\dH K H a xs/\(xQ xs lo hi=xs->Q (.ref a) H)/\∀p,H p=ao->Q (.ref p) (upd H p (.tup (xQ xs lo hi)))
theorem an6:xW X (arz X.K):=by
 intro aA s σ H x v j l lo hi sl Q I rx d pl c h
 obtain⟨a,xs,rfl,f,m,k⟩:=h
 by_cases g:HT.eX xs.length 0 lo=0/\HT.eX xs.length xs.length hi=xs.length
 .cases rx
  obtain⟨i,r,e,n⟩:=I.tuple f
  have b:i.toArray.size=xs.length:=by exact r.length.symm
  refine#["tuple",_,PyProof.Rows.slot_tuple_getitem.lookup,e.typeIs,HT.aid e d pl c (by rw[b];exact g) ?_]
  refine#[.ref a,H,I,rfl,m ?_]
  unfold xQ
  grind
 .exact apA _ s σ H _ v j l lo hi sl Q I rx d pl c #[a,xs,rfl,f,g,k]
end
end L2
namespace HT
open PySem PySem.Spec PyProof.Rows
open Sem (wp)
open Builtin
end HT
namespace L2
open PySem PySem.Spec PyProof.Rows PySem.W
section
variable{Γ:Y6}{K:aU}
end
section
variable{Γ:Y6}{K:aU}
end
section
variable{Γ:Y6}{K:aU}
end
section
variable{X:Cx}
theorem akq(a:X.A.units+64<fD):dR X (gG .NotEq) (λx y H Q=>∃d e,RX H d x/\RX H e y/\jZ d=aq/\jZ e=aq/\Q (.bl (!PyData.eqv d e)) H):=by
 intro aA s σ H x y v u Q I rx f h
 obtain⟨d,e,i,g,h1,h2,q⟩:=h
 obtain⟨j,b⟩:=RD.reads I (i.rd ) rx
 obtain⟨bs,c⟩:=RD.reads I (g.rd ) f
 exact ne_dataH b c h1 h2 a #[.bl _,H,I,rfl,q]
end
theorem Nq{xs:Array Nat}(h:xs.toList.Pairwise (·<·))(a:i<k)(b:k<xs.size):xs.getD i d<xs.getD k d:=by
 have h1:=RL.mp h i k 002 002 a;have hi:=Lx a b;simp_all
theorem VG(h:xs.toList.Pairwise (·<·)):∀f lo hi,lo<=hi->hi<=xs.size->hi-lo<=f->(∀i,i<lo->xs.getD i j<j)->(∀i,hi<=i->i<xs.size->j<=xs.getD i j)->
  K5 xs j f lo hi<=xs.size/\(∀i,i<K5 xs j f lo hi->xs.getD i j<j)/\∀i,K5 xs j f lo hi<=i->i<xs.size->j<=xs.getD i j
 |0,lo,hi,h1,h2,h3,h4,h5=>by
  unfold K5
  exact#[aD,h4,λi a b=>h5 i aD b]
 |f+1,lo,hi,h1,h2,h3,h4,h5=>by
  unfold K5;by_cases c:lo<hi
  .rw[bG c];by_cases k:xs.getD ((lo+hi) / 2) j<j
   .rw[bG k];refine VG h f _ _ aD h2 aD (λi g=>?_) h5;by_cases e:i=(lo+hi) / 2
    .rwa [e]
    .exact Lx (Nq h aD aD) k
   .rw[bK k];refine VG h f _ _ aD aD aD h4 (λi g l=>?_);by_cases e:i=(lo+hi) / 2
    .rw[e];lia
    .have:=Nq (d:=j) h (show(lo+hi) / 2<i by lia) l;lia
  .rw[bK c]
   exact#[aD,h4,λi a b=>h5 i aD b]
theorem U5(j:Nat)(h:xs.toList.Pairwise (·<·)):lF xs j<=xs.size/\(∀i,i<lF xs j->xs.getD i j<j)/\∀i,lF xs j<=i->i<xs.size->j<=xs.getD i j:=
 VG h _ 0 _ (jJ _) (bQ _) aD (λi hi=>aD) (λi a b=>aD)
theorem adD(h:xs.toList.Pairwise (·<·)):lF xs 0=0:=by
 obtain⟨_,b,_⟩:=U5 0 h
 cases e:lF xs 0 with
 |zero=>rfl
 |succ n=>have:=b 0 aD;lia
theorem abA(h:xs.toList.Pairwise (·<·))(hi:i<xs.size):lF xs (xs[i]+1)=i+1:=by
 obtain⟨a,b,c⟩:=U5 _ h
 have e:∀k d,(m:k<xs.size)->xs.getD k d=xs[k]:=λk d m=>by simp_all
 have mono:∀p q,(g:p<xs.size)->(f:q<xs.size)->p<q->xs[p]<xs[q]:=λp q g f l=>by
  have:=Nq (d:=0) h l f
  rwa [e p 0 g,e q 0 f] at this
 by_cases h1:lF xs (xs[i]+1)<=i
 .have:=c i h1 hi;rw[e i _ hi] at this;lia
 .by_cases h2:lF xs (xs[i]+1)=i+1
  .trivial
  .have j:i+1<xs.size:=aD;have:=b (i+1) aD;rw[e _ _ j] at this
   grind
structure j7(b:Bool)(t:Ak):Prop where
 led:t.led=b
 Zx:t.dummies=#v[]
 Zy:t.place.toList.Pairwise (·<·)
theorem j7.standIn(h:j7 b t)(n:Nat):j7 b (t.standIn n):=#[h.led,rfl,by simpa[SetTable.standIn] using ahK]
theorem j7.orStandIn(h:j7 b t)(n:Nat):j7 b (t.orStandIn n):=by
 unfold SetTable.orStandIn;split
 .exact h
 .exact h.standIn n
theorem has_none(j:Nat):ajK #v[] j=aH:=rfl
theorem abB(b:t.dummies=#v[])(f:Nat->Int)(h:Int):∀fuel (p:SetTable.Probe) j d,p.dummy=ao->aiE t f h fuel p=aa (.empty j d)->d=ao/\t.slot j=.empty
 |0,p,j,d,_,e=>by trivial
 |fuel+1,p,j,d,hp,e=>by
  unfold aiE at e;have a:(t.advance p).dummy=ao:=by
   unfold SetTable.advance
   lia
  cases hs:t.slot p.j with
  |empty=>
   simp_all
  |dummy=>
   unfold aju at hs;rw[b] at hs;simp only[has_none] at hs
   grind
  |live i=>
   rw[hs] at e;simp only at e;split at e
   .cases e
   .exact abB b f h _ _ j d a e
theorem akr(h:xs.toList.Pairwise (·<·))(q:xs[lF xs j]?≠aa j):(SetTable.insertAt xs (lF xs j) j).toList.Pairwise (·<·):=by
 obtain⟨a,b,c⟩:=U5 j h
 rw[SetTable.toList_insertAt];have h':=h;rw[<-List.take_append_drop _ xs.toList,ahX] at h'
 obtain⟨h1,h2,p⟩:=h'
 have e:∀k d,(l:k<xs.size)->xs.getD k d=xs.toList[k]'(by simpa using l):=λk d l=>by rw[Dd,lV l];simp
 have lo:∀x,x∈xs.toList.take (lF xs j)->x<j:=λx f=>by
  obtain⟨i,hi,rfl⟩:=KH f
  have g:i<lF xs j:=by simp at hi;lia
  have:=b i g;rw[e i j aD] at this
  rwa [List.getElem_take]
 have hi:∀x,x∈xs.toList.drop (lF xs j)->j<x:=λx f=>by
  obtain⟨i,hi,rfl⟩:=KH f
  have o:lF xs j+i<xs.size:=by simp at hi;lia
  have r:=c _ (bQ _) aD;have ne:xs.getD _ j≠j:=λz=>q (by
   have n:lF xs j<xs.size:=aD;rw[Dd,lV n] at z;rw[lV n];simpa using z)
  rw[List.getElem_drop,<-e _ j o];by_cases z:i=0
  .subst z;simp only[Nat.add_zero];lia
  .have:=Nq (d:=j) h (show lF xs j<lF xs j+i by lia) o;lia
 rw[ahX]
 refine#[h1,wB.mpr #[hi,h2],λx f y m=>?_]
 rcases cC.mp m with rfl|m
 .exact lo x f
 .exact p x f y m
theorem j7.layNew(h:j7 b t)(es:Array (Int×aG))(d:Int)(x:aG):j7 b (layNew t es d x).2.1:=by
 unfold PySem.layNew;cases hf:t.freeSlot d with
 |none=>exact h.standIn _
 |some q=>
  obtain⟨a,g⟩:=q
  have c:t.slot a=.empty:=by
   unfold SetTable.freeSlot at hf;split at hf
   .rename_i e
    obtain⟨rfl,i⟩:=abB h.Zx _ _ _ _ _ _ rfl e
    simp_all
   trivial
  have f:t.place[lF t.place a]?≠aa a:=λz=>by
   unfold aju at c
   grind
  refine j7.orStandIn (t:=(t.put _).1) #[h.led,?_,akr h.Zy f] _
  show(if ajK _ _ then _ else t.dummies)=#v[]
  rw[h.Zx];rfl
theorem j7.relayAll(h:j7 b t)(es:Array (Int×aG))(n:Nat):j7 b (relayAll t es n).2.1:=by
 unfold Li;split
 .rename_i a;dsimp only;split
  .unfold SetTable.relaid SetTable.laid at a;cases ho:SetTable.layClean (SetTable.sizeAbove n-1) (es.map (·.1)) with
   |none=>grind
   |some owner=>
    simp only[ho,Option.bind_eq_bind,bU,Option.pure_def,aiB,ajv] at a;rw[<-a.1]
    refine#[h.led,rfl,?_]
    simp only[List.map_filterMap];refine at4 _ (λx y c=>?_) ahK;simp_all
  .exact h.standIn _
 .exact h.standIn _
theorem j7.plain(h:j7 b t)(v:Bool):j7 b {t with plain:=v}:=#[h.led,h.Zx,h.Zy]
theorem j7.fresh(b:Bool):j7 b (.fresh 0 0 b):=#[rfl,rfl,.nil]
end L2
namespace L2
open PySem PySem.Spec PySem.W
section
variable{prog:dB}{w:cG}{T:Type}[DecidableEq T](knd:z7 prog w T)
def bt(w:cG):Bool:=!(w.params.followText "set-order")
inductive lQ:List (Int×aG)->List T->Prop
 |nil:lQ [] []
 |cons {e:Int×aG} {k:T} {es:List (Int×aG)} {ks:List T}:(knd.is k e.2=aq/\e.1=knd.hash k/\e.2.scannable=aq)->lQ es ks->lQ (e::es) (k::ks)
def rJ(h:cg)(a:az)(ks:List T):Prop:=∃o es ep t,h.get? a=aa o/\o.ExactSet/\o.data=.set es ep t/\(∃ks',lQ knd es.toList ks'/\ks'.Perm ks)/\es.size<sO/\t.fits es.size=aq/\j7 (bt w) t
def m9(ks:List T)(k:T):List T:=if k∈ks then ks else ks++[k]
variable{knd}
theorem lQ.elems(h:lQ knd es ks):ElemsOf knd es:=by
 induction h with
 |nil=>intro e b;trivial
 |cons a _ ih=>
  intro e b;rcases cC.mp b with rfl|b
  .grind
  .exact ih e b
theorem lQ.len(h:lQ knd es ks):es.length=ks.length:=by
 induction h with
 |nil=>rfl
 |cons _ _ ih=>simp[ih]
theorem lQ.perm(p:es'.Perm es):∀{ks:List T},lQ knd es ks->∃c,lQ knd es' c/\c.Perm ks:=by
 induction p with
 |nil=>grind
 |cons x _ ih=>
  intro ks h;cases h with
  |cons a r=>
   obtain⟨c,h1,h2⟩:=ih r
   exact#[_,.cons a h1,h2.cons _]
 |swap x y l=>
  intro ks h;refine hide λe d=>?_
  cases h with
  |cons a r=>
   cases r with
   |cons b r=>exact d (#[_,.cons b (.cons a r),.swap ..])
 |trans _ _ ih1 ih2=>
  grind
theorem lQ.push(h:lQ knd es ks)(c:knd.is k x=aq)(b:x.scannable=aq):lQ knd (es++[(knd.hash k,x)]) (ks++[k]):=by
 induction h with
 |nil=>exact .cons #[c,rfl,b] .nil
 |cons a _ ih=>exact .cons a ih
theorem lQ.mem(h:lQ knd es ks)(b:x∈es)(c:knd.is k x.2=aq):k∈ks:=by
 induction h with
 |nil=>trivial
 |cons a _ ih=>
  rcases cC.mp b with rfl|b
  .cases knd.inj _ _ _ c a.1
   grind
  grind
theorem lQ.none(h:lQ knd es ks)(e:es.findIdx? (λe=>knd.is k e.2)=.none):k∉ks:=by
 have b:=List.findIdx?_eq_none_iff.mp e;clear e;induction h with
 |nil=>grind
 |cons a _ ih=>
  grind
theorem adE{h:cg}{a:az}{o:Obj}{ep:Nat}(d:h.get? a=aa o)(ex:o.ExactSet)(c:o.data=.set es ep t)(e:∃b,lQ knd es'.toList b/\b.Perm ks)
  (i:es'.size<sO)(f:t'.fits es'.size=aq)(tb:j7 (bt w) t'):
  ∃o',(h.update a (Us es' t')).get? a=aa o'/\o'.ExactSet/\o'.data=.set es' (ep+1) t'/\rJ knd (h.update a (Us es' t')) a ks:=by
 have g:=zR (Us _ t') d (by rw[putSet_of es' t' c];rfl);rw[putSet_of _ t' c] at g
 exact#[_,g,ex,rfl,_,_,_,t',g,ex,rfl,e,i,f,tb]
theorem an7(T:knd.is k x=aq)(K:x.scannable=aq)(hS:rJ knd s.heap a ks)(P:ks.length+1<sO)
  (h:∀b h',qW a s.heap h'->rJ knd h' a (m9 ks k)->Q b {s with heap:=h'}):bf 000 A (setAddHashed a x (knd.hash k)) Q E s:=by
 obtain⟨o,es,ep,t,y,ex,q,⟨k0,i,v⟩,Z,N,tb⟩:=hS
 have sz:es.size=ks.length:=by rw[<-n6,i.len,v.length_eq]
 have V:=i.elems;have mono:∀{u:Unit->aR->Prop}{s1:aR}(g:Bool),u () s1->∀r:Sem Unit,(r=rule "set.scan.the-table-gave-way"\/r=pure ())->bf 000 A r u E s1:=λg Y r F=>by
  rcases F with rfl|rfl
  .exact uf Y
  .exact bu Y
 unfold setAddHashed setAddHashedIn;refine pJ (aJ (GC y q N ?_));simp only[byScan_of K Z V,if_true];unfold setAddByScan;refine aJ (aJ (uf (aJ (wpAny_setScan_of T y q N V ?_))));cases F:es.toList.findIdx? (λe=>knd.is k e.2) with
 |some j=>
  obtain⟨hj,hp,_⟩:=List.findIdx?_eq_some_iff_getElem.mp F
  have J:k∈ks:=v.mem_iff.mp (i.mem (ym hj) hp);refine bu (bu (h _ s.heap (aan a s.heap) ?_));rw[m9,bG J]
  exact#[o,es,ep,t,y,ex,q,#[k0,i,v],Z,N,tb]
 |none=>
  have J:k∉ks:=λz=>i.none F (v.mem_iff.mpr z)
  have D:=layNew_perm t es (knd.hash k) x;have B:=layNew_fits t es (knd.hash k) x;have tn:=tb.layNew es (knd.hash k) x;dsimp only;generalize layNew t es (knd.hash k) x=L at D B tn⊢
  obtain⟨c,t1,wd,U⟩:=L
  dsimp only at D B tn⊢;rw[aiF] at D
  obtain⟨k1,e1,p1⟩:=(i.push T K).perm D
  have ak:m9 ks k=ks++[k]:=by rw[m9,bK J]
  have W:∃p,lQ knd c.toList p/\p.Perm (m9 ks k):=#[k1,e1,by rw[ak];exact p1.trans (v.append_right _)]
  have Kh:c.size=es.size+1:=by rw[<-n6,D.length_eq,eG,n6];rfl
  have O:c.size<sO:=aD;refine aJ (mono U ?_ _ (by cases U<;>first|exact .inl rfl|exact .inr rfl));have f:∀d:Ak,d.fits c.size=aq->j7 (bt w) d->bf (model prog w) A (do
    storeSet a c d
    if(!wd&&d.tooFull)=aq then do
      (match(Li d c (Dj c.size)).2.2 with|true=>rule "set.scan.the-table-gave-way" |false=>pure ())
      storeSet a (Li d c (Dj c.size)).1 (Li d c (Dj c.size)).2.1
      pure (aa aq)
     else pure (aa aq)) (λr s'=>bf (model prog w) A (match r with|some added=>pure added|none=>setAddHashedIn a x (knd.hash k) 99999) Q E s') E s:=λd f2 l=>by
   refine hide λGG C=>?_
   obtain⟨o1,R,I,S,S1⟩:=adE (knd:=knd) y ex q W O f2 l
   refine C (aJ (aiG y q ?_ (aap O)));have Ey:=oU s.heap a (Us c d);split
   .have G:=relayAll_perm d c (Dj c.size);have M:=relayAll_fits d c (Dj c.size);have H:=l.relayAll c (Dj c.size);generalize Li d c (Dj c.size)=L2 at G M H⊢
    obtain⟨n,t3,m⟩:=L2
    dsimp only at G M H⊢;refine hide λGG C=>?_
    obtain⟨k2,e2,p2⟩:=W
    obtain⟨k3,e3,p3⟩:=e2.perm G
    have sz2:n.size=c.size:=by rw[<-n6,G.length_eq,n6]
    have b2:n.size<sO:=aD;refine C (aJ (mono m (aJ (aiG R S (hide λGG C=>?_) (aap b2))) _ (by cases m<;>first|exact .inl rfl|exact .inr rfl)))
    obtain⟨_,_,_,_,S2⟩:=adE (knd:=knd) R I S #[k3,e3,p3.trans p2] b2 M H
    exact C (bu (bu (h _ _ (Ey.trans (oU ..)) S2)))
   .exact bu (bu (h _ _ Ey S1))
  split
  .refine aJ ?_;rw[hashByValue_scannable 8 K];refine bu ?_;by_cases X:plainKind x=aq
   .simp only[X,if_true];exact f t1 B tn
   .simp only[X,zU,if_false];exact f _ (SetTable.fits_plain_off B) (tn.plain aH)
  .refine aJ (bu ?_);simp only[if_true];exact f t1 B tn
end
section
variable{T:Type}[DecidableEq T]
def dedup(ks:List T):List T:=ks.foldl m9 []
theorem aks(ks:List T)(k:T):dedup (ks++[k])=m9 (dedup ks) k:=by simp[dedup]
theorem amh{k x:T}:x∈m9 ks k↔x∈ks\/x=k:=by
 unfold m9
 grind
theorem aaS:∀(ks a:List T),x∈ks.foldl m9 a↔x∈a\/x∈ks
 |[],a=>by simp
 |k::ks,a=>by rw[ai5,aaS,amh,cC,or_assoc]
theorem abW{x:T}:x∈dedup ks↔x∈ks:=by
 rw[dedup,aaS];simp
theorem akt{k:T}(h:ks.Nodup):(m9 ks k).Nodup:=by
 unfold m9
 grind
theorem aaA:∀(ks a:List T),a.Nodup->(ks.foldl m9 a).Nodup
 |[],_,h=>h
 |k::ks,_,h=>aaA ks _ (akt h)
theorem aj1(ks:List T):(dedup ks).Nodup:=aaA ks [] .nil
theorem ami(ks:List T)(k:T):(m9 ks k).length<=ks.length+1:=by
 unfold m9
 grind
theorem aaT:∀(ks a:List T),(ks.foldl m9 a).length<=a.length+ks.length
 |[],_=>by simp
 |k::ks,a=>by
  have h1:=aaT ks (m9 a k);have h2:=ami a k
  grind
theorem U6(ks:List T):(dedup ks).length<=ks.length:=by simpa[dedup] using aaT ks []
end
section
variable{prog:dB}{w:cG}{T:Type}[DecidableEq T]{knd:z7 prog w T}{A:dN}{E:aG->aR->Prop}{s:aR}
theorem rJ.at(H:rJ knd h a ks)(e:∀o,h.get? a=aa o->h'.get? a=aa o):rJ knd h' a ks:=
 let ⟨o,es,ep,t,ho,r⟩:=H
 #[o,es,ep,t,e o ho,r]
theorem rJ.ty(H:rJ knd s.heap a ks):s.TypeIs (.ref a) "set":=let ⟨o,_,_,_,ho,ex,_⟩:=H;#[o,ho,ex.1]
end
section
variable{prog:dB}{w:cG}{T:Type}[DecidableEq T]{knd:z7 prog w T}{A:dN}{E:aG->aR->Prop}{s:aR}
def JT(w:cG):Obj:={cls:=.type "set",dict:=ao,data:=.set #v[] 0 (.fresh 0 0 (bt w))}
theorem apP(g:h.get? a=aa (JT w)):rJ knd h a []:=#[_,_,0,_,g,#[rfl,rfl,rfl],rfl,#[[],.nil,.refl _],aP,rfl,j7.fresh _]
end
theorem uh:Slot "set_iterator" "__next__" "set_iterator.__next__":=.of (owner:="set_iterator") (n:="__next__") (rfl) (rfl) (rfl) (rfl) (by(exact .inl bz)) (rfl)
theorem adF:Slot "set_iterator" "__iter__" "set_iterator.__iter__":=.of (owner:="set_iterator") (n:="__iter__") (rfl) (rfl) (rfl) (rfl) (by(exact .inl bz)) (rfl)
theorem Ms:entryFor table "set_iterator.__next__"=aa rA.«set_iterator.__next__»:=entryFor_of_tree (rfl)
theorem ak5:entryFor table "set_iterator.__iter__"=aa rA.«dict_keyiterator.__iter__»:=entryFor_alias (id':="dict_keyiterator.__iter__") (by kernel_rfl) rfl bz (by kernel_rfl)
theorem aku:entryFor table "set.__iter__"=aa rA.«frozenset.__iter__»:=entryFor_alias (id':="frozenset.__iter__") (by kernel_rfl) rfl bz (by kernel_rfl)
theorem Mt(a:aG):argsOk "set_iterator.__next__" ⟨[a],[]⟩:=by
 kernel_rfl
theorem ak6(a:aG):argsOk "set_iterator.__iter__" ⟨[a],[]⟩:=by
 kernel_rfl
section
variable{prog:dB}{w:cG}{A:dN}{E:aG->aR->Prop}{s:aR}{it S:az}{es:Array (Int×aG)}{ep i n:Nat}{t:Ak}{first:aG}
def oM(b:Bool)(h:cg)(a:az)(es:Array (Int×aG))(ep:Nat)(t:Ak):Prop:=∃o,h.get? a=aa o/\o.ExactSet/\o.data=.set es ep t/\t.fits es.size=aq/\j7 b t
theorem oM.at(H:oM b h a es ep t)(e:∀o,h.get? a=aa o->h'.get? a=aa o):oM b h' a es ep t:=let ⟨o,ho,r⟩:=H;#[o,e o ho,r]
def mJ(h:cg)(it S:az)(first:aG)(i n ep:Nat):Prop:=∃o,h.get? it=aa o/\o.cls=.type "set_iterator"/\o.data=.fields #v[first,jm i,.ref S,jm n,jm ep]
theorem mJ.at(H:mJ h it S first i n ep)(e:∀o,h.get? it=aa o->h'.get? it=aa o):mJ h' it S first i n ep:=let ⟨o,ho,r⟩:=H;#[o,e o ho,r]
theorem mJ.ty(H:mJ s.heap it S first i n ep):s.TypeIs (.ref it) "set_iterator":=let ⟨o,ho,c,_⟩:=H;#[o,ho,c]
theorem mJ.set{h:cg}{j:Nat}{o:Obj}(b:h.get? it=aa o)(c:o.cls=.type "set_iterator")(a:o.data=.fields vs):
  ∃o',(h.update it (Ls (·.setIfInBounds j x))).get? it=aa o'/\o'.cls=.type "set_iterator"/\o'.data=.fields (vs.setIfInBounds j x):=
 #[_,zR _ b (aaa (Gw a _)),(aao ..).trans c,by rw[Gw a]]
theorem Wv(a:mJ s.heap it S first i n ep)(h:Q (.ref it) s):bf 000 A (wW (.ref it)) Q E s:=by
 exact Sw a.ty adF (mO adF a.ty ak5 (show bf _ _ (ret (.ref it)) _ _ s from(bu #[_,rfl,"set_iterator",_,a.ty,uh.lookup,h])) (ak6 _))
theorem adG{a:Nat}(b:mJ s.heap it S (jm a) i n ep)(l:oM (bt w) s.heap S es ep t)(D:n=es.size)(ne:S≠it)
  (nx:∀{B:dN}{E':aG->aR->Prop}{C:Option (aG×Nat)->aR->Prop},C R s->bf 000 B (setNext S a i ep) C E' s){x:aG}{c:Nat}(u:R=aa (x,c))
  (h:∀h',mJ h' it S (jm c) (i+1) n ep->qW it s.heap h'->Q (aa x) {s with heap:=h'}):bf 000 A (qu (.ref it)) Q E s:=by
 refine hide λI F=>?_
 obtain⟨o,d,z,g⟩:=id b
 obtain⟨H,e,v,f,r,tb⟩:=id l
 refine F (aJ (Ab (wz b.ty uh (mO uh b.ty Ms ?_ (Mt _)))));refine aJ (bu (aJ (zZ d g ?_)));dsimp only[jm];refine aJ (KJ e f r ?_);subst D;subst u;rw[bK bH];refine aJ (nx ?_);refine aJ (wF d g bH ?_)
 obtain⟨J,j,p,k⟩:=mJ.set d z g
 refine aJ (wF j k bH ?_)
 obtain⟨q,y,m,G⟩:=mJ.set j p k
 refine bu #[_,rfl,bu (h _ #[q,y,m,?_] ((oU ..).trans (oU ..)))];rw[G];simp[jm]
theorem adH(d:A.handled=ao)(h:∀h',(∀b o,s'.heap.get? b=aa o->h'.get? b=aa o)->Q ao {s' with heap:=h'}):
  bf 000 A.in1 (do let e <-newExc (.type "StopIteration") [];(raiseNew e:Sem Fin)) (λc s1=>∃v,c=Fin.done (Flow.ret v)/\bf 000 A (pure (aa v)) Q E s1)
   (λe s1=>bf 000 A (do if(<-isInstance e (Ae "StopIteration"))=aq then pure ao else throw e) Q E s1) s':=by
 refine aJ ?_;refine aJ (nF (aJ (m:=G8 _ _) (Uc (a:=nH) (by first|rfl|(simp only[G8];rfl)) ?_)) (by size_fits));refine nF ?_ (by size_fits);refine aJ (aa1 ?_);rw[d];refine aJ (bu (abl ?_));refine aJ (GF (b:=aq) #[_,fV _ rfl,rfl] aaP ?_);exact bu (h _ λb o e=>cX _ (cX _ e))
theorem aeE{a:Nat}(r:A.handled=ao)(c:mJ s.heap it S (jm a) i n ep)(l:oM (bt w) s.heap S es ep t)(u:n=es.size)
  (nx:∀{B:dN}{E':aG->aR->Prop}{C:Option (aG×Nat)->aR->Prop},C ao s->bf 000 B (setNext S a i ep) C E' s)
  (h:∀h',(∀b o,b≠it->s.heap.get? b=aa o->h'.get? b=aa o)->Q ao {s with heap:=h'}):bf 000 A (qu (.ref it)) Q E s:=by
 refine hide λy v=>?_
 obtain⟨o,g,z,j⟩:=id c
 obtain⟨x,d,q,f,m,tb⟩:=id l
 refine v (aJ (Ab (wz c.ty uh (mO uh c.ty Ms ?_ (Mt _)))));refine aJ (bu (aJ (zZ g j ?_)));dsimp only[jm];refine aJ (KJ d f m ?_);subst u;rw[bK bH];refine aJ (nx ?_);exact aJ (wF g j bH (adH r λh' p=>h h' λb o k e=>p b o (((oU ..).2 b k).trans e)))
end
section
variable{prog:dB}{w:cG}{A:dN}{E:aG->aR->Prop}{s:aR}{it S:az}{ep i n:Nat}{t:Ak}{first:aG}
theorem Nr(h:Q (!bt w) s):bf 000 A setsByText Q E s:=by
 refine aJ (K9 (bu ?_));have h':=by simpa[bt] using h
 trivial
theorem Ut:∀{l:List α}{j:Nat}(h:j<l.length),(l[j]::l.eraseIdx j).Perm l
 |[],j,h=>by cases h
 |a::l,0,h=>.refl _
 |a::l,j+1,h=>by
  have:=Ut (by simpa using h)
  exact(ajg ..).trans (this.cons a)
theorem abX(c:oM (bt w) s.heap S es ep t)(b:bt w=aq)(g:(!t.plain&&decide (es.size>1))=aH)
  (h:C (match es[lF t.place slot]?,t.place[lF t.place slot]? with|some (_,x),some j=>aa (x,j+1)|_,_=>ao) s):bf 000 A (setNext S slot i ep) C E s:=by
 obtain⟨o,d,ex,e,f,tb⟩:=c
 refine aJ (GC d e f (aJ (Nr ?_)));rw[b];simp only[ajw,zU,if_false];refine Td (λz=>?_) (λ_=>?_)
 .have a:(!t.plain&&decide _)=aq:=z;rw[g] at a;cases a
 refine aJ (show bf _ _ (if(!t.led&&!es.isEmpty)=aq then _ else _) _ _ _ from ?_);rw[tb.led,b];exact bu (bu h)
theorem abY(f:oM (bt w) s.heap S es ep t)(d:bt w=aH)
  (h:C (((Dv (w.params.setOrder S ep) es)[i]?).map λe=>(e.2,slot)) s):bf 000 A (setNext S slot i ep) C E s:=by
 obtain⟨o,a,ex,b,c,tb⟩:=f
 refine aJ (GC a b c (aJ (Nr ?_)));rw[d];simp only[bne_self_eq_false,if_false];refine aJ ?_;refine aJ (GC a b c (aJ (Nr ?_)));rw[d];exact aJ (K9 (bu (bu h)))
theorem adI(f:Nat->Nat):∀(m k:Nat)(left:List α)(out:Array α),left.length=m->(aa7 f m k left out).toList.Perm (out.toList++left)
 |0,k,left,out,h=>by
  unfold aa7;simp_all
 |m+1,k,left,out,h=>by
  unfold aa7;have a:f k%left.length<left.length:=Nat.mod_lt _ aD;rw[qR a]
  refine(adI f m _ _ _ 002).trans ?_
  rw[aiF,iK];exact List.Perm.append_left _ (Ut a)
theorem U7(f:Nat->Nat)(xs:Array α):(Dv f xs).toList.Perm xs.toList:=by
 have:=adI f _ 0 xs.toList #v[] (rfl);trivial
theorem amj(a:m≠0)(h:∀j d,j<m->Q j {s with drawn:=d}):bf 000 A (choose src m) Q E s:=λΓ p _=>#[a,h _ _ (Nat.mod_lt _ (Nat.pos_of_ne_zero a))]
theorem acF:∀(m:Nat)(xs:List α)(s:aR)(Q:List α->aR->Prop),xs.length=m->(∀ys d,ys.Perm xs->Q ys {s with drawn:=d})->bf 000 A (drawOrder m xs) Q E s
 |0,xs,s,Q,hl,h=>by
  rw[List.length_eq_zero_iff.mp hl] at h;exact bu (h [] _ (.refl _))
 |m+1,[],s,Q,hl,h=>by grind
 |m+1,x::xs,s,Q,hl,h=>by
  refine aJ (amj bH λj d a=>?_);rw[qR a];exact aJ (acF m _ _ _ (by rw[List.length_eraseIdx,bG a];simpa using hl) λys d' b=>bu (h _ d' ((b.cons _).trans (Ut a))))
end
def Gh(h:cg)(pl:az)(ps:List Nat):Prop:=∃o c,h.get? pl=aa o/\o.data=.seq (ps.map λk:Nat=>jm k).toArray c
theorem Gh.at(H:Gh h pl ps)(e:∀o,h.get? pl=aa o->h'.get? pl=aa o):Gh h' pl ps:=let ⟨o,c,ho,r⟩:=H;#[o,c,e o ho,r]
theorem an8(a:mJ s.heap it S (.ref pl) i n ep)(r:oM (bt w) s.heap S es ep t)(v:Gh s.heap pl ps)(B:n=es.size)(q:ps[i]?=aa k)(D:es[k]?=aa e)
  (h:∀h',mJ h' it S (.ref pl) (i+1) n ep->qW it s.heap h'->Q (aa e.2) {s with heap:=h'}):bf 000 A (qu (.ref it)) Q E s:=by
 refine hide λH C=>?_
 obtain⟨o,f,y,j⟩:=id a
 obtain⟨F,b,x,c,l,tb⟩:=id r
 obtain⟨op,G,d,g⟩:=v
 refine C (aJ (Ab (wz a.ty uh (mO uh a.ty Ms ?_ (Mt _)))));refine aJ (bu (aJ (zZ f j ?_)));dsimp only[jm];refine aJ (KJ b c l ?_);subst B;rw[bK bH];refine aJ (Tg d g ?_);dsimp only;rw[show((ps.map _).toArray)[((i:Int)).toNat]?=aa (.int k 0) by simp[q,jm]];refine aJ (aJ (GC b c l ?_));simp only[Gz,bne_self_eq_false,D];refine bu (aJ (wF f j bH ?_))
 obtain⟨z,m,u,p⟩:=mJ.set f y j
 refine bu #[_,rfl,bu (h _ #[z,m,u,?_] (oU ..))];rw[p];rfl
theorem apQ(z:A.handled=ao)(a:mJ s.heap it S (.ref pl) i n ep)(r:oM (bt w) s.heap S es ep t)(x:Gh s.heap pl ps)(C:n=es.size)(p:ps.length<=i)
  (h:∀h',(∀b o,b≠it->s.heap.get? b=aa o->h'.get? b=aa o)->Q ao {s with heap:=h'}):bf 000 A (qu (.ref it)) Q E s:=by
 refine hide λI D=>?_
 obtain⟨o,d,B,k⟩:=id a
 obtain⟨G,f,y,j,u,tb⟩:=id r
 obtain⟨op,H,c,g⟩:=x
 refine D (aJ (Ab (wz a.ty uh (mO uh a.ty Ms ?_ (Mt _)))));refine aJ (bu (aJ (zZ d k ?_)));dsimp only[jm];refine aJ (KJ f j u ?_);subst C;rw[bK bH];refine aJ (Tg c g ?_);dsimp only;rw[show((ps.map _).toArray)[((i:Int)).toNat]?=ao by simp[p]];refine aJ (wF d k bH ?_)
 obtain⟨J,l,F,m⟩:=mJ.set d B k
 exact aJ (wF l m bH (adH z λh' v=>h h' λb o q e=>v b o ((((oU ..).trans (oU ..)).2 b q).trans e)))
theorem ak7(p:A.handled=ao)(ne:S≠it)(a:bt w=aq)(m:(!t.plain&&decide (es.size>1))=aH)(hz:t.place.size=es.size)(f:t.place.toList.Pairwise (·<·)):
  Walks prog w A it [it,S] [it] es.size (λi v=>(es.toList.map (·.2))[i]?=aa v) (λi h=>mJ h it S (jm (if i=0 then 0 else t.place.getD (i-1) 0+1:Nat)) i es.size ep/\oM (bt w) h S es ep t) where
 sub:=λb a=>by simp at a;simp[a]
 frame:=λ_ _ _ st j=>#[st.1.at λo e=>j it bH o e,st.2.at λo e=>j S bH o e]
 item:=λi s Q E hi st d=>by
  have k:i<t.place.size:=aD;have g:lF t.place (if i=0 then 0 else t.place.getD (i-1) 0+1)=i:=by
   by_cases z:i=0
   .subst z;exact adD f
   .rw[bK z];have h1:i-1<t.place.size:=aD;have:=abA f h1;rw[Dd,lV h1,aaB,this];lia
  refine adG (R:=aa (es[i].2,t.place[i]+1)) st.1 st.2 rfl ne (λc=>abX st.2 a m ?_) rfl λh' l same=>d _ h' s.toks (by simp[hi]) #[?_,st.2.at λo e=>(same.2 S ne).trans e] λb o a e=>(same.2 b λz=>a (by simp[z])).trans e
  .rwa [g,lV hi,lV k]
  .have e1:(if i+1=0 then 0 else t.place.getD (i+1-1) 0+1)=t.place[i]+1:=by
    rw[bK aD,Nat.add_sub_cancel,Dd,lV k,aaB]
   rwa [e1]
 done:=λs Q E st d=>by
  have g:lF t.place (if es.size=0 then 0 else t.place.getD (es.size-1) 0+1)=es.size:=by
   by_cases z:es.size=0
   .rw[z];exact adD f
   .rw[bK z];have h1:es.size-1<t.place.size:=aD;have:=abA f h1;rw[Dd,lV h1,aaB,this];lia
  refine aeE p st.1 st.2 rfl (λc=>abX st.2 a m ?_) λh' n=>d h' s.toks λb o a e=>n b o (λz=>a (by simp[z])) e
  rwa [g,Z6 (bQ _)]
 self:=λ_ _ _ _ st d=>Wv st.1 d
theorem ak8(m:A.handled=ao)(ne:S≠it)(a:bt w=aH):
  Walks prog w A it [it,S] [it] es.size (λi v=>((Dv (w.params.setOrder S ep) es).toList.map (·.2))[i]?=aa v) (λi h=>mJ h it S (jm (0:Nat)) i es.size ep/\oM (bt w) h S es ep t) where
 sub:=λb a=>by simp at a;simp[a]
 frame:=λ_ _ _ st g=>#[st.1.at λo e=>g it bH o e,st.2.at λo e=>g S bH o e]
 item:=λi s Q E hi st f=>by
  have k:(Dv (w.params.setOrder S ep) es).size=es.size:=by rw[<-n6,(U7 _ es).length_eq,n6]
  have j:i<(Dv (w.params.setOrder S ep) es).size:=aD;refine adG (R:=aa ((Dv _ es)[i].2,0)) st.1 st.2 rfl ne (λc=>abY st.2 a ?_) rfl λh' d same=>f _ h' _ (by simp[j]) #[d,st.2.at λo e=>(same.2 S ne).trans e] λb o a e=>(same.2 b λz=>a (by simp[z])).trans e
  rwa [lV j]
 done:=λs Q E st f=>by
  have k:(Dv (w.params.setOrder S ep) es).size=es.size:=by rw[<-n6,(U7 _ es).length_eq,n6]
  refine aeE m st.1 st.2 rfl (λc=>abY st.2 a ?_) λh' l=>f h' _ λb o a e=>l b o (λz=>a (by simp[z])) e
  grind
 self:=λ_ _ _ _ st f=>Wv st.1 f
theorem akv(n:A.handled=ao)(ne:S≠it)(p:pl≠it)(g:ps.Perm (gj es.size)):
  Walks prog w A it [it,S,pl] [it] es.size (λi v=>(ps.map λk=>(es.getD k (0,.none)).2)[i]?=aa v) (λi h=>mJ h it S (.ref pl) i es.size ep/\oM (bt w) h S es ep t/\Gh h pl ps) where
 sub:=λb f=>by grind
 frame:=λ_ _ _ st a=>#[st.1.at λo e=>a it bH o e,st.2.1.at λo e=>a S bH o e,st.2.2.at λo e=>a pl bH o e]
 item:=λi s Q E hi st d=>by
  have l:ps.length=es.size:=by rw[g.length_eq,uZ]
  have j:i<ps.length:=aD;have a:=qp.mp (g.mem_iff.mp (ym j));refine an8 st.1 st.2.1 st.2.2 rfl (qR j) (lV a) λh' c same=>d _ h' _ ?_ #[c,st.2.1.at λo e=>(same.2 S ne).trans e,st.2.2.at λo e=>(same.2 pl p).trans e] λb o f e=>(same.2 b λz=>f 002).trans e
  simp_all
 done:=λs Q E st d=>by
  have l:ps.length=es.size:=by rw[g.length_eq,uZ]
  exact apQ n st.1 st.2.1 st.2.2 rfl aD λh' m=>d h' _ λb o f e=>m b o (λz=>f 002) e
 self:=λ_ _ _ _ st d=>Wv st.1 d
section
variable{w:cG}{A:dN}{s:aR}{S:az}{ep:Nat}{t:Ak}
theorem ak9(c:oM (bt w) s.heap S es ep t)(h:Q (bt w&&(!t.plain&&decide (es.size>1))) s):bf 000 A (setDrawn S) Q E s:=by
 obtain⟨f,b,d,a,e,tb⟩:=id c
 refine aJ (GC b a e (aJ (Nr (bu ?_))))
 rwa [Bool.not_not]
theorem amk(u:A.handled=ao)(y:oM (bt w) s.heap S es ep t)(C:es.size<sO)
  (h:∀(I:az)(h1:cg)(d:Bo)(fp:015)(out:014)(St:Nat->cg->Prop),Walks prog w A I fp [I] es.size (λi v=>out[i]?=aa v) St->St 0 h1->out.Perm (es.toList.map (·.2))->(∀b o,s.heap.get? b=aa o->h1.get? b=aa o)->s.heap.objs.size<=I->
   (∀b∈fp,b=S\/s.heap.objs.size<=b)->Q (.ref I) {s with heap:=h1,drawn:=d}):bf (model prog w) A (wW (.ref S)) Q E s:=by
 obtain⟨m,a,g,c,l,tb⟩:=id y
 have z:s.TypeIs (.ref S) "set":=#[m,a,g.1]
 have lt:S<s.heap.objs.size:=cY a;have D:t.place.size=es.size:=by
  have:=l;simp only[SetTable.fits,jc,beq_iff_eq] at this;exact this.1
 refine Sw z ai6 (mO ai6 z aku ?_ (F.args_set_iter_1 _));unfold rA.«frozenset.__iter__» at5 atZ;refine aJ (aJ (bu (bu (aJ (aJ (KJ a c l (bu ?_)))))));refine aJ (ak9 y ?_);by_cases q:(bt w&&(!t.plain&&decide (es.size>1)))=aq
 .rw[bG q];refine aJ (acF _ _ _ _ (uZ ..) λps d r=>?_);have pl:ps.length=es.size:=by rw[r.length_eq,uZ]
  unfold newTuple;refine aJ (nF ?_ (show(List.map (λi:Nat=>jm i) ps).toArray.size<=cz by rw[oX,bC,pl,iw];unfold sO at C;lia));have x:(s.heap.push {cls:=.type "tuple",data:=.seq (ps.map λk:Nat=>jm k).toArray}).get? S=aa m:=cX _ a;refine aJ (aiH (s:={s with heap:=s.heap.push _,drawn:=d}) x c l (aJ ?_));unfold newFields;refine nF (bu #[_,rfl,"set_iterator",_,#[_,fV _ rfl,rfl],uh.lookup,?_]);have p:(s.heap.push {cls:=.type "tuple",data:=.seq (ps.map λk:Nat=>jm k).toArray}).objs.size=s.heap.objs.size+1:=u5 ..;refine h _ _ d [_,S,s.heap.objs.size] _ _ (akv (ep:=ep) (t:=t) u ?_ ?_ r) #[#[_,fV _ rfl,rfl,rfl],#[m,cX _ x,g,c,l,tb],#[_,0,cX _ (fV _ rfl),rfl]] ?_ (λb o e=>cX _ (cX _ e)) ?_ ?_
  .rw[p];exact fW (yj lt)
  .rw[p];exact fW (zW _)
  .have e2:(gj es.size).map (λk=>(es.getD k (0,nH)).2)=es.toList.map (·.2):=by
    refine GP bH λj h1 h2=>?_
    have H:j<es.size:=by simpa using h1
    simp[Dd,lV H]
   rw[<-e2];exact r.map _
  .rw[p];exact ud _
  .intro b f;simp only[cC,mQ,or_false] at f;rcases f with rfl|rfl|rfl
   .right;rw[p];exact ud _
   .exact .inl rfl
   .exact .inr (bQ _)
 .rw[bK q];refine aJ (bu ?_);refine aJ (aiH a c l ?_);refine aJ ?_;unfold newFields;refine nF (bu #[_,rfl,"set_iterator",_,#[_,fV _ rfl,rfl],uh.lookup,?_]);have n:∀b,b∈[s.heap.objs.size,S]->b=S\/s.heap.objs.size<=b:=λb f=>by
   simp only[cC,mQ,or_false] at f;rcases f with rfl|rfl
   .exact .inr (bQ _)
   .exact .inl rfl
  refine hide λJ B=>?_
  cases hbt:bt w with
  |true=>
   rw[hbt] at q;have G:(!t.plain&&decide (es.size>1))=aH:=by simpa using q
   exact B (h _ _ s.drawn [_,S] _ _ (ak7 (ep:=ep) u (fW lt) hbt G D tb.Zy) #[#[_,fV _ rfl,rfl,rfl],#[m,cX _ a,g,c,l,tb]] (.refl _) (λb o e=>cX _ e) (bQ _) n)
  |false=>
   exact B (h _ _ s.drawn [_,S] _ _ (ak8 (ep:=ep) (t:=t) u (fW lt) hbt) #[#[_,fV _ rfl,rfl,rfl],#[m,cX _ a,g,c,l,tb]] ((U7 _ es).map _) (λb o e=>cX _ e) (bQ _) n)
end
end L2
namespace L2
open PySem PySem.Spec PySem.W PyProof.Rows
section
variable{prog:dB}{w:cG}{A:dN}{E:aG->aR->Prop}{s:aR}{S:az}{es:Array (Int×aG)}{ep:Nat}{t:Ak}
theorem aml(a:s.TypeIs (.ref S) "set")(h:Q aH s):bf 000 A (atq (.ref S)) Q E s:=by
 refine aJ (zX a PySem.F.slot_set_len.lookup ?_);generalize hid:("set.__len__")=c;subst hid;refine aJ (GF (T:="set") (b:=aq) a (by rw[isSubtype_type];kernel_rfl) (Td (λz=>absurd z aP) λ_=>Td (λ_=>?_) λz=>absurd bz z));exact aJ (Hr a (bu h))
theorem ala{out:014}(h:ItemsOf (λi v=>out[i]?=aa v) aM out.length):aM=out.toArray:=by
 refine Array.ext (by simpa using h.1) λj h1 h2=>?_
 have this:out[j]?=aa _:=h.2 j _ (lV h1)
 grind
theorem akx{R:Em->aR->Prop}(P:A.handled=ao)(y:oM (bt w) s.heap S es ep t)(v:es.size<sO){L:az}(ne:L≠S){c0:Nat}(u:s.heap.get? L=aa {cls:=.type "list",data:=.seq #v[] c0})(res:aG)
  (M:∀(h':cg)(d:Bo)(j:Nat)(us:014)(i:Nat),us.Perm (es.toList.map (·.2))->(∀b o,b≠L->s.heap.get? b=aa o->h'.get? b=aa o)->h'.get? L=aa {cls:=.type "list",dict:=ao,data:=.seq us.toArray i,slots:=#v[]}->
   R (.ok (.ret res)) {s with heap:=h',drawn:=d,toks:=j}):
  bf 000 A.in1 (RK (.ref L) (.ref S) res) (λn s'=>match n with|.done f=>R (.ok f) s'|.again i=>i.quiet=aq/\lH 000 A i R s') (λe s'=>R (.error e) s') s:=by
 obtain⟨B,c,h,V,X,tb⟩:=id y
 have O:s.TypeIs (.ref S) "set":=#[B,c,h.1]
 have p:L<s.heap.objs.size:=cY u;unfold RK;refine aJ (Hr O ?_);rw[show(Z1 (.ref L) (.ref S)||Ae "set"==Ae "list"||Ae "set"==Ae "tuple")=aH by
  rw[show Z1 (.ref L) (.ref S)=aH by simp[Z1,ne]];decide]
 simp only[zU,if_false];refine aJ (amk (A:=A.in1) P y v λI h1 d fp out St W st C kp k r=>?_);have lo:out.length=es.size:=by rw[C.length_eq,bC,n6]
 have Y7:L∉fp:=λz=>(r L z).elim ne λK=>absurd p (Nat.not_lt.mpr K)
 have run:∀(h2:cg)(m j:Nat),St 0 h2->(∀b o,b≠L->s.heap.get? b=aa o->h2.get? b=aa o)->h2.get? L=aa {cls:=.type "list",data:=.seq #v[] m}->
   lH 000 A (.builtin "list.extend.loop" #[[.ref L,.ref I,res],[]]) R {s with heap:=h2,drawn:=d,toks:=j}:=λh2 m j st2 N Q=>by
  refine codeAny_extend_loopS W.toS (aap v) L Y7 res es.size 0 _ #v[] m rfl (jJ _) st2 Q (ItemsOf.nil _) λF aM G x J E=>?_
  rw[<-lo] at E;have T:=ala E;subst T;rw[Moved.eq_with x];refine M F.heap d F.toks out G C (λb o a e=>x.heap b o (λz=>?_) (N b o a e)) J;rcases cC.mp z with z|z
  .exact a z
  .exact absurd (cY e) (by rw[gB.mp z];exact Nat.not_lt.mpr k)
 have q:=kp L _ u;have H:Shared.TypeIs {s with heap:=h1,drawn:=d} (.ref S) "set":=#[B,kp S _ c,h.1]
 refine aJ (pJ (aml H ?_));refine Td (λ_=>aJ (uf (aJ (show bf _ _ (updateSeq L (·.push .none) >>= λ_=>updateSeq L (·.pop)) _ _ _ from ?_)))) λ_=>bu #[Hf ahz _,run h1 c0 s.toks st (λb o _ e=>kp b o e) q]
 refine aJ (wpAny_updateSeq q rfl ?_);have D:=zR (oZ (·.push nH)) q rfl;refine wpAny_updateSeq (hz:=by seq_fits) D rfl ?_;have U:=zR (oZ (·.pop)) D rfl;have g:∀b o,b≠L->h1.get? b=aa o->((h1.update L (oZ (·.push nH))).update L (oZ (·.pop))).get? b=aa o:=λb o a e=>
  (RV _ _ (jK a)).trans ((RV _ _ (jK a)).trans e)
 exact bu #[Hf ahz _,run _ _ s.toks (W.frame 0 _ _ st λb l o e=>g b o (λz=>Y7 (z▸l)) e) (λb o a e=>g b o a (kp b o e)) U]
theorem aj2(u:A.handled=ao)(n:oM (bt w) s.heap S es ep t)(p:es.size<sO)
  (h:∀(h':cg)(d:Bo)(a:Nat)(us:014),us.Perm (es.toList.map (·.2))->s.heap.objs.size<=h'.objs.size->(∀b o,s.heap.get? b=aa o->h'.get? b=aa o)->R us {s with heap:=h',drawn:=d,toks:=a}):
  bf 000 A (collect (.ref S)) R E s:=by
 have k:S<s.heap.objs.size:=let ⟨_,e,_⟩:=n;cY e
 unfold collect;refine aJ (aaQ (zY entry_proto_collect' ?_));refine aJ (nF (bu #[Hf ahE _,zY entry_list_iadd' ?_]));have v:(s.heap.push _).get? s.heap.objs.size=aa {cls:=.type "list",data:=.seq #v[]}:=fV _ rfl;have m:=akx (prog:=prog) (A:=A) (s:={s with heap:=s.heap.push _})
  (R:=λ(q:Em)(s':aR)=>∃(h':cg)(d:Bo)(a:Nat)(us:014)(i:Nat),q=.ok _/\s'={s with heap:=h',drawn:=d,toks:=a}/\us.Perm (es.toList.map (·.2))/\(∀b o,s.heap.get? b=aa o->h'.get? b=aa o)/\h'.get? s.heap.objs.size=aa {cls:=.type "list",dict:=ao,data:=.seq us.toArray i,slots:=#v[]})
  u (n.at λo e=>cX _ e) p (Ho k) v (.ref s.heap.objs.size) (λh' d a us i j c g=>#[h',d,a,us,i,rfl,rfl,j,λb o e=>c b o (fW (cY e)) (cX _ e),g])
 refine qY m (λl s' x=>?_) λe s' x=>?_
 .cases l with
  |done f=>
   obtain⟨h',d,a,us,i,e,rfl,j,c,g⟩:=x
   cases e;exact aJ (Hw g (bu (h h' d a us j (yu (cY g)) c)))
  |again c1=>
   refine#[x.1,Hq x.2 λq z y=>?_]
   obtain⟨h',d,a,us,i,rfl,rfl,j,c,g⟩:=y
   exact aJ (Hw g (bu (h h' d a us j (yu (cY g)) c)))
 .obtain⟨_,_,_,_,_,r,_⟩:=x
  cases r
end
section
variable{prog:dB}{w:cG}{A:dN}{E:aG->aR->Prop}{s:aR}{S:az}{es:Array (Int×aG)}{ep:Nat}{t:Ak}
theorem aky{Ok:List aG->Prop}(r:A.handled=ao)(p:oM (bt w) s.heap S es ep t)(u:es.size<64)
  (f:∀us:List aG,us.Perm (es.toList.map (·.2))->∀(B:dN)(s1:aR)(a:az)(n:Nat)(P:Fin->aR->Prop)(E':aG->aR->Prop),s1.heap.get? a=aa (seqObj "list" us.toArray n)->
   (∀out:Array aG,Ok out.toList->P (.done (.ret .none)) {s1 with heap:=sortedHeap s1.heap a us out})->bf (model prog w) B (rA.«list.sort» ⟨[.ref a],[]⟩) P E' s1)
  (h:∀(D:az)(h':cg)(d:Bo)(i c:Nat)(out:Array aG),Ok out.toList->s.heap.objs.size<=D->(∀b o,s.heap.get? b=aa o->h'.get? b=aa o)->h'.get? D=aa (seqObj "list" out c)->Q (.ref D) {s with heap:=h',drawn:=d,toks:=i}):
  bf 000 A (call (.builtin "sorted") [.ref S]) Q E s:=by
 refine ZW kind_sorted plain_sorted entry_sorted (args_sorted1 _) ?_;refine aJ (bu (aJ (aj2 r p (by unfold sO;lia) λh1 d i us l m k=>?_)));have v:us.length=es.size:=by rw[l.length_eq,bC,n6]
 refine aJ (Lr ?_ (by rw[iw];lia));have g:(h1.push _).get? _=aa (seqObj "list" us.toArray 0):=fV _ rfl;refine aJ (pJ (mO slot_list_sort #[_,g,rfl] entry_list_sort (f us l _ _ _ 0 _ _ g λout ok=>#[_,rfl,?_]) (args_list_sort _)))
 obtain⟨c,q⟩:=sortedHeap_at g
 refine bu #[_,rfl,h _ _ d i c _ ok m (λb o e=>?_) q];have j:=cY (k b o e);rw[sortedHeap_old (fW j) (by rw[u5];exact yj j)];exact cX _ (k b o e)
end
theorem Inv.drew(d:Bo)(I:06):Inv X aA σ H {s with drawn:=d}:=
 I.call (ch:=[]) (Un.kept λ_ _ e=>e) (I.hok.kept λ_ _ e=>e) I.bare (λ_ z=>nomatch z)
section
variable{X:Cx}{T:Type}[DecidableEq T]{knd:z7 X.prog X.w T}{l:Expr}{tl:TE}{p1 p2 pos1 pos2:Pos}
end
def Y8:aG->Int
 |.int k _=>k
 |_=>0
theorem acG:∀(us:014),(∀v,v∈us->∃k t,v=.int k t)->IntsAre us (us.map Y8)
 |[],_=>.nil
 |v::us,h=>by
  obtain⟨k,t,rfl⟩:=h v (cR ..)
  exact .cons k t (acG us λx a=>h x (dI _ a))
theorem amm(h:lQ (intKind prog w) es ks):(es.map (·.2)).map Y8=ks/\∀v,v∈es.map (·.2)->∃k t,v=.int k t:=by
 induction h with
 |nil=>exact#[rfl,λv b=>by cases b]
 |@cons e k es ks a _ ih=>
  obtain⟨t,c⟩:=ais (show abe k e.2=aq from a.1)
  refine#[by rw[cM,cM,ih.1,c];rfl,λv b=>?_]
  rcases cC.mp b with rfl|b
  .exact#[k,t,c]
  .exact ih.2 v b
end L2
namespace L2
open PySem PySem.Spec PyProof.Rows PySem.W
noncomputable def fL:aB->Option Key
 |.int i=>aa (.inl i)
 |.str x=>aa (.inr x)
 |_=>ao
def keysOf:List aB->Option (List Key)
 |[]=>aa []
 |d::r=>match fL d,keysOf r with
  |some k,some t=>aa (k::t)
  |_,_=>ao
def iJ:aB->Option TK
 |.tuple [.tuple ds,.bool b]=>(keysOf ds).map (·,aa b)
 |.tuple ds=>(keysOf ds).map (·,ao)
 |_=>ao
def cj{κ:Type}(f:aB->Option κ):List (aB×aB)->Option (List κ)
 |[]=>aa []
 |p::r=>match f p.1,cj f r with
  |some k,some t=>aa (k::t)
  |_,_=>ao
def rT(H:Hp)(a:az)(au:List (aB×aB))(vs:012):Prop:=
 (∃ks,cj fL au=aa ks/\∃ep,H a=aa (.dK (ks.zip vs) ep))\/∃ks,(au≠[]/\cj iJ au=aa ks)/\∃ep,H a=aa (.dT (ks.zip vs) ep)
theorem Rt(h:∃ep,H a=aa (.dK au ep)):vU H a au:=let ⟨ep,e⟩:=h;#[ep,.inl e]
theorem rdT(h:∃ep,H a=aa (.dT au ep)):Cw H a au:=let ⟨ep,e⟩:=h;#[ep,.inl e]
mutual
def RZ(H:Hp):aB->V->Prop
 |.none,v=>v=.non
 |.bool b,v=>v=.bl b
 |.int i,v=>v=.int i
 |.str x,v=>v=.str x
 |.list ds,v=>∃a vs,v=.ref a/\H a=aa (.lst vs)/\cF H ds vs
 |.tuple ds,v=>∃a vs,v=.ref a/\H a=aa (.tup vs)/\cF H ds vs
 |.dict au,v=>∃a vs,v=.ref a/\rT H a au vs/\iZ H au vs
def cF(H:Hp):List aB->List V->Prop
 |[],vs=>vs=[]
 |d::ds,vs=>∃v r,vs=v::r/\RZ H d v/\cF H ds r
def iZ(H:Hp):List (aB×aB)->List V->Prop
 |[],vs=>vs=[]
 |p::r,vs=>∃v t,vs=v::t/\RZp H p v/\iZ H r t
def RZp(H:Hp):aB×aB->V->Prop
 |(_,d),v=>RZ H d v
end
theorem rT.same(s:cT H H')(h:rT H a au vs):rT H' a au vs:=by
 rcases h with⟨ks,e,ep,h⟩|⟨ks,e,ep,h⟩
 .exact .inl #[ks,e,ep,s _ _ h]
 .exact .inr #[ks,e,ep,s _ _ h]
mutual
theorem RZ.same(s:cT H H'):∀{d:aB}{v:V},RZ H d v->RZ H' d v
 |.none,_,h=>h
 |.bool _,_,h=>h
 |.int _,_,h=>h
 |.str _,_,h=>h
 |.list ds,_,h=>by
  obtain⟨a,vs,e,q,r⟩:=h
  exact#[a,vs,e,s _ _ q,cF.same s r]
 |.tuple ds,_,h=>by
  obtain⟨a,vs,e,q,r⟩:=h
  exact#[a,vs,e,s _ _ q,cF.same s r]
 |.dict _,_,h=>by
  obtain⟨a,vs,e,q,r⟩:=h
  exact#[a,vs,e,q.same s,iZ.same s r]
theorem cF.same(s:cT H H'):∀{ds:016}{vs:012},cF H ds vs->cF H' ds vs
 |[],_,h=>h
 |d::ds,vs,h=>by
  obtain⟨v,r,e,q,t⟩:=h
  exact#[v,r,e,RZ.same s q,cF.same s t]
theorem iZ.same(s:cT H H'):∀{au:List (aB×aB)}{vs:012},iZ H au vs->iZ H' au vs
 |[],_,h=>h
 |(k,d)::ds,vs,h=>by
  obtain⟨v,r,e,q,t⟩:=h
  exact#[v,r,e,RZ.same s q,iZ.same s t]
end
theorem jL:∀{ds:016}{vs:012},cF H ds vs->vs.length=ds.length
 |[],_,h=>by cases(h);rfl
 |e::ds,vs,h=>by
  obtain⟨u,r,e1,q,s⟩:=h
  subst e1;rw[iM,iM,jL s]
theorem Iu:∀{ds:List (aB×aB)}{vs:012},iZ H ds vs->vs.length=ds.length
 |[],_,h=>by cases(h);rfl
 |e::ds,vs,h=>by
  obtain⟨u,r,e1,q,s⟩:=h
  subst e1;rw[iM,iM,Iu s]
theorem Ep:∀{ds:016}{vs:012}{i:Nat}{d:aB},cF H ds vs->ds[i]?=aa d->∃v,vs[i]?=aa v/\RZ H d v
 |[],_,_,_,_,e=>by grind
 |x::ds,vs,i,d,h,e=>by
  obtain⟨u,r,e1,q,s⟩:=h
  subst e1;cases i with
  |zero=>grind
  |succ i=>
   obtain⟨v,e2,h2⟩:=Ep s (by trivial)
   grind
theorem yG:∀{ds es:016}{vs ws:012},cF H ds vs->cF H es ws->cF H (ds++es) (vs++ws)
 |[],_,_,_,h,g=>by cases(h);exact g
 |d::ds,_,_,_,h,g=>by
  obtain⟨u,r,e1,q,s⟩:=h
  subst e1
  exact#[u,_,rfl,q,yG s g]
theorem acH:∀{ds:016}{vs:012}(n:Nat),cF H ds vs->cF H (ds.take n) (vs.take n)
 |_,_,0,_=>rfl
 |[],_,n+1,h=>by cases(h);rfl
 |d::ds,_,n+1,h=>by
  obtain⟨u,r,e1,q,s⟩:=h
  subst e1
  exact#[u,_,rfl,q,acH n s]
theorem acI:∀{ds:016}{vs:012}(n:Nat),cF H ds vs->cF H (ds.drop n) (vs.drop n)
 |_,_,0,h=>h
 |[],_,n+1,h=>by cases(h);rfl
 |d::ds,_,n+1,h=>by
  obtain⟨u,r,e1,q,s⟩:=h
  subst e1;exact acI n s
theorem adJ(a:RZ H d v):∀{ds:016}{vs:012}(i:Nat),cF H ds vs->cF H (ds.set i d) (vs.set i v)
 |[],_,_,h=>by cases(h);rfl
 |x::ds,_,i,h=>by
  obtain⟨u,r,e1,q,s⟩:=h
  subst e1;cases i with
  |zero=>exact#[v,r,rfl,a,s]
  |succ i=>exact#[u,_,rfl,q,adJ a i s]
noncomputable def mX:aB->Bool
 |.none=>aq
 |.bool _=>aq
 |.int _=>aq
 |.str _=>aq
 |_=>aH
noncomputable def toV:aB->V
 |.none=>.non
 |.bool b=>.bl b
 |.int i=>.int i
 |.str x=>.str x
 |_=>.non
theorem an9(f:mX d=aq)(h:RZ H d v):v=toV d:=by
 cases d<;>first|exact h|cases f
theorem aoa(f:mX d=aq):RZ H d (toV d):=by
 cases d<;>first|rfl|cases f
theorem VH:∀{ds:016}{vs:012},ds.all mX=aq->cF H ds vs->vs=ds.map toV
 |[],_,_,h=>h
 |d::ds,vs,f,h=>by
  obtain⟨u,r,e1,q,s⟩:=h
  rw[Dl,jc] at f;rw[e1,an9 f.1 q,VH f.2 s];rfl
theorem acJ(ns:List Int):cF H (ns.map Hz) (ns.map V.int):=by
 induction ns with
 |nil=>rfl
 |cons n r ih=>exact#[_,_,rfl,rfl,ih]
theorem Mz(ns:009):cF H (ns.map fP) (ns.map V.str):=by
 induction ns with
 |nil=>rfl
 |cons n r ih=>exact#[_,_,rfl,rfl,ih]
mutual
def fU:aB->Bool
 |.list _=>aH
 |.tuple ds=>iW ds
 |.dict _=>aH
 |_=>aq
def iW:List aB->Bool
 |[]=>aq
 |d::r=>fU d&&iW r
end
mutual
theorem RZ.fU(t:∀a vs,H a=aa (.tup vs)->H' a=aa (.tup vs)):∀{d:aB}{v:V},fU d=aq->RZ H d v->RZ H' d v
 |.none,_,_,h=>h
 |.bool _,_,_,h=>h
 |.int _,_,_,h=>h
 |.str _,_,_,h=>h
 |.list ds,_,n,h=>nomatch n
 |.tuple ds,_,n,h=>by
  obtain⟨a,vs,e,q,r⟩:=h
  exact#[a,vs,e,t _ _ q,cF.fU t n r]
 |.dict _,_,n,_=>nomatch n
theorem cF.fU(t:∀a vs,H a=aa (.tup vs)->H' a=aa (.tup vs)):∀{ds:016}{vs:012},iW ds=aq->cF H ds vs->cF H' ds vs
 |[],_,_,h=>h
 |d::ds,vs,n,h=>by
  obtain⟨v,r,e,q,w⟩:=h
  have b:L2.fU d=aq/\iW ds=aq:=by rw[iW,jc] at n;exact n
  exact#[v,r,e,RZ.fU t b.1 q,cF.fU t b.2 w]
end
mutual
def jX:aB->Bool
 |.list ds=>qG ds
 |.tuple ds=>qG ds
 |.dict _=>aH
 |_=>aq
def qG:List aB->Bool
 |[]=>aq
 |d::r=>jX d&&qG r
end
mutual
theorem RZ.rx:∀{d:aB}{v:V},jX d=aq->RZ H d v->RX H d v
 |.none,_,_,h=>h
 |.bool _,_,_,h=>h
 |.int _,_,_,h=>h
 |.str _,_,_,h=>h
 |.list ds,_,n,h=>by
  obtain⟨a,vs,e,q,r⟩:=h
  exact#[a,vs,e,q,cF.rx n r]
 |.tuple ds,_,n,h=>by
  obtain⟨a,vs,e,q,r⟩:=h
  exact#[a,vs,e,q,cF.rx n r]
 |.dict _,_,n,_=>nomatch n
theorem cF.rx:∀{ds:016}{vs:012},qG ds=aq->cF H ds vs->xY H ds vs
 |[],_,_,h=>h
 |d::ds,vs,n,h=>by
  obtain⟨v,r,e,q,t⟩:=h
  have a:jX d=aq/\qG ds=aq:=by rw[qG,jc] at n;exact n
  exact#[v,r,e,RZ.rx a.1 q,cF.rx a.2 t]
end
inductive Vl where
 |im (d:aB)
 |ow (d:aB)
 |ce (n:Nat)
 |sc (ns:List Int)
 |ks (ds:016)
 |tp (p:016) (d:aB) (q:016)
abbrev En:=List (Option Vl)
inductive Ci where
 |dat (d:aB)
 |cD (m:Nat)
inductive Cl where
 |lst (xs:List Ci)
 |b8 (au:List (aB×Ci))
 |uR
 |obj (c:az) (ns:009) (xs:List Ci)
abbrev Ce:=List Cl
def inC(ns:List Int):Cl:=.lst (ns.map λn=>.dat (.int n))
def own1:Option Vl->Option V->List az
 |some (.ow _),some (.ref a)=>[a]
 |_,_=>[]
def cB:En->St->List az
 |x::e,v::s=>own1 x v++cB e s
 |_,_=>[]
theorem mV:∀{aj:En}{σ:St},a∈cB aj σ↔∃(i:Nat)(d:aB),aj[i]?=aa (aa (Vl.ow d))/\σ[i]?=aa (aa (V.ref a))
 |[],σ=>by
  constructor
  .intro h;trivial
  grind
 |x::e,[]=>by
  constructor
  .intro h;trivial
  grind
 |x::e,v::s=>by
  rw[cB,dU,mV ];constructor
  .rintro(h|⟨i,d,h1,h2⟩)
   .unfold own1 at h;split at h
    .rw[gB] at h;subst h
     exact#[0,_,rfl,rfl]
    trivial
   .exact#[i+1,d,by grind,by grind]
  .rintro⟨i,d,h1,h2⟩
   cases i with
   |zero=>
    simp at h1 h2;subst h1 h2;exact .inl (gB.mpr rfl)
   |succ i=>grind
theorem Iv:∀{aj:En}{σ:St}{i j:Nat}{d e:aB},(cB aj σ).Nodup->aj[i]?=aa (aa (Vl.ow d))->σ[i]?=aa (aa (V.ref a))->aj[j]?=aa (aa (Vl.ow e))->σ[j]?=aa (aa (V.ref a))->i=j
 |[],_,i,_,_,_,_,h,_,_,_=>by grind
 |_::_,[],i,_,_,_,_,_,h,_,_=>by grind
 |x::en,v::s,i,j,d,e,nd,h1,h2,h3,h4=>by
  rw[cB,lX] at nd;cases i with
  |zero=>
   cases j with
   |zero=>rfl
   |succ j=>
    simp at h1 h2;subst h1 h2;have:=mV.mpr #[j,e,by trivial,by trivial];exact absurd rfl (nd.2.2 a (gB.mpr rfl) a this)
  |succ i=>
   cases j with
   |zero=>
    simp at h3 h4;subst h3 h4;have:=mV.mpr #[i,d,by trivial,by trivial];exact absurd rfl (nd.2.2 a (gB.mpr rfl) a this)
   |succ j=>rw[Iv (i:=i) nd.2.1 (by trivial) (by trivial) (by trivial) 002]
def Zz(x y:Option Vl):Prop:=y=x\/∃d,x=aa (.ow d)/\y=aa (.im d)
def Fz:En->En->Prop
 |[],[]=>True
 |x::r,y::t=>Zz x y/\Fz r t
 |_,_=>False
theorem Fz.refl:∀e:En,Fz e e
 |[]=>trivial
 |x::r=>#[.inl rfl,Fz.refl r]
theorem Fz.trans:∀{a b c:En},Fz a b->Fz b c->Fz a c
 |[],[],[],_,_=>trivial
 |x::r,y::t,z::w,h,g=>by
  refine#[?_,Fz.trans h.2 g.2]
  rcases h.1 with e|⟨d,e1,e2⟩
  .rw[<-e];exact g.1
  .rcases g.1 with e|⟨d',i,f⟩
   .exact .inr #[d,e1,e.trans e2]
   grind
 |[],[],_::_,_,g=>nomatch g
 |[],_::_,_,h,_=>nomatch h
 |_::_,[],_,h,_=>nomatch h
 |_::_,_::_,[],_,g=>nomatch g
theorem Fz.len:∀{a b:En},Fz a b->b.length=a.length
 |[],[],_=>rfl
 |_::_,_::_,h=>by rw[iM,iM,Fz.len h.2]
 |[],_::_,h=>nomatch h
 |_::_,[],h=>nomatch h
theorem Fz.at:∀{a b:En}{i:Nat}{y:Vl},Fz a b->b[i]?=aa (aa y)->a[i]?=aa (aa y)\/∃d,a[i]?=aa (aa (.ow d))/\y=.im d
 |[],[],i,y,_,e=>by lia
 |x::r,z::t,0,y,h,e=>by
  rcases h.1 with q|⟨d,c,f⟩
  .simp_all
  grind
 |x::r,z::t,i+1,y,h,e=>by
  simpa using Fz.at h.2 002
 |[],_::_,_,_,h,_=>nomatch h
 |_::_,[],_,_,h,_=>nomatch h
theorem aob(h:Zz x y)(v:Option V):aa8 (own1 y v) (own1 x v):=by
 rcases h with e|⟨d,e1,e2⟩
 .simp_all
 .rw[e2];exact List.nil_sublist _
theorem Fz.own:∀{a b:En}{σ:St},Fz a b->aa8 (cB b σ) (cB a σ)
 |[],[],σ,_=>by grind
 |x::r,y::t,[],h=>K6 _
 |x::r,y::t,v::s,h=>by
  exact KN (aob h.1 v) (Fz.own h.2)
 |[],_::_,_,h=>nomatch h
 |_::_,[],_,h=>nomatch h
abbrev bF(Z Θ:List az)(aj:En)(σ:St):List az:=Z++(Θ++cB aj σ)
def lO(E H:Hp)(a:az):aB->Prop
 |.list ds=>∃vs,H a=aa (.lst vs)/\cF E ds vs
 |.dict au=>∃vs,rT H a au vs/\iZ E au vs
 |_=>False
theorem lO.same(s:cT E E')(h:∀o,H a=aa o->H' a=aa o)(r:lO E H a d):lO E' H' a d:=by
 cases d<;>first|exact r.elim|skip
 .obtain⟨vs,e,q⟩:=r
  exact#[vs,h _ e,q.same s]
 .obtain⟨vs,e,q⟩:=r
  refine#[vs,?_,q.same s]
  rcases e with⟨ks,k,ep,e⟩|⟨ks,k,ep,e⟩
  .exact .inl #[ks,k,ep,h _ e]
  .exact .inr #[ks,k,ep,h _ e]
theorem lO.rz(h:∀o,H a=aa o->E a=aa o)(r:lO E H a d):RZ E d (.ref a):=by
 cases d<;>first|exact r.elim|skip
 .obtain⟨vs,e,q⟩:=r
  exact#[a,vs,rfl,h _ e,q]
 .obtain⟨vs,e,q⟩:=r
  refine#[a,vs,rfl,?_,q]
  rcases e with⟨ks,k,ep,e⟩|⟨ks,k,ep,e⟩
  .exact .inl #[ks,k,ep,h _ e]
  .exact .inr #[ks,k,ep,h _ e]
structure bh(Θ:List az)(H H':Hp):Prop where
 keep:∀a o,H a=aa o->a∉Θ->H' a=aa o
 dom:∀a,H a≠ao->H' a≠ao
theorem bh.refl(Θ:015)(H:Hp):bh Θ H H:=#[λ_ _ e _=>e,λ_ e=>e]
theorem bh.trans(a:bh Θ H H1)(b:bh Θ H1 H2):bh Θ H H2:=#[λc o e n=>b.keep _ _ (a.keep _ _ e n) n,λc e=>b.dom _ (a.dom _ e)]
theorem bh.none(k:bh Θ H H')(h:H' a=ao):H a=ao:=by
 cases e:H a with
 |none=>rfl
 |some o=>exact absurd h (k.dom a 002)
theorem bh.of(s:cT H H'):bh Θ H H':=⟨λa o e _=>s _ _ e,λa h=>by
 cases e:H a with
 |none=>lia
 |some o=>rw[s _ _ e];grind⟩
theorem bh.upd(h:H p=lZ):bh Θ H (L2.upd H p o):=bh.of (cT.upd h)
theorem jN(k:bh Θ H H')(c:∀a∈Θ,a∈Z)(hz:∀a,a∈Z'->a∈Z\/H a=ao):cT (er Z H) (er Z' H'):=λb o h=>by
 unfold er at h⊢;split at h
 .cases h
 .rename_i n;rw[bK,k.keep _ _ h (λm=>n (c b m))]
  grind
def BR(K:aU)(E H:Hp)(Θ:015):Vl->V->Prop
 |.im d,v=>RZ E d v
 |.ow d,v=>∃a,v=.ref a/\lO E H a d
 |.ce n,v=>∃a,v=.ref a/\Θ[n]?=aa a
 |.sc ns,v=>∃a,v=.ref a/\b7 K E a (ns.map V.int)
 |.ks ns,v=>∃a,v=.ref a/\dH K E a (ns.map toV)
 |.tp _ _ _,_=>False
def NT(o:Option HO):Prop:=∃u,o=aa u/\∀vs,u≠.tup vs
theorem NT.ne(h:NT o):o≠ao:=by
 obtain⟨u,rfl,_⟩:=h
 grind
theorem lO.nt(r:lO E H a d):NT (H a):=by
 cases d<;>first|exact r.elim|skip
 .obtain⟨vs,e,q⟩:=r
  exact#[_,e,λ_ z=>nomatch z]
 .obtain⟨vs,e,q⟩:=r
  rcases e with⟨ks,k,ep,e⟩|⟨ks,k,ep,e⟩
  .exact#[_,e,λ_ z=>nomatch z]
  .exact#[_,e,λ_ z=>nomatch z]
def ni(Θ:015)(H:Hp):Ci->V->Prop
 |.dat d,v=>fU d=aq/\RZ H d v
 |.cD m,v=>∃b,v=.ref b/\Θ[m]?=aa b
def gm(Θ:015)(H:Hp):List Ci->List V->Prop
 |[],vs=>vs=[]
 |x::xs,vs=>∃v r,vs=v::r/\ni Θ H x v/\gm Θ H xs r
def lR(Θ:015)(H:Hp)(a:az):Cl->Prop
 |.lst xs=>∃vs,H a=aa (.lst vs)/\gm Θ H xs vs
 |.b8 au=>∃vs,rT H a (au.map λp=>(p.1,.none)) vs/\gm Θ H (au.map (·.2)) vs
 |.uR=>NT (H a)
 |.obj c ns xs=>∃dx vs,H a=aa (.ins c dx (ns.zip vs))/\ns.length=xs.length/\gm Θ H xs vs
theorem ni.keep(k:∀a vs,H a=aa (.tup vs)->H' a=aa (.tup vs))(t:∀(m:Nat)(b:az),Θ[m]?=aa b->L'[m]?=aa b)(h:ni Θ H x v):ni L' H' x v:=by
 cases x with
 |dat d=>exact#[h.1,RZ.fU k h.1 h.2]
 |cD m=>obtain⟨b,e,q⟩:=h;exact#[b,e,t m b q]
theorem gm.keep(k:∀a vs,H a=aa (.tup vs)->H' a=aa (.tup vs))(t:∀(m:Nat)(b:az),Θ[m]?=aa b->L'[m]?=aa b):∀{xs:List Ci}{vs:012},gm Θ H xs vs->gm L' H' xs vs
 |[],_,h=>h
 |x::xs,vs,h=>by
  obtain⟨v,r,e,q,s⟩:=h
  exact#[v,r,e,q.keep k t,s.keep k t]
theorem lR.keep(k:∀a vs,H a=aa (.tup vs)->H' a=aa (.tup vs))(t:∀(m:Nat)(b:az),Θ[m]?=aa b->L'[m]?=aa b)(e:∀o,H a=aa o->H' a=aa o)(h:lR Θ H a c):lR L' H' a c:=by
 cases c with
 |lst xs=>obtain⟨vs,h1,h2⟩:=h;exact#[vs,e _ h1,h2.keep k t]
 |b8 au=>
  obtain⟨vs,h1,h2⟩:=h
  refine#[vs,?_,h2.keep k t]
  rcases h1 with⟨ks,q,ep,h1⟩|⟨ks,q,ep,h1⟩
  .exact .inl #[ks,q,ep,e _ h1]
  .exact .inr #[ks,q,ep,e _ h1]
 |uR=>obtain⟨u,d,n⟩:=h;exact#[u,e _ d,n]
 |obj c0 ns xs=>obtain⟨dx,vs,h1,l,h2⟩:=h;exact#[dx,vs,e _ h1,l,h2.keep k t]
theorem lR.nt(h:lR Θ H a c):NT (H a):=by
 cases c with
 |lst xs=>obtain⟨vs,h1,h2⟩:=h;exact#[_,h1,λ_ z=>nomatch z]
 |b8 au=>
  obtain⟨vs,h1,h2⟩:=h
  rcases h1 with⟨ks,q,ep,h1⟩|⟨ks,q,ep,h1⟩
  .exact#[_,h1,λ_ z=>nomatch z]
  .exact#[_,h1,λ_ z=>nomatch z]
 |uR=>exact h
 |obj c0 ns xs=>obtain⟨dx,vs,h1,_⟩:=h;exact#[_,h1,λ_ z=>nomatch z]
theorem MF:∀{ns:List Int}{vs:012},gm Θ H (ns.map λn=>.dat (.int n)) vs↔vs=ns.map V.int
 |[],vs=>Iff.rfl
 |n::ns,vs=>by
  constructor
  .rintro⟨v,r,e,q,s⟩
   rw[e,MF.mp s,q.2];rfl
  .rintro rfl
   exact#[_,_,rfl,#[rfl,rfl],MF.mpr rfl]
theorem amn:lR Θ H a (inC ns)↔H a=aa (.lst (ns.map V.int)):=by
 constructor
 .rintro⟨vs,h1,h2⟩
  rw[h1,MF.mp h2]
 .exact λh=>#[_,h,MF.mpr rfl]
structure gP(Θ:List az)(C:Ce)(H:Hp):Prop where
 len:C.length=Θ.length
 at_:∀(n:Nat)(a:az)(c:Cl),Θ[n]?=aa a->C[n]?=aa c->lR Θ H a c
theorem gP.keep(c:gP Θ C H)(k:∀a vs,H a=aa (.tup vs)->H' a=aa (.tup vs))(e:∀a∈Θ,∀o,H a=aa o->H' a=aa o):gP Θ C H':=
 #[c.len,λn a x e1 e2=>(c.at_ n a x e1 e2).keep k (λ_ _ h=>h) (e a (jY e1))]
theorem gP.same(c:gP Θ C H)(s:cT H H'):gP Θ C H':=c.keep (λ_ _ h=>s _ _ h) λ_ _ _ h=>s _ _ h
structure Sm(K:aU)(Z Θ:List az)(aj:En)(C:Ce)(σ:St)(H:Hp):Prop where
 len:σ.length=aj.length
 nd:(bF Z Θ aj σ).Nodup
 dom:∀a∈Z,NT (H a)
 slot:∀(i:Nat)(x:Vl),aj[i]?=aa (aa x)->∃v,σ[i]?=aa (aa v)/\BR K (er (bF Z Θ aj σ) H) H Θ x v
 cell:gP Θ C H
theorem cT.Fx{K:aU}{a:az}(e:cT H H')(h:dH K H a xs):dH K H' a xs:=by
 rcases h with(h|⟨o,h⟩)|h
 .exact .inl (.inl (e _ _ h))
 .exact .inl (.inr #[o,e _ _ h])
 .exact .inr h
theorem gP.dom(c:gP Θ C H):∀a∈Θ,NT (H a):=λa m=>by
 obtain⟨n,b,e⟩:=KH m
 have e1:Θ[n]?=aa a:=by grind
 have h2:n<C.length:=by rwa [c.len]
 exact(c.at_ n a _ e1 (qR h2)).nt
section
variable{K:aU}{C C':Ce}{σ:St}{H H':Hp}
theorem Sm.oN(S:09):∀a∈bF Z Θ aj σ,NT (H a):=λa m=>by
 rcases dU.mp m with m|m
 .exact S.dom a m
 .rcases dU.mp m with m|m
  .exact S.cell.dom a m
  .obtain⟨i,d,e1,e2⟩:=mV.mp m
   obtain⟨v,c,b,e,r⟩:=S.slot i _ e1
   rw[e2] at c;cases c;cases e;exact r.nt
theorem Sm.Fy(S:09):∀a∈bF Z Θ aj σ,H a≠ao:=λa m=>(S.oN a m).ne
theorem Sm.qN(S:09):∀a∈Θ,a∈bF Z Θ aj σ:=λa m=>fJ _ (jG _ m)
theorem BR.same(s:cT E E')(h:∀d a,x=.ow d->v=.ref a->∀o,H a=aa o->H' a=aa o)(r:BR K E H Θ x v):BR K E' H' Θ x v:=by
 cases x with
 |im d=>exact RZ.same s r
 |ow d=>obtain⟨a,e,q⟩:=r;exact#[a,e,q.same s (h d a rfl e)]
 |ce n=>exact r
 |sc ns=>obtain⟨a,e,q⟩:=r;exact#[a,e,s.seq q]
 |ks ns=>obtain⟨a,e,q⟩:=r;exact#[a,e,s.Fx q]
 |tp=>exact r
theorem Sm.nM(S:09)(m:a∈cB aj σ):a∉Z/\a∉Θ:=by
 have h:=S.nd
 grind
theorem Sm.go(S:09)(k:bh Θ H H')(c:gP Θ C' H'):Sm K Z Θ aj C' σ H' where
 len:=S.len
 nd:=S.nd
 dom:=λa m=>by
  obtain⟨u,e,n⟩:=S.dom a m
  have h:=S.nd;rw[lX] at h
  exact#[u,k.keep _ _ e λz=>h.2.2 a m a (jG _ z) rfl,n]
 slot:=λi x e=>by
  obtain⟨v,e1,r⟩:=S.slot i x e
  refine#[v,e1,r.same (jN k S.qN λa m=>.inl m) λd a ex f o b=>k.keep _ _ b ?_]
  subst ex f
  exact(S.nM (mV.mpr #[i,d,e,e1])).2
 cell:=c
theorem Sm.fz(S:09)(f:Fz aj bw):Sm K Z Θ bw C σ H:=by
 have sub:aa8 _ (bF Z Θ _ σ):=KN (K6 _) (KN (K6 _) f.own);have sm:=jN (bh.refl [] H) (λ_ m=>nomatch m) λa m=>.inl (sub.subset m)
 refine#[by rw[f.len];exact S.len,sub.nodup S.nd,S.dom,λi x l=>?_,S.cell]
 rcases f.at l with e|⟨d,e,ex⟩
 .obtain⟨v,e1,r⟩:=S.slot i x e
  exact#[v,e1,r.same sm λ_ _ _ _ _ c=>c]
 .subst ex
  obtain⟨v,e1,a,p,r⟩:=S.slot i _ e
  subst p
  refine#[_,e1,lO.rz (λo c=>?_) (r.same sm λ_ c=>c)]
  unfold er;rw[bK]
  .trivial
  .intro m;have h:=mV.mpr #[i,d,e,e1];rcases dU.mp m with m|m
   .exact(S.nM h).1 m
   .rcases dU.mp m with m|m
    .exact(S.nM h).2 m
    .obtain⟨j,d',n,q⟩:=mV.mp m
     have k:=S.nd;rw[lX] at k;have b:=k.2.1;rw[lX] at b;rcases f.at n with g|⟨_,_,g⟩
     .have:=Iv b.2.1 e e1 g q
      grind
     lia
end
section
variable{K:aU}{Z Θ:List az}{aj bw:En}{C C':Ce}{σ:St}{H H':Hp}{a p:az}
theorem Sm.pop(S:Sm K (a::Z) Θ aj C σ H):Sm K Z Θ aj C σ H:=by
 have sm:cT (er (bF (a::Z) Θ aj σ) H) _:=jN (bh.refl [] H) (λ_ m=>nomatch m) λb m=>.inl (dI _ m)
 exact#[S.len,(mU.mp S.nd).2,λb m=>S.dom b (dI _ m),λi x e=>let ⟨v,e1,r⟩:=S.slot i x e;#[v,e1,r.same sm λ_ _ _ _ _ h=>h],S.cell]
theorem Sm.push(S:09)(a:H p=ao)(o:HO)(f:∀vs,o≠.tup vs):Sm K (p::Z) Θ aj C σ (upd H p o):=by
 have k:bh Θ H (upd H p o):=bh.upd a;have sm:=jN k S.qN λb m=>by
  rcases cC.mp m with rfl|m
  .exact .inr a
  .exact .inl m
 have c:gP Θ C (upd H p o):=S.cell.same (cT.upd a)
 refine#[S.len,mU.mpr #[λm=>S.Fy p m a,S.nd],λb m=>?_,λi x e=>?_,c]
 .rcases cC.mp m with rfl|m
  .exact#[o,fK,f]
  .obtain⟨u,e,n⟩:=S.dom b m
   exact#[u,by rwa [c7 (sI e a)],n]
 .obtain⟨v,e1,r⟩:=S.slot i x e
  refine#[v,e1,r.same sm λd b ex g o' f=>?_]
  rwa [c7 (sI f a)]
theorem Sm.Ey(S:09)(s:cT H H'):Sm K Z Θ aj C σ H':=
 S.go (bh.of s) (S.cell.same s)
def Res(K:aU)(Z Θ:015)(aj:En)(C:Ce)(σ:St)(H H':Hp):Vl->V->Prop
 |.im d,v=>Sm K Z Θ aj C σ H'/\RZ (er (bF Z Θ aj σ) H') d v
 |.ow d,v=>∃a,v=.ref a/\H a=ao/\Sm K (a::Z) Θ aj C σ H'/\lO (er (bF (a::Z) Θ aj σ) H') H' a d
 |.ce n,v=>Sm K Z Θ aj C σ H'/\∃a,v=.ref a/\Θ[n]?=aa a
 |.sc ns,v=>Sm K Z Θ aj C σ H'/\∃a,v=.ref a/\b7 K (er (bF Z Θ aj σ) H') a (ns.map V.int)
 |.ks ns,v=>Sm K Z Θ aj C σ H'/\∃a,v=.ref a/\dH K (er (bF Z Θ aj σ) H') a (ns.map toV)
 |.tp _ _ _,_=>False
def Cz(E T:Hp):aB->V->Prop
 |.list ds,v=>∃a vs,v=.ref a/\T a=aa (.lst vs)/\cF E ds vs
 |.dict au,v=>∃a vs,v=.ref a/\rT T a au vs/\iZ E au vs
 |d,v=>RZ E d v
theorem Cz.same(s:cT E E')(t:cT T T')(h:Cz E T d v):Cz E' T' d v:=by
 cases d<;>first|exact RZ.same s h|skip
 .obtain⟨a,vs,e,q,r⟩:=h
  exact#[a,vs,e,t _ _ q,r.same s]
 .obtain⟨a,vs,e,q,r⟩:=h
  exact#[a,vs,e,q.same t,r.same s]
theorem RZ.bor(t:cT E T)(h:RZ E d v):Cz E T d v:=by
 cases d<;>first|exact h|skip
 .obtain⟨a,vs,e,q,r⟩:=h
  exact#[a,vs,e,t _ _ q,r]
 .obtain⟨a,vs,e,q,r⟩:=h
  exact#[a,vs,e,q.same t,r]
abbrev gw(Z Θ:List az)(aj:En)(σ:St)(H:Hp)(d:aB)(v:V):Prop:=Cz (er (bF Z Θ aj σ) H) (er Θ H) d v
theorem uo(h:∀a,a∈Z'->a∈Z):cT (er Z H) (er Z' H):=jN (bh.refl [] H) (λ_ m=>nomatch m) λb m=>.inl (h b m)
theorem afE:cT (er (bF Z Θ aj σ) H) (er Θ H):=uo λa m=>fJ _ (jG _ m)
theorem Fz.sub(f:Fz aj bw):∀a,a∈bF Z Θ bw σ->a∈bF Z Θ aj σ:=λa m=>
 (KN (K6 _) (KN (K6 _) f.own)).subset m
theorem Ys(S:09)(k:bh Θ H H')(f:Fz aj bw):cT (er (bF Z Θ aj σ) H) (er (bF Z Θ bw σ) H'):=jN k S.qN λa m=>.inl (f.sub a m)
theorem aeF(k:bh Θ H H'):cT (er Θ H) (er Θ H'):=jN k (λ_ m=>m) λa m=>.inl m
theorem gw.go(h:gw Z Θ aj σ H d v)(S:09)(k:bh Θ H H')(f:Fz aj bw):gw Z Θ bw σ H' d v:=Cz.same (Ys S k f) (aeF k) h
noncomputable def dat:Vl->Option aB
 |.im d=>aa d
 |.ow d=>aa d
 |.ce _=>ao
 |.sc _=>ao
 |.ks _=>ao
 |.tp _ _ _=>ao
theorem Res.sm(h:Res K Z Θ aj C σ H H' r v):Sm K Z Θ aj C σ H':=by
 cases r with
 |im d=>exact h.1
 |ow d=>obtain⟨a,_,_,S,_⟩:=h;exact S.pop
 |ce n=>exact h.1
 |sc ns=>exact h.1
 |ks ns=>exact h.1
 |tp=>exact h.elim
theorem Res.bor(h:Res K Z Θ aj C σ H H' r v)(e:dat r=aa d):gw Z Θ aj σ H' d v:=by
 cases r with
 |im d'=>cases(e);exact RZ.bor afE h.2
 |ow d'=>
  cases(e)
  obtain⟨a,rfl,_,S,r⟩:=h
  have f:=λm=>(mU.mp S.nd).1 (fJ _ (jG _ m))
  have sm:cT (er (bF (a::Z) Θ aj σ) H') _:=uo λb m=>dI _ m
  have c:∀o,H' a=aa o->er Θ H' a=aa o:=λo g=>by unfold er;grind
  cases d<;>first|exact r.elim|skip
  .obtain⟨vs,e,q⟩:=r
   exact#[a,vs,rfl,c _ e,q.same sm]
  .obtain⟨vs,e,q⟩:=r
   refine#[a,vs,rfl,?_,q.same sm]
   rcases e with⟨ks,k,ep,e⟩|⟨ks,k,ep,e⟩
   .exact .inl #[ks,k,ep,c _ e]
   .exact .inr #[ks,k,ep,c _ e]
 |ce n=>cases(e)
 |sc ns=>cases(e)
 |ks ns=>cases(e)
 |tp=>cases(e)
noncomputable def still:Vl->Vl
 |.ow d=>.im d
 |r=>r
theorem Res.still(h:Res K Z Θ aj C σ H H' r v):Res K Z Θ aj C σ H H' (still r) v:=by
 cases r with
 |ow d=>
  obtain⟨a,rfl,c,S,r⟩:=h
  refine#[S.pop,lO.rz (λo e=>?_) (r.same (uo λb m=>dI _ m) λ_ h=>h)]
  unfold er
  rwa [bK (show ¬a∈bF Z Θ _ σ from(mU.mp S.nd).1)]
 |im d=>exact h
 |ce n=>exact h
 |sc ns=>exact h
 |ks ns=>exact h
 |tp=>exact h
theorem Res.from(h:Res K Z Θ aj C σ H H' r v)(k:bh Θ H0 H):Res K Z Θ aj C σ H0 H' r v:=by
 cases r with
 |ow d=>
  obtain⟨a,e,b,S,r⟩:=h
  exact#[a,e,k.none b,S,r]
 |im d=>exact h
 |ce n=>exact h
 |sc ns=>exact h
 |ks ns=>exact h
 |tp=>exact h
theorem Ji(S:09)(h:H a=aa (.tup vs)):er (bF Z Θ aj σ) H a=aa (.tup vs):=by
 unfold er;rw[bK]
 .exact h
 .intro m
  obtain⟨u,e,n⟩:=S.oN a m
  grind
def rst(r:Vl)(aj bw:En):En:=match r with
 |.im d=>if fU d then aj else bw
 |_=>bw
theorem Res.rst(S:09)(k:bh Θ H H')(h:Res K Z Θ bw C' σ H H' r v):Res K Z Θ (rst r aj bw) C' σ H H' r v:=by
 cases r with
 |im d=>
  by_cases f:L2.fU d=aq
  .have:L2.rst (.im d) _ bw=aj:=bG f;rw[this];have b:=S.go k h.1.cell
   exact#[b,h.2.fU (λa vs e=>Ji b (gW e)) f]
  .have:L2.rst (.im d) aj _=bw:=bK f
   lia
 |ow d=>exact h
 |ce n=>exact h
 |sc ns=>exact h
 |ks ns=>exact h
 |tp=>exact h
theorem Fz.rst(r:Vl)(f:Fz aj bw):Fz aj (rst r aj bw):=by
 cases r with
 |im d=>
  show Fz _ (if L2.fU d then aj else bw);split
  .exact Fz.refl _
  trivial
 |ow d=>exact f
 |ce n=>exact f
 |sc ns=>exact f
 |ks ns=>exact f
 |tp=>exact f
theorem iQ(S:09)(f:mX d=aq)(a:v=toV d):Res K Z Θ aj C σ H H (.im d) v:=#[S,by rw[a];exact aoa f]
theorem o7(S:09)(r:cF (er (bF Z Θ aj σ) H) ds vs)(a:H p=ao):Res K Z Θ aj C σ H (upd H p (.lst vs)) (.ow (.list ds)) (.ref p):=by
 refine#[p,rfl,a,S.push a _ (λ_ z=>nomatch z),vs,fK,r.same (jN (bh.upd a) S.qN λb m=>?_)]
 grind
theorem aoc(S:09)(c:∀vs,o≠.tup vs)(d:rT (upd H p o) p au vs)(r:iZ (er (bF Z Θ aj σ) H) au vs)(a:H p=ao):Res K Z Θ aj C σ H (upd H p o) (.ow (.dict au)) (.ref p):=by
 refine#[p,rfl,a,S.push a _ c,vs,d,r.same (jN (bh.upd a) S.qN λb m=>?_)]
 grind
theorem Nt(S:09)(r:cF (er (bF Z Θ aj σ) H) ds vs)(a:H p=ao):Res K Z Θ aj C σ H (upd H p (.tup vs)) (.im (.tuple ds)) (.ref p):=by
 have c:=S.Ey (cT.upd (o:=.tup vs) a)
 refine#[c,p,vs,rfl,?_,r.same (jN (bh.upd a) S.qN λb m=>.inl m)]
 unfold er;rw[bK (λm=>S.Fy p m a),fK]
end
inductive agk{α β:Type}(o:Option α)(g:α->Option β)(y:β):Prop
 |mk (x:α) (h1:o=aa x) (h2:g x=aa y):agk o g y
theorem bW(h:o.bind g=aa y):agk o g y:=by
 cases o with
 |none=>cases h
 |some x=>exact#[x,rfl,h]
def vV:Vl->Option aB
 |.im y=>aa y
 |_=>ao
theorem Od(h:vV x=aa y):x=.im y:=by
 cases x<;>cases h;rfl
def QG:aB->Option Str
 |.str z=>aa z
 |_=>ao
def intD:aB->Option Int
 |.int k=>aa k
 |_=>ao
theorem Ww(h:intD d=aa k):d=.int k:=by
 cases d<;>cases h;rfl
abbrev FE:=En->Ce->Option (Vl×En×Ce)
abbrev FB:=En->Ce->Option (aB×En×Ce)
abbrev FT:=En->Ce->Option (Bool×Ce)
abbrev CG:=En->Ce->Option (List aB×En×Ce)
abbrev FA:=En->Ce->Option (List Vl×En×Ce)
inductive tE(K:aU)(f:FE)(σ:St)(H:Hp)(Q:VK):Prop
 |mk (Z Θ:015) (aj:En) (C:Ce) (r:Vl) (bw:En) (C':Ce) (S:09) (hf:f aj C=aa (r,bw,C')) (q:∀v H',bh Θ H H'->Fz aj bw->Res K Z Θ bw C' σ H H' r v->Q v H'):tE K f σ H Q
inductive fM(K:aU)(f:FB)(σ:St)(H:Hp)(Q:VK):Prop
 |mk (Z Θ:015) (aj:En) (C:Ce) (d:aB) (bw:En) (C':Ce) (S:09) (hf:f aj C=aa (d,bw,C')) (q:∀v H',bh Θ H H'->Fz aj bw->Sm K Z Θ bw C' σ H'->gw Z Θ bw σ H' d v->Q v H'):fM K f σ H Q
inductive eY(K:aU)(f:FT)(σ:St)(H:Hp)(Q:Bool->Hp->Prop):Prop
 |mk (Z Θ:015) (aj:En) (C:Ce) (b:Bool) (C':Ce) (S:09) (hf:f aj C=aa (b,C')) (q:∀H',bh Θ H H'->Sm K Z Θ aj C' σ H'->Q b H'):eY K f σ H Q
inductive QH(E T:Hp):List aB->List V->Prop
 |nil:QH E T [] []
 |cons {d:aB} {v:V} {ds:016} {vs:012}:Cz E T d v->QH E T ds vs->QH E T (d::ds) (v::vs)
abbrev Pb(Z Θ:List az)(aj:En)(σ:St)(H:Hp)(ds:List aB)(vs:List V):Prop:=QH (er (bF Z Θ aj σ) H) (er Θ H) ds vs
inductive CJ(K:aU)(f:CG)(σ:St)(H:Hp)(Q:List V->Hp->Prop):Prop
 |mk (Z Θ:015) (aj:En) (C:Ce) (ds:016) (bw:En) (C':Ce) (S:09) (hf:f aj C=aa (ds,bw,C')) (q:∀vs H',bh Θ H H'->Fz aj bw->Sm K Z Θ bw C' σ H'->Pb Z Θ bw σ H' ds vs->Q vs H'):CJ K f σ H Q
theorem PE.weak(h:PE X e t)(w:∀σ H Q,t' σ H Q->t σ H Q):PE X e t':=λaA s σ H Q I q=>h _ s σ H Q I (w σ H Q q)
theorem PT.weak(h:PT X e t)(w:∀σ H Q,t' σ H Q->t σ H Q):PT X e t':=λaA s σ H Q I q=>h _ s σ H Q I (w σ H Q q)
theorem PA.weak(h:PA X e t)(w:∀σ H Q,t' σ H Q->t σ H Q):PA X e t':=λp aA s σ H Q I q=>h p _ s σ H Q I (w σ H Q q)
theorem PS.weak(h:PS X e t)(w:∀D σ H,t' D σ H->t D σ H):PS X e t':=λaA s σ H D I q=>h _ s σ H D I (w D σ H q)
theorem jD.weak(h:jD X e t)(w:∀D σ H,t' D σ H->t D σ H):jD X e t':=λaA s σ H D I q=>h _ s σ H D I (w D σ H q)
theorem PW.weak(h:PW X e t)(w:∀σ H Q,t' σ H Q->t σ H Q):PW X e t':=λwh aA s σ H Q I q=>h wh _ s σ H Q I (w σ H Q q)
def aN(i:Nat):FE:=λaj C=>match aj[i]? with
 |some (some (.im d))=>aa (.im d,aj,C)
 |some (some (.ow d))=>aa (.im d,aj.set i (aa (.im d)),C)
 |some (some (.ce n))=>aa (.ce n,aj,C)
 |some (some (.sc ns))=>aa (.sc ns,aj,C)
 |some (some (.ks ns))=>aa (.ks ns,aj,C)
 |_=>ao
def aZ(i:Nat):FB:=λaj C=>match aj[i]? with
 |some (some x)=>(dat x).map λd=>(d,aj,C)
 |_=>ao
noncomputable def bN (d:aB):FE:=λaj C=>aa (.im d,aj,C)
def aX(f:FE):FB:=λaj C=>match f aj C with
 |some (r,e',C')=>(dat r).map λd=>(d,e',C')
 |none=>ao
theorem aeG:∀{aj:En}{i:Nat}{d:aB},aj[i]?=aa (aa (.ow d))->Fz aj (aj.set i (aa (.im d)))
 |[],i,d,e=>by grind
 |x::r,0,d,e=>by simp at e;subst e;exact#[.inr #[d,rfl,rfl],Fz.refl r]
 |x::r,i+1,d,e=>#[.inl rfl,aeG 002]
theorem bB(h:PE X e (jx i)):PE X e (tE X.K (aN i)):=h.weak λσ H Q aV=>by
 obtain⟨Z,Θ,aj,C,r,bw,C',S,b,q⟩:=aV
 unfold aN at b;split at b;all_goals ((rename_i a;cases(b)))
 .obtain⟨v,e1,r⟩:=S.slot i _ a
  exact#[v,e1,q v H 003 010 #[S,r]]
 .have f:=aeG a
  obtain⟨v,e1,r⟩:=S.slot i _ a
  have c:=S.fz f
  refine#[v,e1,q v H 003 f #[c,?_]]
  have hi:=by
   have:=jk.mp a;exact this.1
  obtain⟨g,e2,d⟩:=c.slot i _ (by rw[aaq,bG rfl,bG hi])
  rw[e1] at e2;cases(e2);trivial
 .obtain⟨v,e1,r⟩:=S.slot i _ a
  exact#[v,e1,q v H 003 010 #[S,r]]
 .obtain⟨v,e1,r⟩:=S.slot i _ a
  exact#[v,e1,q v H 003 010 #[S,r]]
 .obtain⟨v,e1,r⟩:=S.slot i _ a
  exact#[v,e1,q v H 003 010 #[S,r]]
theorem bJ(h:PE X e (jx i)):PE X e (fM X.K (aZ i)):=h.weak λσ H Q aV=>by
 obtain⟨Z,Θ,aj,C,d,bw,C',S,c,q⟩:=aV
 unfold aZ at c;split at c
 .rename_i x f
  obtain⟨v,e1,r⟩:=S.slot i _ f
  have ex:dat x=aa d/\aj=bw/\C=C':=by
   cases hd:dat x with
   |none=>grind
   |some d'=>grind
  obtain⟨ex,rfl,rfl⟩:=ex
  refine#[v,e1,q v H 003 010 S ?_]
  cases x with
  |im d'=>cases(ex);exact RZ.bor afE r
  |ow d'=>
   cases(ex)
   obtain⟨a,rfl,r⟩:=r
   have j:=(S.nM (mV.mpr #[i,_,f,e1])).2;have b:∀o,H a=aa o->er Θ H a=aa o:=λo g=>by unfold er;grind
   cases d<;>first|exact r.elim|skip
   .obtain⟨vs,e,q⟩:=r
    exact#[a,vs,rfl,b _ e,q]
   .obtain⟨vs,e,q⟩:=r
    refine#[a,vs,rfl,?_,q]
    rcases e with⟨ks,k,ep,e⟩|⟨ks,k,ep,e⟩
    .exact .inl #[ks,k,ep,b _ e]
    .exact .inr #[ks,k,ep,b _ e]
  |ce n=>trivial
  |sc ns=>trivial
  |ks ns=>trivial
  |tp=>trivial
 lia
theorem bD(h:PE X e (tC v))(f:mX d=aq:=by rfl)(a:v=toV d:=by rfl):PE X e (tE X.K (bN d)):=h.weak λσ H Q aV=>by
 obtain⟨Z,Θ,aj,C,r,bw,C',S,b,q⟩:=aV
 cases(b);exact q v H 003 010 (iQ S f a)
theorem aY(h:PE X e (tE X.K f)):PE X e (fM X.K (aX f)):=h.weak λσ H Q aV=>by
 obtain⟨Z,Θ,aj,C,d,bw,C',S,a,q⟩:=aV
 unfold aX at a;split at a
 .rename_i r c C1 b;cases hd:dat r with
  |none=>grind
  |some d'=>
   rw[hd] at a;cases(a)
   exact#[Z,Θ,_,C,r,_,C',S,b,λv H' k f R=>q v H' k f R.sm (R.bor hd)]
 lia
noncomputable def eE:Nat:=1000000
theorem vo(h:n<=eE):n<=cz:=by rw[iw];unfold eE at h;lia
def jb(K:aU)(r:R2)(op:aB->aB->Option Vl):Prop:=
 ∀(Z Θ:015)(aj:En)(C:Ce)(σ:St)(H:Hp)(x y:V)(dx dy:aB)(res:Vl),Sm K Z Θ aj C σ H->gw Z Θ aj σ H dx x->gw Z Θ aj σ H dy y->op dx dy=aa res->
  ∀Q:VK,(∀v H',bh Θ H H'->Res K Z Θ aj C σ H H' res v->Q v H')->r x y H Q
def bA(op:aB->aB->Option Vl)(fa fb:FB):FE:=λaj C=>match fa aj C with
 |some (x,e1,C1)=>match fb e1 C1 with
  |some (y,e2,C2)=>match op x y with
   |some r=>aa (r,rst r aj e2,C2)
   |none=>ao
  |none=>ao
 |none=>ao
theorem MJ{K:aU}{r:R2}(L:jb K r op):∀σ H Q,tE K (bA op fa fb) σ H Q->J9 r (fM K fa) (fM K fb) σ H Q:=by
 rintro σ H Q ⟨Z,Θ,aj,C,res,bw,C',S,hf,q⟩;unfold bA at hf;refine hide λn l=>?_
 split at hf
 .rename_i x e1 C1 h1;split at hf
  .rename_i y e2 C2 h2;split at hf
   .rename_i i;cases(hf);refine l (#[Z,Θ,_,C,x,e1,C1,S,h1,λv H1 d e b f=>#[Z,Θ,e1,C1,y,e2,C',b,h2,λu H2 a c g h=>(L Z Θ e2 C' σ H2 v u x y _ g (f.go b a c) h i Q λz j m R=>?_)]]);have k:=(d.trans a).trans m;exact q z j k ((e.trans c).rst _) ((R.from (d.trans a)).rst S k)
   lia
  lia
 lia
theorem dD(c:dR X (rm o) r)(L:jb X.K r op)(d:PE X a (fM X.K fa))(e:PE X b (fM X.K fb)):PE X (.BinOp a o b pos) (tE X.K (bA op fa fb)):=(aqN c d e).weak (MJ L)
theorem wZ(c:dR X (gG o) r)(L:jb X.K r op)(e:PE X a (fM X.K fa))(f:PE X b (fM X.K fb))(d:Aa o b=aH):PE X (.Compare a [o] [b] pos) (tE X.K (bA op fa fb)):=(anH c e f d).weak (MJ L)
theorem oF(d:tQ X r)(L:jb X.K r op)(e:PE X a (fM X.K fa))(f:PE X b (fM X.K fb))(c:Im b):PE X (.Subscript a b pos) (tE X.K (bA op fa fb)):=(O9 d e f c).weak (MJ L)
theorem gw.int(h:gw Z Θ aj σ H (.int i) x):x=.int i:=h
theorem gw.str(h:gw Z Θ aj σ H (.str i) x):x=.str i:=h
theorem gw.tup(h:gw Z Θ aj σ H (.tuple ds) x):∃a vs,x=.ref a/\H a=aa (.tup vs)/\cF (er (bF Z Θ aj σ) H) ds vs:=by
 obtain⟨a,vs,e,q,r⟩:=h
 exact#[a,vs,e,gW q,r]
theorem gw.lst(h:gw Z Θ aj σ H (.list ds) x):∃a vs,x=.ref a/\H a=aa (.lst vs)/\cF (er (bF Z Θ aj σ) H) ds vs:=by
 obtain⟨a,vs,e,q,r⟩:=h
 exact#[a,vs,e,gW q,r]
theorem gw.dct(h:gw Z Θ aj σ H (.dict au) x):∃a vs,x=.ref a/\rT H a au vs/\iZ (er (bF Z Θ aj σ) H) au vs:=by
 obtain⟨a,vs,e,q,r⟩:=h
 exact#[a,vs,e,q.same (sZ _ _),r]
theorem gw.flat(f:mX d=aq)(h:gw Z Θ aj σ H d x):x=toV d:=by
 cases d<;>first|exact h|cases f
theorem gw.rx(n:jX d=aq)(h:gw Z Θ aj σ H d x):RX H d x:=by
 cases d<;>first|exact h|skip
 .obtain⟨a,vs,e,q,r⟩:=h
  exact#[a,vs,e,gW q,(r.same (sZ _ _)).rx n]
 .obtain⟨a,vs,e,q,r⟩:=h
  exact#[a,vs,e,gW q,(r.same (sZ _ _)).rx n]
 trivial
section
variable{X:Cx}
def dM:aB->aB->Option Vl
 |.int i,.int j=>aa (08 (i+j))
 |.str x,.str y=>if x.length+y.length<=eE then aa (.im (.str (x++y))) else ao
 |.list xs,.list ys=>if xs.length+ys.length<=eE then aa (.ow (.list (xs++ys))) else ao
 |.tuple xs,.tuple ys=>if xs.isEmpty then aa (.im (.tuple ys)) else if xs.length+ys.length<=eE then aa (.im (.tuple (xs++ys))) else ao
 |_,_=>ao
def afF(K:aU):R2:=λx y H Q=>∃a b ys,x=.ref a/\y=.ref b/\dH K H a []/\dH K H b ys/\Q (.ref b) H
theorem aod:dR X (rm .Add) (afF X.K):=by
 intro aA s σ H x y v u Q I rx A h;refine hide λD z=>?_
 obtain⟨a,b,ys,rfl,rfl,p,r,q⟩:=h
 cases rx;cases A
 obtain⟨C,w,p1,_⟩:=I.tuple p
 obtain⟨j,B,p2,_⟩:=I.tuple r
 obtain⟨⟨cls,t,data,sl⟩,g,k,n,l⟩:=id p1
 obtain⟨⟨i,m,f,o⟩,c,d,n2,e⟩:=id p2
 simp only at k l d e;subst k l d e;exact z (aa4 ⟨_,g,rfl⟩ ⟨_,c,rfl⟩ aaw aaZ Z5 Z3 (Z0 _ _)
  (tuple_addW0 a b _ _ n n2 t _ sl _ (by cases w;rfl)) ⟨g,c,⟨.ref b,H,I,rfl,q⟩⟩)
def afG(K:aU):R2:=λx y H Q=>(((rP λi j=>.int (i+j)) x y H Q\/∃i j,x=.str i/\y=.str j/\i.length+j.length<=cz/\Q (.str (i++j)) H)\/agf x y H Q)\/afF K x y H Q\/afB K x y H Q
theorem jd:dR X (rm .Add) (afG X.K):=((apt.or akc).or apG).or (aod.or anQ)
theorem je{K:aU}:jb K (afG K) dM:=by
 intro Z Θ aj C σ H x y dx u res S f g e Q q;unfold dM at e;split at e
 .cases e;cases f.int;cases g.int;exact .inl (.inl (.inl #[_,_,rfl,rfl,q _ _ 003 (iQ S rfl rfl)]))
 .split at e
  .rename_i j;cases e;cases f.str;cases g.str;exact .inl (.inl (.inr #[_,_,rfl,rfl,vo j,q _ _ 003 (iQ S rfl rfl)]))
  .cases e
 .split at e
  .rename_i j;cases e
   obtain⟨a,vs,rfl,h,c⟩:=f.lst
   obtain⟨b,ws,rfl,i,d⟩:=g.lst
   exact .inl (.inr #[a,b,vs,ws,rfl,rfl,h,i,by rw[jL c,jL d];exact vo j,λp k=>q _ _ (bh.upd k) (o7 S (yG c d) k)])
  .cases e
 .split at e
  .rename_i ys m;cases e;have:=List.isEmpty_iff.mp m;subst this;have l:=g
   obtain⟨a,vs,rfl,h,c⟩:=f.tup
   obtain⟨b,ws,rfl,i,d⟩:=g.tup
   cases(c)
   exact .inr (.inl #[a,b,ws,rfl,rfl,dH.of h,dH.of i,q _ _ 003 #[S,l]])
  split at e
  .rename_i xs ys m j;cases e;refine hide λt s=>?_
   obtain⟨a,vs,rfl,h,c⟩:=f.tup
   obtain⟨b,ws,rfl,i,d⟩:=g.tup
   have n:=jL c;have o:=jL d;have r:vs≠[]:=λz=>by
    subst z;cases xs with
    |nil=>exact m rfl
    |cons _ _=>cases n
   refine s (.inr (.inr #[a,b,vs,ws,rfl,rfl,dH.of h,dH.of i,r,by rw[n,o];exact vo j,λz=>?_,λ_ p k=>q _ _ (bh.upd k) (Nt S (yG c d) k)]));subst z;have:=ahw o.symm;subst this;rw[jt] at q;exact q _ _ 003 #[S,f]
  .cases e
 .cases e
def yW:aB->aB->Option Vl
 |.int i,.int j=>aa (08 (i-j))
 |_,_=>ao
theorem Wx{K:aU}(h:∀dx a res,op dx a=aa res->∃i j d,dx=.int i/\a=.int j/\res=.im d/\mX d=aq/\g i j=toV d):jb K (rP g) op:=by
 intro Z Θ aj C σ H x y dx a res S c k e Q q
 obtain⟨i,j,d,rfl,rfl,rfl,f,b⟩:=h _ _ _ e
 cases c.int;cases k.int
 exact#[_,_,rfl,rfl,q _ _ 003 (iQ S f b)]
theorem Oe{K:aU}(h:∀dx a res,op dx a=aa res->∃i j d,dx=.int i/\a=.int j/\res=.im d/\mX d=aq/\g i j=toV d/\Cn i j):jb K (rI Cn g) op:=by
 intro Z Θ aj C σ H x y dx a res S k l e Q q
 obtain⟨i,j,d,rfl,rfl,rfl,f,b,c⟩:=h _ _ _ e
 cases k.int;cases l.int
 exact#[_,_,rfl,rfl,c,q _ _ 003 (iQ S f b)]
theorem XM{K:aU}:jb K (rP λi j=>.int (i-j)) yW:=Wx λdx a res e=>by
 unfold yW at e;split at e<;>cases e
 exact#[_,_,_,rfl,rfl,rfl,rfl,rfl]
def tB:aB->aB->Option Vl
 |.int i,.int j=>if 0<j then aa (08 (i%j)) else ao
 |_,_=>ao
theorem Bd{K:aU}:jb K (rI (λ_ j=>0<j) λi j=>.int (i%j)) tB:=Oe λdx a res e=>by
 unfold tB at e;split at e
 .split at e
  .rename_i h;cases e;exact#[_,_,_,rfl,rfl,rfl,rfl,rfl,h]
  lia
 lia
def qw:aB->aB->Option Vl
 |.int i,.int j=>if 0<j/\j<1073741824 then aa (08 (i / j)) else ao
 |_,_=>ao
theorem Eb{K:aU}:jb K (rI af9 λi j=>.int (i / j)) qw:=Oe λdx a res e=>by
 unfold qw at e;split at e
 .split at e
  .rename_i h;cases e;exact#[_,_,_,rfl,rfl,rfl,rfl,rfl,h]
  lia
 lia
def rG:aB->aB->Option Vl
 |.int i,.int j=>if 0<=j/\j<=1000000/\i.natAbs<2^64 then aa (08 (i^j.toNat)) else ao
 |_,_=>ao
theorem Jj{K:aU}:jb K (rI aga λi j=>.int (i^j.toNat)) rG:=Oe λdx a res e=>by
 unfold rG at e;split at e
 .split at e
  .rename_i h;cases e;exact#[_,_,_,rfl,rfl,rfl,rfl,rfl,h]
  lia
 lia
def rH:aB->aB->Option Vl
 |.int i,.int j=>if(-(2^64)<i/\i<2^64)\/(-(2^64)<j/\j<2^64) then aa (08 (i*j)) else ao
 |_,_=>ao
theorem yQ{K:aU}:jb K (rI QF λi j=>.int (i*j)) rH:=Oe λdx a res e=>by
 unfold rH at e;split at e
 .split at e
  .rename_i h;cases e;exact#[_,_,_,rfl,rfl,rfl,rfl,rfl,h]
  lia
 lia
end
section
variable{X:Cx}
noncomputable def xZ:aB->aB->Option Bool
 |.int i,.int j=>aa (i==j)
 |.str x,.str y=>aa (x==y)
 |.bool a,.bool b=>aa (a==b)
 |d,e=>if jX d&&jX e&&(jZ d&&jZ e) then aa (Ds d e) else ao
def tK(d e:aB):Option Vl:=(xZ d e).map λb=>.im (.bool b)
def jy(d e:aB):Option Vl:=(xZ d e).map λb=>.im (.bool (!b))
theorem akz(a:X.A.units+64<fD):dR X (gG .Eq) (λx y H Q=>∃d e,RX H d x/\RX H e y/\jZ d=aq/\jZ e=aq/\Q (.bl (Ds d e)) H):=by
 intro aA s σ H x y v u Q I rx g h;refine hide λl f=>?_
 obtain⟨d,e,j,i,h1,h2,q⟩:=h
 obtain⟨k,b⟩:=RD.reads I (j.rd ) rx
 obtain⟨bs,c⟩:=RD.reads I (i.rd ) g
 exact f (PySem.SeqAt.compareEq_shaped b c h1 h2 a #[.bl _,H,I,rfl,q])
def agl:R2:=λx y H Q=>rEq x y H Q\/∃d e,RX H d x/\RX H e y/\jZ d=aq/\jZ e=aq/\Q (.bl (Ds d e)) H
def agm:R2:=λx y H Q=>rNe x y H Q\/∃d e,RX H d x/\RX H e y/\jZ d=aq/\jZ e=aq/\Q (.bl (!PyData.eqv d e)) H
theorem aeH(a:X.A.units+64<fD):dR X (gG .Eq) agl:=aqP.or (akz a)
theorem xg(a:X.A.units+64<fD):dR X (gG .NotEq) agm:=aqQ.or (akq a)
theorem abZ(h:xZ d e=aa b):(mX d=aq/\mX e=aq/\Y4 (toV d) (toV e)=aq/\b=decide (toV d=toV e))\/(jX d=aq/\jX e=aq/\jZ d=aq/\jZ e=aq/\b=Ds d e):=by
 unfold xZ at h;split at h
 .cases h;exact .inl #[rfl,rfl,rfl,Wl.symm]
 .cases h;exact .inl #[rfl,rfl,rfl,Wm.symm]
 .cases h;exact .inl #[rfl,rfl,rfl,Xz.symm]
 grind
theorem afH{K:aU}:jb K agl tK:=by
 intro Z Θ aj C σ H x y dx c res S f d e Q q;unfold tK at e;cases h:xZ dx c with
 |none=>grind
 |some b=>
  rw[h] at e;cases e;have a:=q (.bl b) H 003 (iQ S rfl rfl);rcases abZ h with⟨f1,f2,sc,eb⟩|⟨n1,n2,s1,s2,eb⟩
  .rw[f.flat f1,d.flat f2];rw[eb] at a;exact .inl #[sc,a]
  .rw[eb] at a;exact .inr #[dx,c,f.rx n1,d.rx n2,s1,s2,a]
theorem xu{K:aU}:jb K agm jy:=by
 intro Z Θ aj C σ H x y dx c res S f d e Q q;unfold jy at e;cases h:xZ dx c with
 |none=>grind
 |some b=>
  rw[h] at e;cases e;have a:=q _ H 003 (iQ S rfl rfl);rcases abZ h with⟨f1,f2,sc,eb⟩|⟨n1,n2,s1,s2,eb⟩
  .rw[f.flat f1,d.flat f2];rw[eb] at a;exact .inl #[sc,a]
  .rw[eb] at a;exact .inr #[dx,c,f.rx n1,d.rx n2,s1,s2,a]
def strLt(x y:Str):Bool:=decide (x.cps.toList<y.cps.toList)
def afI(xs ys:016):Option Bool:=match keysOf xs,keysOf ys with
 |some ks,some js=>if ks.map dz=js.map dz then aa (nW ks js) else ao
 |_,_=>ao
def tL:aB->aB->Option Vl
 |.int i,.int j=>aa (.im (.bool (decide (i<j))))
 |.str x,.str y=>aa (.im (.bool (strLt x y)))
 |.tuple xs,.tuple ys=>(afI xs ys).map λb=>.im (.bool b)
 |_,_=>ao
theorem Dw:∀{ds:016}{ks:List Key}{vs:012},keysOf ds=aa ks->cF E ds vs->vs=ks.map kV
 |[],ks,vs,h,r=>by cases h;exact r
 |d::ds,ks,vs,h,r=>by
  unfold keysOf at h;split at h
  .rename_i k t h1 h2
   obtain⟨u,w,e1,q,s⟩:=r
   rw[e1,Dw h2 s];have:u=kV k:=by
    cases d<;>first|(cases h1;exact q)|trivial
   grind
  lia
theorem aoe(h:iJ d=aa k)(r:RZ (er Z H) d v):∃b,v=.ref b/\jO H b k:=by
 have up:∀{c:az}{xs:012},er Z H c=aa (.tup xs)->H c=aa _:=λq=>by
  unfold er at q;split at q
  .cases q
  trivial
 unfold iJ at h;refine hide λl i=>?_
 split at h
 .obtain⟨ks,h1,rfl⟩:=lW.mp h
  obtain⟨a,vs,rfl,e,w,t,rfl,⟨c,us,rfl,g,f⟩,x,y,rfl,rx,j⟩:=r
  cases(rx);cases(j)
  rw[Dw h1 f] at g;exact i (#[a,rfl,c,up e,up g])
 .obtain⟨ks,h1,rfl⟩:=lW.mp h
  obtain⟨a,vs,rfl,e,f⟩:=r
  rw[Dw h1 f] at e;exact i (#[a,rfl,up e])
 trivial
theorem VJ(h:iJ d=aa k)(r:gw Z Θ aj σ H d v):∃b,jO H b k/\v=.ref b:=by
 have a:RZ (er (bF Z Θ aj σ) H) d v:=by
  cases d<;>first|exact r|cases h
 obtain⟨b,e,c⟩:=aoe h a
 grind
def arA:R2:=λx y H Q=>(∃a b,x=kV a/\y=kV b/\dz a=dz b/\Q (.bl (kLt a b)) H)\/∃a b ks js,x=.ref a/\y=.ref b/\H a=aa (.tup (ks.map kV))/\H b=aa (.tup (js.map kV))/\ks.map dz=js.map dz/\Q (.bl (nW ks js)) H
theorem Bq{K:aU}:jb K arA tL:=by
 intro Z Θ aj C σ H x y dx k res S c d e Q q;unfold tL at e;split at e
 .cases e;cases c.int;cases d.int;exact .inl #[.inl _,.inl _,rfl,rfl,rfl,q _ _ 003 (iQ S rfl rfl)]
 .cases e;cases c.str;cases d.str;exact .inl #[.inr _,.inr _,rfl,rfl,rfl,q _ _ 003 (iQ S rfl rfl)]
 .unfold afI at e;split at e
  .rename_i ks js h1 h2;split at e
   .rename_i i;cases e
    obtain⟨a,vs,rfl,f,j⟩:=c.tup
    obtain⟨b,ws,rfl,g,h⟩:=d.tup
    rw[Dw h1 j] at f;rw[Dw h2 h] at g;exact .inr #[a,b,ks,js,rfl,rfl,f,g,i,q _ _ 003 (iQ S rfl rfl)]
   trivial
  trivial
 trivial
def FJ:aB->aB->Option Vl
 |.int i,.int j=>aa (.im (.bool (decide (i<=j))))
 |.str x,.str y=>aa (.im (.bool (!strLt y x)))
 |_,_=>ao
def agn:R2:=λx y H Q=>(rP λi j=>.bl (decide (i<=j))) x y H Q\/∃i j,x=.str i/\y=.str j/\Q (.bl (!(decide (j.cps.toList<i.cps.toList)))) H
theorem XN:dR X (gG .LtE) agn:=aqR.or ak1
theorem Yt{K:aU}:jb K agn FJ:=by
 intro Z Θ aj C σ H x y dx c res S b a e Q q;unfold FJ at e;split at e
 .cases e;cases b.int;cases a.int;exact .inl #[_,_,rfl,rfl,q _ _ 003 (iQ S rfl rfl)]
 .cases e;cases b.str;cases a.str;exact .inr #[_,_,rfl,rfl,q _ _ 003 (iQ S rfl rfl)]
 lia
def FP:aB->aB->Option Vl
 |.int i,.int j=>aa (.im (.bool (decide (j<i))))
 |_,_=>ao
def FQ:aB->aB->Option Vl
 |.int i,.int j=>aa (.im (.bool (decide (j<=i))))
 |_,_=>ao
theorem afJ{K:aU}:jb K (rP λi j=>.bl (decide (j<i))) FP:=Wx λdx a res e=>by
 unfold FP at e;split at e<;>cases e
 exact#[_,_,_,rfl,rfl,rfl,rfl,rfl]
theorem afK{K:aU}:jb K (rP λi j=>.bl (decide (j<=i))) FQ:=Wx λdx a res e=>by
 unfold FQ at e;split at e<;>cases e
 exact#[_,_,_,rfl,rfl,rfl,rfl,rfl]
end
def uT(H:Hp)(a:az)(y:V)(r:Option V):Prop:=m8 H a y r\/((∃ep,H a=aa (.dK [] ep))/\(∃(b:az)(ks:TK),y=.ref b/\jO H b ks)/\r=ao)
section
variable{X:Cx}{σ:St}{H:Hp}{s:aR}{a:az}{y v:V}{u r:aG}{A:dN}
theorem uT.re(d:H a=aa (.dK [] Cy))(f:jO H b ks):m8 (upd H a (.dT [] Cy)) a (.ref b) ao:=by
 have:jO (upd H a (.dT [] Cy)) b ks:=f.mono λc xs e=>by rwa [c7 (Jw e d (λz=>nomatch z))]
 exact m8.t fK this
theorem aqZ(f:A.units+2<fD)(I:06)(g:uT H a y o)(d:RelV y u)(h:∀s',Inv X aA σ H s'->Q (.bool o.isSome) s'):bf 05 A (gG .In u (.ref a)) Q E s:=by
 refine hide λk e=>?_
 rcases g with g|⟨⟨ep,c⟩,⟨b,ks,rfl,j⟩,rfl⟩
 .exact e (agg f I g d h)
 .exact e (agg f (I.Kf c) (uT.re c j) d λs' i=>h s' (i.Zv c))
theorem amo(f:A.units+2<fD)(I:06)(g:uT H a y o)(d:RelV y u)(h:∀s',Inv X aA σ H s'->Q (.bool (!o.isSome)) s'):bf 05 A (gG .NotIn u (.ref a)) Q E s:=by
 refine hide λk e=>?_
 rcases g with g|⟨⟨ep,c⟩,⟨b,ks,rfl,j⟩,rfl⟩
 .exact e (ady f I g d h)
 .exact e (ady f (I.Kf c) (uT.re c j) d λs' i=>h s' (i.Zv c))
theorem apR(b:X.A.units+2<fD):dR X (gG .In) (λy x H Q=>∃a o,x=.ref a/\uT H a y o/\Q (.bl o.isSome) H):=by
 intro aA s σ H x y v u Q I rx c h
 obtain⟨a,o,rfl,g,q⟩:=h
 cases c;exact aqZ b I g rx λs' d=>#[.bl _,H,d,rfl,q]
theorem alb(b:X.A.units+2<fD):dR X (gG .NotIn) (λy x H Q=>∃a o,x=.ref a/\uT H a y o/\Q (.bl (!o.isSome)) H):=by
 intro aA s σ H x y v u Q I rx c h
 obtain⟨a,o,rfl,g,q⟩:=h
 cases c;exact amo b I g rx λs' d=>#[.bl _,H,d,rfl,q]
theorem aof(c:X.A.units+2<fD):tQ X (λx y H Q=>∃a v,x=.ref a/\m8 H a y (aa v)/\Q v H):=by
 intro value slice aA s σ H x y v u Q I rx i h d
 obtain⟨a,z,rfl,g,q⟩:=h
 cases rx;have e:=ajX I g;have h2:bf _ _ _ (EP X _ σ Q) X.xe s:=akW c I g i λk s' j f=>#[z,H,j,f,q]
 refine aJ (aJ (zX e PySem.F.slot_dict_getitem.lookup ?_));have b:bf (model X.prog X.w) X.A (abj slice aH (.ref a) u) (λr s₃=>bf 05 X.A (letTemporaryGo value (.ref a) r >>= λ_=>pure r) (EP X aA σ Q) X.xe s₃) X.xe s:=by
  rw[d];exact wpAny_operating (qY h2 (λr s₃ h₃=>aJ (wpAny_letTemporaryGo (bu h₃))) λ_ _ x=>x)
 (exact bu (aJ b))
end
def xx{κ:Type}[DecidableEq κ](f:aB->Option κ)(k:κ):List (aB×aB)->Option aB
 |[]=>ao
 |p::r=>if f p.1=aa k then aa p.2 else xx f k r
def Jz(au:List (aB×aB))(d:aB):Option (Option aB):=match fL d with
 |some k=>if(cj fL au).isSome then aa (xx fL k au) else ao
 |none=>match iJ d with
  |some ks=>if(cj iJ au).isSome then aa (xx iJ ks au) else ao
  |none=>ao
theorem VL[DecidableEq κ]:∀{au:List (aB×aB)}{ks:List κ}{vs:012},cj f au=aa ks->iZ E au vs->
  (∃d v,xx f k au=aa d/\iC (ks.zip vs) k=aa v/\RZ E d v)\/(xx f k au=ao/\iC (ks.zip vs) k=ao)
 |[],ks,vs,h,r=>by
  cases h;exact .inr #[rfl,rfl]
 |(p,d)::au,ks,vs,h,r=>by
  unfold cj at h;split at h
  .rename_i a t h1 h2;cases h
   obtain⟨v,w,rfl,q,s⟩:=r
   by_cases e:a=k
   .subst e;refine .inl #[d,v,?_,?_,q]
    .unfold xx;lia
    .exact HY rfl
   .have e1:xx f k ((p,d)::au)=xx f k au:=by
     show(if f p=aa k then aa d else xx f k _)=_
     grind
    have e2:iC ((a::t).zip (v::w)) k=iC _ k:=H9 e;rw[e1,e2];exact VL h2 s
  lia
theorem sS:∀{au:List (aB×aB)}{ks:List κ},cj f au=aa ks->ks.length=au.length
 |[],ks,h=>by cases h;rfl
 |p::au,ks,h=>by
  unfold cj at h;split at h
  .rename_i t h1 h2;cases h;rw[iM,iM,sS h2]
  trivial
theorem apS(h:fL d=aa k)(g:iJ d=aa ks):False:=by
 cases d<;>first|grind|trivial
theorem vp(h:cj fL au=aa ks)(g:cj iJ au=aa js):au=[]:=by
 cases au with
 |nil=>rfl
 |cons p r=>
  unfold cj at h g;split at h
  .rename_i h1 h2;split at g
   .rename_i a b
    exact(apS h1 a).elim
   lia
  trivial
theorem gw.get(h:gw Z Θ aj σ H (.dict au) x)(p:gw Z Θ aj σ H d y)(e:Jz au d=aa o):
  ∃a r,x=.ref a/\uT H a y r/\((∃v,r=aa v/\∃d',o=aa d'/\RZ (er (bF Z Θ aj σ) H) d' v/\m8 H a y (aa v))\/(r=ao/\o=ao)):=by
 refine hide λu f=>?_
 obtain⟨a,vs,rfl,n,rd⟩:=h.dct
 unfold Jz at e;split at e
 .rename_i k l;split at e
  .rename_i i;cases e;have q:y=kV k:=by
    cases d<;>first|(cases l;exact p)|cases l
   have dk:∃ks,cj fL au=aa ks/\∃ep,H a=aa (.dK (ks.zip vs) ep):=by
    rcases n with h|⟨ks,⟨ne,h2⟩,_⟩
    .exact h
    .obtain⟨s,h1⟩:=uY.mp i
     exact absurd (vp h1 h2) ne
   obtain⟨ks,h1,ep,c⟩:=dk
   have g:=m8.k (k:=k) c;rw[<-q] at g;rcases VL h1 rd with⟨d',v,e1,e2,r⟩|⟨e1,e2⟩
   .rw[e2] at g;exact f (#[a,_,rfl,.inl g,.inl #[v,rfl,d',e1,r,g]])
   .rw[e2] at g;exact f (#[a,_,rfl,.inl g,.inr #[rfl,e1]])
  .cases e
 .split at e
  .rename_i ks j;split at e
   .rename_i i;cases e
    obtain⟨b,m,rfl⟩:=VJ j p
    rcases n with⟨js,h1,c⟩|⟨js,⟨ne,h1⟩,ep,c⟩
    .obtain⟨t,h2⟩:=uY.mp i
     have:=vp h1 h2;subst this;cases h1;exact f (#[a,_,rfl,.inr #[c,#[b,ks,rfl,m],rfl],.inr #[rfl,rfl]])
    .have g:=m8.t c m;rcases VL h1 rd with⟨d',v,e1,e2,r⟩|⟨e1,e2⟩
     .rw[e2] at g;exact f (#[a,_,rfl,.inl g,.inl #[v,rfl,d',e1,r,g]])
     .rw[e2] at g;exact f (#[a,_,rfl,.inl g,.inr #[rfl,e1]])
   .cases e
  .cases e
noncomputable def inD (d:aB) (ds:016):Bool:=ds.any λe=>uN (toV e) (toV d)
def inB(d:aB):aB->Option Bool
 |.list ds=>if mX d&&ds.all mX then aa (inD d ds) else ao
 |.tuple ds=>if mX d&&ds.all mX then aa (inD d ds) else ao
 |.dict au=>(Jz au d).map (·.isSome)
 |_=>ao
def zu(d e:aB):Option Vl:=(inB d e).map λb=>.im (.bool b)
def Iw(d e:aB):Option Vl:=(inB d e).map λb=>.im (.bool (!b))
def ago(K:aU):R2:=λx y H Q=>Ro K aH x y H Q\/∃a o,y=.ref a/\uT H a x o/\Q (.bl o.isSome) H
def adK(K:aU):R2:=λx y H Q=>Ro K aq x y H Q\/∃a o,y=.ref a/\uT H a x o/\Q (.bl (!o.isSome)) H
theorem Og(a:X.A.units+2<fD):dR X (gG .In) (ago X.K):=akU.or (apR a)
theorem ab0(a:X.A.units+2<fD):dR X (gG .NotIn) (adK X.K):=ajH.or (alb a)
theorem U8(f:mX d=aq):rF (toV d)=aq:=by
 cases d<;>(rfl)
theorem afL:inV (toV d) (ds.map toV)=inD d ds:=by
 unfold inV inD
 grind
theorem adL{ds:016}(f:ds.all mX=aq):(ds.map toV).all rF=aq:=by
 rw[aa9,jT];intro d a;exact U8 (jT.mp f d a)
theorem acK{K:aU}{aj:En}{σ:St}{H:Hp}{x y:V}{b:Bool}(f:gw Z Θ aj σ H dx x)(h:gw Z Θ aj σ H dy y)(e:inB dx dy=aa b):
  (∃p xs,y=.ref p/\(b7 K H p xs\/dH K H p xs)/\rF x=aq/\xs.all rF=aq/\inV x xs=b)\/∃a o,y=.ref a/\uT H a x o/\o.isSome=b:=by
 unfold inB at e;split at e
 .split at e
  .rename_i c;rw[jc] at c;cases e
   obtain⟨a,vs,rfl,d,r⟩:=h.lst
   rw[VH c.2 r] at d;rw[f.flat c.1];exact .inl #[a,_,rfl,.inl (b7.of d),U8 c.1,adL c.2,afL]
  lia
 .split at e
  .rename_i c;rw[jc] at c;cases e
   obtain⟨a,vs,rfl,d,r⟩:=h.tup
   rw[VH c.2 r] at d;rw[f.flat c.1];exact .inl #[a,_,rfl,.inr (dH.of d),U8 c.1,adL c.2,afL]
  lia
 .cases hl:Jz _ dx with
  |none=>rw[hl] at e;cases e
  |some o=>
   rw[hl] at e;cases e
   obtain⟨a,r,rfl,g,q⟩:=h.get f hl
   grind
 trivial
theorem Yu{K:aU}:jb K (ago K) zu:=by
 intro Z Θ aj C σ H x y dx i res S f g e Q q;unfold zu at e;refine hide λj d=>?_
 cases h:inB dx i with
 |none=>grind
 |some b=>
  rw[h] at e;cases e;have c:=q _ H 003 (iQ S rfl rfl);rcases acK f g h with⟨p,xs,e1,e2,e3,e4,e5⟩|⟨a,o,e1,e2,e3⟩
  .rw[<-e5] at c;exact d (.inl #[p,xs,e1,e2,e3,e4,c])
  .rw[<-e3] at c;exact d (.inr #[a,o,e1,e2,c])
theorem amq{K:aU}:jb K (adK K) Iw:=by
 intro Z Θ aj C σ H x y dx i res S f g e Q q;unfold Iw at e;refine hide λj d=>?_
 cases h:inB dx i with
 |none=>grind
 |some b=>
  rw[h] at e;cases e;have c:=q _ H 003 (iQ S rfl rfl);rcases acK f g h with⟨p,xs,e1,e2,e3,e4,e5⟩|⟨a,o,e1,e2,e3⟩
  .rw[<-e5] at c;exact d (.inl #[p,xs,e1,e2,e3,e4,c])
  .rw[<-e3] at c;exact d (.inr #[a,o,e1,e2,c])
def CK:aB->aB->Option aB
 |.list ds,.int i=>fG ds i
 |.tuple ds,.int i=>fG ds i
 |.str z,.int i=>if z.length<=eE then(fG z.cps.toList i).map λc=>.str #[#v[c]] else ao
 |.dict au,d=>match Jz au d with
  |some (some e)=>aa e
  |_=>ao
 |_,_=>ao
def fY(d e:aB):Option Vl:=(CK d e).map .im
def agp(K:aU):R2:=λx y H Q=>rIx K x y H Q\/∃a v,x=.ref a/\m8 H a y (aa v)/\Q v H
theorem nO(a:X.A.units+2<fD):tQ X (agp X.K):=apD.or (aof a)
theorem adM(r:cF E ds vs)(e:fG ds i=aa d):∃v,fG vs i=aa v/\RZ E d v:=by
 unfold fG at e⊢;rw[jL r];cases h:nu _ i with
 |none=>grind
 |some j=>
  rw[h] at e;exact Ep r e
theorem oG{K:aU}:jb K (agp K) fY:=by
 intro Z Θ aj C σ H x y dx p res S f j e Q q;unfold fY at e;refine hide λs k=>?_
 cases h:CK dx p with
 |none=>simp_all
 |some d=>
  rw[h] at e;cases e;unfold CK at h;split at h
  .obtain⟨a,vs,rfl,l,r⟩:=f.lst
   cases j.int
   obtain⟨v,e1,b⟩:=adM r h
   exact k (.inl (.inl #[a,vs,_,v,rfl,rfl,b7.of l,e1,q _ _ 003 #[S,b]]))
  .obtain⟨a,vs,rfl,l,r⟩:=f.tup
   cases j.int
   obtain⟨v,e1,b⟩:=adM r h
   exact k (.inl (.inr (.inl #[a,vs,_,v,rfl,rfl,dH.of l,e1,q _ _ 003 #[S,b]])))
  .split at h
   .rename_i z i m;cases f.str;cases j.int;cases hc:fG _ i with
    |none=>rw[hc] at h;cases h
    |some c=>
     rw[hc] at h;cases h;exact k (.inl (.inr (.inr #[z,i,c,rfl,rfl,vo m,hc,q _ _ 003 (iQ S rfl rfl)])))
   lia
  .split at h
   .rename_i n;cases h
    obtain⟨a,r,rfl,g,o⟩:=f.get j n
    rcases o with⟨v,rfl,d',e1,b,g1⟩|⟨_,e1⟩
    .cases e1;exact k (.inr #[a,v,rfl,g1,q _ _ 003 #[S,b]])
    lia
   trivial
  trivial
def zx:aB->Option Bool
 |.none=>aa aH
 |.bool b=>aa b
 |.int i=>aa (i != 0)
 |.str x=>if x.length<=eE then aa ((x.length:Int) != 0) else ao
 |.list ds=>aa (!ds.isEmpty)
 |.tuple ds=>aa (!ds.isEmpty)
 |.dict au=>if(cj fL au).isSome then aa (!au.isEmpty) else ao
def jo(f:FB):FT:=λaj C=>match f aj C with
 |some (d,_,C')=>match zx d with
  |some b=>aa (b,C')
  |none=>ao
 |none=>ao
def eU(f:FE):FT:=λaj C=>match f aj C with
 |some (.im (.bool b),_,C')=>aa (b,C')
 |_=>ao
def jW(f:FT):FT:=λaj C=>match f aj C with
 |some (b,C')=>aa (!b,C')
 |none=>ao
def qC(f g:FT):FT:=λaj C=>match f aj C with
 |some (true,C')=>g aj C'
 |some (false,C')=>aa (aH,C')
 |none=>ao
def pC(f g:FT):FT:=λaj C=>match f aj C with
 |some (true,C')=>aa (aq,C')
 |some (false,C')=>g aj C'
 |none=>ao
theorem apT{K:aU}{aj:En}{σ:St}{H:Hp}{x:V}{b:Bool}(h:gw Z Θ aj σ H d x)(e:zx d=aa b):Y5 K x H b:=by
 cases d with
 |none=>cases e;cases(h);rfl
 |bool c=>cases e;cases(h);rfl
 |int i=>cases e;cases(h);rfl
 |str z=>
  simp only[zx] at e;split at e
  .rename_i g;cases e;cases(h);exact#[vo g,rfl]
  lia
 |list ds=>
  cases e
  obtain⟨a,vs,rfl,f,r⟩:=h.lst
  refine .inl #[vs,b7.of f,?_];have:=jL r
  grind
 |tuple ds=>
  cases e
  obtain⟨a,vs,rfl,f,r⟩:=h.tup
  refine .inr (.inl #[vs,dH.of f,?_]);have:=jL r
  grind
 |dict au=>
  simp only[zx] at e;split at e
  .rename_i k;cases e
   obtain⟨a,vs,rfl,j,r⟩:=h.dct
   rcases j with⟨ks,h1,ep,f⟩|⟨ks,⟨ne,h2⟩,f⟩
   .refine .inr (.inr #[_,ep,f,?_]);have m:=sS h1;have n:=Iu r;cases au<;>cases ks<;>cases vs<;>first|rfl|trivial|rfl
   .obtain⟨l,h1⟩:=uY.mp k
    exact absurd (vp h1 h2) ne
  lia
section
variable{a b:Expr}
theorem uq(h:PE X a (fM X.K f))(m:∀c,isTrue a X.env c=(do let v <-c;nJ a.pos;mW [v] (truthy v)):=by intro _;rfl):PT X a (eY X.K (jo f)):=
 (alX h m).weak λσ H Q aV=>by
  refine hide λn l=>?_
  obtain⟨Z,Θ,aj,C,b,C',S,e,q⟩:=aV
  unfold jo at e;split at e
  .rename_i d e1 C1 h1;split at e
   .rename_i g;cases(e);exact l (#[Z,Θ,_,C,d,e1,C',S,h1,λv H' k f j i=>#[b,apT i g,q H' k (S.go k j.cell)]])
   trivial
  lia
theorem acL{K:aU}(w:∀σ H Q,tE K f σ H Q->t σ H Q):∀σ H Q,eY K (eU f) σ H Q->Yn t σ H Q:=by
 rintro σ H Q ⟨Z,Θ,aj,C,b,C',S,hf,q⟩;unfold eU at hf;split at hf
 .rename_i e1 C1 h1;cases(hf);refine w _ _ _ #[Z,Θ,_,C,_,e1,C',S,h1,λv H' k f R=>?_]
  obtain⟨a,r⟩:=R
  exact#[b,r,q H' k (S.go k a.cell)]
 trivial
theorem kI(c:dR X (gG o) r)(L:jb X.K r op)(e:PE X a (fM X.K fa))(f:PE X b (fM X.K fb))(d:Aa o b=aH):
  PT X (.Compare a [o] [b] pos) (eY X.K (eU (bA op fa fb))):=(Wn c e f d).weak (acL (MJ L))
theorem yR(h:PT X a (eY X.K f)):PT X (.UnaryOp .Not a pos) (eY X.K (jW f)):=(apo h).weak λσ H Q aV=>by
 refine hide λg d=>?_
 obtain⟨Z,Θ,aj,C,b,C',S,c,q⟩:=aV
 unfold jW at c;split at c
 .rename_i e C1 h1;cases(c);exact d (#[Z,Θ,_,C,e,C',S,h1,q])
 trivial
theorem amr{K:aU}:∀σ H Q,eY K (qC f g) σ H Q->af4 (eY K f) (eY K g) σ H Q:=by
 rintro σ H Q ⟨Z,Θ,aj,C,b,C',S,hf,q⟩;unfold qC at hf;split at hf
 .rename_i C1 h1
  exact#[Z,Θ,_,C,_,C1,S,h1,λH1 a c=>zq #[Z,Θ,_,C1,b,C',c,hf,λH2 d e=>q H2 (a.trans d) e]]
 .rename_i h1;cases(hf)
  exact#[Z,Θ,_,C,_,C',S,h1,λH1 a c=>zp (q H1 a c)]
 lia
theorem aog{K:aU}:∀σ H Q,eY K (pC f g) σ H Q->tOr (eY K f) (eY K g) σ H Q:=by
 rintro σ H Q ⟨Z,Θ,aj,C,b,C',S,hf,q⟩;unfold pC at hf;split at hf
 .rename_i h1;cases(hf)
  exact#[Z,Θ,_,C,_,C',S,h1,λH1 a c=>zq (q H1 a c)]
 .rename_i C1 h1
  exact#[Z,Θ,_,C,_,C1,S,h1,λH1 a c=>zp #[Z,Θ,_,C1,b,C',c,hf,λH2 d e=>q H2 (a.trans d) e]]
 trivial
variable{rest:List Expr}
theorem Iz(h:PT X a (eY X.K f)):PW X (.BoolOp .And [a] pos) (eY X.K f):=pw_and1 h
theorem Oh(h:PT X a (eY X.K f)):PW X (.BoolOp .Or [a] pos) (eY X.K f):=pw_or1 h
theorem Be(h:PT X a (eY X.K f))(c:PW X (.BoolOp .And (b::rest) pos) (eY X.K g)):PW X (.BoolOp .And (a::b::rest) pos) (eY X.K (qC f g)):=(pw_and h c).weak amr
theorem Ez(h:PT X a (eY X.K f))(c:PW X (.BoolOp .Or (b::rest) pos) (eY X.K g)):PW X (.BoolOp .Or (a::b::rest) pos) (eY X.K (pC f g)):=(pw_or h c).weak aog
end
def xT(op op':aB->aB->Option Vl)(fa fb fc:FB):FE:=λaj C=>match fa aj C with
 |some (x,e1,C1)=>match fb e1 C1 with
  |some (y,e2,C2)=>match op x y with
   |some (.im (.bool true))=>match fc e2 C2 with
    |some (z,e3,C3)=>match op' y z with
     |some (.im (.bool b))=>aa (.im (.bool b),aj,C3)
     |_=>ao
    |none=>ao
   |some (.im (.bool false))=>aa (.im (.bool aH),aj,C2)
   |_=>ao
  |none=>ao
 |none=>ao
theorem ams{K:aU}{r r':R2}(L:jb K r op)(G:jb K r' op'):∀σ H Q,tE K (xT op op' fa fb fc) σ H Q->aev r r' (fM K fa) (fM K fb) (fM K fc) σ H Q:=by
 rintro σ H Q ⟨Z,Θ,aj,C,res,bw,C',S,hf,q⟩;unfold xT at hf;refine hide λD b=>?_
 split at hf
 .rename_i x e1 C1 h1;split at hf
  .rename_i y e2 C2 h2;refine b (#[Z,Θ,_,C,x,e1,C1,S,h1,λv H1 j N e h=>#[Z,Θ,e1,C1,y,e2,C2,e,h2,λu H2 a i d f=>(hide λD b=>?_)]]);split at hf
   .rename_i g;split at hf
    .rename_i z l C3 B;split at hf
     .rename_i F;cases(hf);refine b (L Z Θ e2 C2 σ H2 v u x y _ d (h.go e a i) f g _ λw n c R=>#[_,R.2,zq #[Z,Θ,e2,C2,z,l,C',R.1,B,λI E m J t M=>(G Z Θ l C' σ E u I y z _ t ((f.go d c 010).go R.1 m J) M F Q λs p A o=>?_)]]);have k:=(((j.trans a).trans c).trans m).trans A;exact q s p k 010 #[S.go k o.1.cell,o.2]
     lia
    lia
   .rename_i g;cases(hf);refine b (L Z Θ e2 C' σ H2 v u x y _ d (h.go e a i) f g _ λw n c R=>#[_,R.2,zp ?_]);have k:=(j.trans a).trans c;exact q _ n k 010 #[S.go k R.1.cell,rfl]
   trivial
  trivial
 lia
theorem aeI(f:dR X (gG o) r)(L:jb X.K r op)(d:dR X (gG o') r')(e:jb X.K r' op')(h:PE X a (fM X.K fa))(i:PE X b (fM X.K fb))(j:PE X c (fM X.K fc))
  (g:lastMarks [o,o'] [b,c]=aH:=by with_unfolding_all rfl):PT X (.Compare a [o,o'] [b,c] pos) (eY X.K (eU (xT op op' fa fb fc))):=(alW f d h i j g).weak (acL (ams L e))
def Pg(f g:FE):FE:=λaj C=>match f aj C with
 |some (.im (.bool true),_,C')=>g aj C'
 |some (.im (.bool false),_,C')=>aa (.im (.bool aH),aj,C')
 |_=>ao
def zy(c:FT)(f g:FE):FE:=λaj C=>match c aj C with
 |some (true,C')=>f aj C'
 |some (false,C')=>g aj C'
 |none=>ao
def pF(f:FB):FE:=λaj C=>match f aj C with
 |some (.int i,_,C')=>aa (.im (.int (-i)),aj,C')
 |_=>ao
section
variable{X:Cx}{rest:List Expr}
theorem apU{o}(h:PE X a (tE X.K f)):PE X (.BoolOp o [a] pos) (tE X.K f):=apq h
theorem apV(j:PE X a (tE X.K f))(k:PE X (.BoolOp .And (b::rest) pos) (tE X.K g)):PE X (.BoolOp .And (a::b::rest) pos) (tE X.K (Pg f g)):=(apr j k).weak λσ H Q aV=>by
 refine hide λn h=>?_
 obtain⟨Z,Θ,aj,C,r,bw,C',S,e,q⟩:=aV
 unfold Pg at e;split at e
 .rename_i e1 C1 h1;refine h (#[Z,Θ,_,C,_,e1,C1,S,h1,λv H1 c i d=>#[_,d.2,zq #[Z,Θ,_,C1,r,_,C',S.go c d.1.cell,e,λw H2 m l R2=>q w H2 (c.trans m) l (R2.from c)]]])
 .rename_i e1 C1 h1;cases(e);exact h (#[Z,Θ,_,C,_,e1,C',S,h1,λv H1 c i d=>#[_,d.2,zp (q _ H1 c 010 #[S.go c d.1.cell,rfl])]])
 lia
theorem afM(m:PT X c (eY X.K t))(k:PE X a (tE X.K f))(l:PE X b (tE X.K g)):PE X (.IfExp c a b pos) (tE X.K (zy t f g)):=(alS m k l).weak λσ H Q aV=>by
 obtain⟨Z,Θ,aj,C,r,bw,C',S,e,q⟩:=aV
 unfold zy at e;split at e
 .rename_i C1 h1
  exact#[Z,Θ,_,C,_,C1,S,h1,λH1 d h=>zq #[Z,Θ,_,C1,r,_,C',h,e,λw H2 j i R2=>q w H2 (d.trans j) i (R2.from d)]]
 .rename_i C1 h1
  exact#[Z,Θ,_,C,_,C1,S,h1,λH1 d h=>zp #[Z,Θ,_,C1,r,_,C',h,e,λw H2 j i R2=>q w H2 (d.trans j) i (R2.from d)]]
 lia
theorem Oi(g:PE X a (fM X.K f)):PE X (.UnaryOp .USub a pos) (tE X.K (pF f)):=(aqO apu g).weak λσ H Q aV=>by
 refine hide λk h=>?_
 obtain⟨Z,Θ,aj,C,r,bw,C',S,b,q⟩:=aV
 unfold pF at b;split at b
 .rename_i i e1 C1 h1;cases(b);exact h (#[Z,Θ,_,C,_,e1,C',S,h1,λv H1 c j e d=>#[i,d,q _ H1 c 010 #[S.go c e.cell,rfl]]])
 trivial
end
def xF(K:aU)(E:Hp)(Θ:015):Vl->V->Prop
 |.im d,v=>RZ E d v
 |.ow _,_=>False
 |.ce n,v=>∃a,v=.ref a/\Θ[n]?=aa a
 |.sc ns,v=>∃a,v=.ref a/\b7 K E a (ns.map V.int)
 |.ks ns,v=>∃a,v=.ref a/\dH K E a (ns.map toV)
 |.tp _ _ _,_=>False
inductive rC(K:aU)(E:Hp)(Θ:List az):List Vl->List V->Prop
 |nil:rC K E Θ [] []
 |cons {x:Vl} {v:V} {xs:List Vl} {vs:012}:xF K E Θ x v->rC K E Θ xs vs->rC K E Θ (x::xs) (v::vs)
theorem xF.same{K:aU}(s:cT E E'){x:Vl}{v:V}(h:xF K E Θ x v):xF K E' Θ x v:=by
 cases x with
 |im d=>exact RZ.same s h
 |ow d=>exact h
 |ce n=>exact h
 |sc ns=>obtain⟨a,e,q⟩:=h;exact#[a,e,s.seq q]
 |ks ns=>obtain⟨a,e,q⟩:=h;exact#[a,e,s.Fx q]
 |tp=>exact h
inductive nC(K:aU)(f:FA)(σ:St)(H:Hp)(Q:List V->Hp->Prop):Prop
 |mk (Z Θ:015) (aj:En) (C:Ce) (xs:List Vl) (bw:En) (C':Ce) (S:09) (hf:f aj C=aa (xs,bw,C')) (q:∀vs H',bh Θ H H'->Fz aj bw->Sm K Z Θ bw C' σ H'->rC K (er (bF Z Θ bw σ) H') Θ xs vs->Q vs H'):nC K f σ H Q
noncomputable def aQ:FA:=λaj C=>aa ([],aj,C)
def aF(f:FE)(g:FA):FA:=λaj C=>match f aj C with
 |some (r,e1,C1)=>match g e1 C1 with
  |some (xs,e2,C2)=>aa (still r::xs,e2,C2)
  |none=>ao
 |none=>ao
noncomputable def dw:CG:=λaj C=>aa ([],aj,C)
def cL(f:FB)(g:CG):CG:=λaj C=>match f aj C with
 |some (d,e1,C1)=>match g e1 C1 with
  |some (ds,e2,C2)=>aa (d::ds,e2,C2)
  |none=>ao
 |none=>ao
theorem Res.arg{K:aU}{aj:En}{C:Ce}{σ:St}{r:Vl}{v:V}(h:Res K Z Θ aj C σ H H' r v):Sm K Z Θ aj C σ H'/\xF K (er (bF Z Θ aj σ) H') Θ (L2.still r) v:=by
 have g:=h.still;cases r with
 |im d=>exact g
 |ow d=>exact g
 |ce n=>exact g
 |sc ns=>exact g
 |ks ns=>exact g
 |tp=>exact h.elim
theorem bR:PA X [] (nC X.K aQ):=pR.weak λσ H Q aV=>by
 obtain⟨Z,Θ,aj,C,xs,bw,C',S,a,q⟩:=aV
 cases(a);exact q [] H 003 010 S .nil
theorem aW{f:FE}{g:FA}(h:PE X e (tE X.K f))(n:PA X es (nC X.K g))(k:bI (e::es) X.env=006::bI es X.env:=by rfl):PA X (e::es) (nC X.K (aF f g)):=(pO h n k).weak λσ H Q aV=>by
 refine hide λt s=>?_
 obtain⟨Z,Θ,aj,C,xs,bw,C',S,a,q⟩:=aV
 unfold aF at a;split at a
 .rename_i r e1 C1 h1;split at a
  .rename_i ys e2 C2 h2;cases(a);refine s (#[Z,Θ,_,C,r,e1,C1,S,h1,λv H1 l i m=>?_])
   obtain⟨b,p⟩:=m.arg
   exact#[Z,Θ,e1,C1,ys,_,C',b,h2,λvs H2 d c j o=>q _ H2 (l.trans d) (i.trans c) j (.cons (p.same (Ys b d c)) o)]
  trivial
 trivial
theorem iz:PA X [] (CJ X.K dw):=pR.weak λσ H Q aV=>by
 obtain⟨Z,Θ,aj,C,xs,bw,C',S,a,q⟩:=aV
 cases(a);exact q [] H 003 010 S .nil
theorem gC(h:PE X e (fM X.K f))(p:PA X es (CJ X.K g))(m:bI (e::es) X.env=006::bI es X.env:=by rfl):PA X (e::es) (CJ X.K (cL f g)):=(pO h p m).weak λσ H Q aV=>by
 refine hide λs r=>?_
 obtain⟨Z,Θ,aj,C,xs,bw,C',S,a,q⟩:=aV
 unfold cL at a;split at a
 .rename_i d e1 C1 h1;split at a
  .rename_i ys e2 C2 h2;cases(a);exact r (#[Z,Θ,_,C,d,e1,C1,S,h1,λv H1 o j b k=>#[Z,Θ,e1,C1,ys,_,C',b,h2,λvs H2 i c l n=>q _ H2 (o.trans i) (j.trans c) l (.cons (k.go b i c) n)]])
  trivial
 lia
noncomputable def xG:List Vl->Option (List aB)
 |[]=>aa []
 |.im d::r=>match xG r with
  |some ds=>aa (d::ds)
  |none=>ao
 |_=>ao
theorem VM{K:aU}:∀{xs:List Vl}{ds:016}{vs:012},xG xs=aa ds->rC K E Θ xs vs->cF E ds vs
 |[],ds,vs,h,a=>by cases h;cases a;rfl
 |.im d::r,ds,vs,h,a=>by
  unfold xG at h;split at h
  .rename_i b;cases h;cases a with
   |cons a1 a2=>exact#[_,_,rfl,a1,VM b a2]
  trivial
 |.ow _::r,ds,vs,h,a=>by cases h
 |.ce _::r,ds,vs,h,a=>by cases h
 |.sc _::r,ds,vs,h,a=>by cases h
 |.ks _::r,ds,vs,h,a=>by cases h
 |.tp _ _ _::r,ds,vs,h,a=>by cases h
def fQ(g:FA):FE:=λaj C=>match g aj C with
 |some (xs,e',C')=>match xG xs with
  |some ds=>if ds.length<=eE then aa (.ow (.list ds),e',C') else ao
  |none=>ao
 |none=>ao
def dX(g:FA):FE:=λaj C=>match g aj C with
 |some (xs,e',C')=>match xG xs with
  |some ds=>if ds.length<=eE then aa (.im (.tuple ds),e',C') else ao
  |none=>ao
 |none=>ao
theorem lJ{g:FA}(h:PA X es (nC X.K g)):PE X (.List es pos) (tE X.K (fQ g)):=(XC h).weak λσ H Q aV=>by
 refine hide λl j=>?_
 obtain⟨Z,Θ,aj,C,r,bw,C',S,a,q⟩:=aV
 unfold fQ at a;split at a
 .rename_i xs e1 C1 h1;split at a
  .rename_i k;split at a
   .rename_i f;cases(a);refine j (#[Z,Θ,_,C,xs,_,C',S,h1,λvs H1 b d e i=>?_]);have r:=VM k i
    exact#[by rw[jL r];exact vo f,λp c=>q _ _ (b.trans (bh.upd c)) d ((o7 e r c).from b)]
   trivial
  trivial
 trivial
theorem kJ{x1}{g:FA}(h:PA X es (nC X.K g)):PE X (.Tuple es x1 pos) (tE X.K (dX g)):=(apy h).weak λσ H Q aV=>by
 refine hide λl j=>?_
 obtain⟨Z,Θ,aj,C,r,bw,C',S,a,q⟩:=aV
 unfold dX at a;split at a
 .rename_i xs e1 C1 h1;split at a
  .rename_i k;split at a
   .rename_i f;cases(a);refine j (#[Z,Θ,_,C,xs,_,C',S,h1,λvs H1 b d e i=>?_]);have r:=VM k i
    exact#[by rw[jL r];exact vo f,λp c=>q _ _ (b.trans (bh.upd c)) d ((Nt e r c).from b)]
   trivial
  trivial
 trivial
def XQ:FE:=λaj C=>aa (.ow (.dict []),aj,C)
theorem amt:PE X (.Dict [] [] pos) (tE X.K XQ):=acw.weak λσ H Q aV=>by
 obtain⟨Z,Θ,aj,C,r,bw,C',S,b,q⟩:=aV
 cases(b);exact λp a=>q _ _ (bh.upd a) 010 (aoc S (λ_ z=>nomatch z) (.inl #[[],rfl,0,fK]) rfl a)
def j8(K:aU)(r:List V->Hp->VK->Prop)(op:List aB->Option Vl):Prop:=
 ∀(Z Θ:015)(aj:En)(C:Ce)(σ:St)(H:Hp)(xs:012)(ds:016)(res:Vl),Sm K Z Θ aj C σ H->Pb Z Θ aj σ H ds xs->op ds=aa res->
  ∀Q:VK,(∀v H',bh Θ H H'->Res K Z Θ aj C σ H H' res v->Q v H')->r xs H Q
def dg(op:List aB->Option Vl)(g:CG):FE:=λaj C=>match g aj C with
 |some (ds,e',C')=>match op ds with
  |some r=>aa (r,rst r aj e',C')
  |none=>ao
 |none=>ao
theorem acM{K:aU}(L:j8 K r op){g:CG}:∀σ H Q,tE K (dg op g) σ H Q->Rn r (CJ K g) σ H Q:=by
 rintro σ H Q ⟨Z,Θ,aj,C,res,bw,C',S,hf,q⟩;unfold dg at hf;refine hide λh f=>?_
 split at hf
 .rename_i ds e1 C1 h1;split at hf
  .rename_i h2;cases(hf);exact f (#[Z,Θ,_,C,ds,e1,C',S,h1,λvs H1 a c e d=>L Z Θ e1 C' σ H1 vs ds _ e d h2 Q λz H2 b R=>(q z H2 (a.trans b) (c.rst _) ((R.from a).rst S (a.trans b)))])
  lia
 trivial
section
variable{X:Cx}{x:Str}{p pos:Pos}{e:Expr}{g:CG}{id T:String}
theorem jU(k:gF X (.builtin id) r)(L:j8 X.K r op)(d:Gl X x)(i:X.mg x=ao)(h:uc x=aa (.builtin id))(j:PA X (e::es) (CJ X.K g))(c:x≠"__name__":=by decide)(a:(x==("__debug__":Str))=aH:=by decide)
  (f:bI (e::es) X.env=006::bI es X.env:=by rfl)(b:(eN pos (bI es X.env)).any (·.1)=aH:=by rfl):PE X (.Call (.Name x p) (e::es) [] pos) (tE X.K (dg op g)):=(Mw k d i h j c a f b).weak (acM L)
theorem DP(k:gF X (.type T) r)(L:j8 X.K r op)(d:Gl X x)(i:X.mg x=ao)(h:uc x=aa (.type T))(j:PA X (e::es) (CJ X.K g))(c:x≠"__name__":=by decide)(a:(x==("__debug__":Str))=aH:=by decide)
  (f:bI (e::es) X.env=006::bI es X.env:=by rfl)(b:(eN pos (bI es X.env)).any (·.1)=aH:=by rfl):PE X (.Call (.Name x p) (e::es) [] pos) (tE X.K (dg op g)):=(abQ k d i h j c a f b).weak (acM L)
end
abbrev FN:=List Vl->Ce->Option (Vl×Ce)
def BV:Vl->Bool
 |.tp _ _ _=>aq
 |_=>aH
def QJ(K:aU)(Z Θ:015)(C:Ce)(H H':Hp):Vl->V->Prop
 |.tp p d q,v=>∃t a vs us,v=.ref t/\H' t=aa (.tup (vs++.ref a::us))/\H a=ao/\Sm K (a::Z) Θ [] C [] H'/\lO (er (bF (a::Z) Θ [] []) H') H' a d/\cF (er (bF (a::Z) Θ [] []) H') p vs/\cF (er (bF (a::Z) Θ [] []) H') q us
 |r,v=>Res K Z Θ [] C [] H H' r v
theorem QJ.res{K:aU}{C:Ce}{r:Vl}{v:V}(n:BV r=aH)(h:QJ K Z Θ C H H' r v):Res K Z Θ [] C [] H H' r v:=by
 cases r<;>first|exact h|cases n
def spT(K:aU)(f:FN):Sp:=λvs H Q _=>∃Z Θ C xs r C',Sm K Z Θ [] C [] H/\rC K (er (bF Z Θ [] []) H) Θ xs vs/\f xs C=aa (r,C')/\
 ∀v H',bh Θ H H'->QJ K Z Θ C' H H' r v->Q v H'
def cV(f:FN)(g:FA):FE:=λaj C=>match g aj C with
 |some (xs,e',C1)=>match f xs C1 with
  |some (r,C2)=>if BV r then ao else aa (r,rst r aj e',C2)
  |none=>ao
 |none=>ao
theorem pU(h:∀a,a∈P↔a∈P'):er P H=er P' H:=by
 funext b;unfold er;simp_all
theorem Av(a:az):a∈bF (Z++cB aj σ) Θ [] []↔a∈bF Z Θ aj σ:=by
 simp only[cB,dU,jt]
 grind
section
variable{K:aU}{aj:En}{σ:St}{H H':Hp}{a:az}
theorem Sm.Br(S:09)(f:H a=ao)(k:bh Θ H H')(h':NT (H' a))(c:gP Θ C' H'):Sm K (a::Z) Θ aj C' σ H':=by
 have sm:=jN k S.qN λb m=>by
  rcases cC.mp m with rfl|m
  .exact .inr f
  .exact .inl m
 refine#[S.len,mU.mpr #[λm=>S.Fy a m f,S.nd],λb m=>?_,λi x e=>?_,c]
 .rcases cC.mp m with rfl|m
  .trivial
  .obtain⟨u,e,n⟩:=S.dom b m
   exact⟨u,k.keep _ _ e λz=>by
    have h:=S.nd
    grind,n⟩
 .obtain⟨v,e1,r⟩:=S.slot i x e
  refine#[v,e1,r.same sm λd b ex j o' g=>k.keep _ _ g ?_]
  subst ex j
  exact(S.nM (mV.mpr #[i,d,e,e1])).2
theorem Sm.bare(S:09):Sm K (Z++cB aj σ) Θ [] C [] H:=by
 refine#[rfl,?_,λb m=>?_,λi x e=>by grind,S.cell]
 .have h:=S.nd
  show((Z++cB _ σ)++(Θ++[])).Nodup
  grind
 .rcases dU.mp m with m|m
  .exact S.dom b m
  .exact S.oN b (fJ _ (fJ _ m))
theorem Res.back(S:09)(k:bh Θ H H')(h:Res K (Z++cB aj σ) Θ [] C' [] H H' r v):Res K Z Θ aj C' σ H H' r v:=by
 have e1:er _ H'=er (bF Z Θ aj σ) H':=pU Av;cases r with
 |im d=>
  obtain⟨c,r⟩:=h
  rw[e1] at r
  exact#[S.go k c.cell,r]
 |ow d=>
  obtain⟨a,rfl,e,c,r⟩:=h
  have e2:er (bF (a::(Z++cB _ σ)) Θ [] []) H'=er _ H':=pU λb=>by
   show b∈a::bF _ Θ [] []↔b∈a::bF Z Θ aj σ;rw[cC,cC,Av]
  rw[e2] at r
  exact#[a,rfl,e,S.Br e k (c.dom a cR) c.cell,r]
 |ce n=>exact#[S.go k h.1.cell,h.2]
 |sc ns=>
  obtain⟨c,a,rfl,q⟩:=h
  rw[e1] at q
  exact#[S.go k c.cell,a,rfl,q]
 |ks ns=>
  obtain⟨c,a,rfl,q⟩:=h
  rw[e1] at q
  exact#[S.go k c.cell,a,rfl,q]
 |tp=>exact h
end
section
variable{X:Cx}{x:Str}{k:Nat}{p pos:Pos}{e:Expr}{f:FN}{g:FA}
theorem amu{K:aU}:∀σ H Q,tE K (cV f g) σ H Q->Jx (spT K f) [] E0 (nC K g) σ H Q:=by
 rintro σ H Q ⟨Z,Θ,aj,C,res,bw,C',S,hf,q⟩;unfold cV at hf;refine hide λi h=>?_
 split at hf
 .rename_i xs e1 C1 h1;split at hf
  .rename_i h2;split at hf
   .lia
   rename_i nt;cases(hf);refine h (#[Z,Θ,_,C,xs,e1,C1,S,h1,λvs H1 a e c d=>?_]);rw[jt];have e2:er _ H1=er (bF Z Θ e1 σ) H1:=pU Av;rw[<-e2] at d
   exact#[_,Θ,C1,xs,_,C',c.bare,d,h2,λv H2 b R=>q v H2 (a.trans b) (e.rst _) (((Res.back c b (R.res (aiI.mpr nt))).from a).rst S (a.trans b))]
  trivial
 trivial
theorem gn(F:jQ X.prog X.w X.K X.mg X.base x k ps (spT X.K f))(i:dZ k X.A)(c:Gl X x)(h:PA X (e::es) (nC X.K g))(b:(x==("__debug__":Str))=aH:=by decide)
  (d:bI (e::es) X.env=006::bI es X.env:=by rfl)(a:(eN pos (bI es X.env)).any (·.1)=aH:=by rfl):PE X (.Call (.Name x p) (e::es) [] pos) (tE X.K (cV f g)):=(Pa F i c h b d a).weak amu
end
theorem U9:∀{aj:En}{σ:St},(∀(i j:Nat)(d e:aB)(a:az),aj[i]?=aa (aa (Vl.ow d))->σ[i]?=aa (aa (V.ref a))->aj[j]?=aa (aa (Vl.ow e))->σ[j]?=aa (aa (V.ref a))->i=j)->(cB aj σ).Nodup
 |[],σ,_=>by cases σ<;>exact tZ
 |_::_,[],_=>tZ
 |x::en,v::s,h=>by
  rw[cB,lX]
  refine#[?_,U9 λi j d e a h1 h2 g k=>?_,λa c b f e=>?_]
  .unfold own1
   grind
  .have:=h (i+1) (j+1) d e a 002 002 002 002;lia
  .subst e;unfold own1 at c;split at c
   .rw[gB] at c;subst c
    obtain⟨j,d,h1,h2⟩:=mV.mp f
    have:=h 0 (j+1) _ d a rfl rfl 002 002;lia
   trivial
theorem get_set{α:Type}{l:List α}{x y:α}(h:(l.set i x)[j]?=aa y):(j=i/\y=x/\i<l.length)\/(j≠i/\l[j]?=aa y):=by grind
theorem adN{α:Type}{l:List α}{x:α}(h:i<l.length):(l.set i x)[i]?=aa x:=by grind
theorem sV(h:a∈cB (aj.set i (aa x)) (σ.set i (aa v))):a∈cB aj σ\/(∃d,x=.ow d)/\v=.ref a:=by
 refine hide λc b=>?_
 obtain⟨j,d,h1,h2⟩:=mV.mp h
 rcases get_set h1 with⟨rfl,e,_⟩|⟨n,h1⟩
 .grind
 .rcases get_set h2 with⟨e,_,_⟩|⟨_,h2⟩
  .trivial
  .exact b (.inl (mV.mpr #[j,d,h1,h2]))
section
variable{K:aU}{Z Θ:List az}{C:Ce}{σ:St}{H:Hp}{a:az}{i:Nat}{v:V}
theorem Sm.cQ(S:09):Z.Nodup/\Θ.Nodup/\(cB aj σ).Nodup/\(∀b∈Z,b∉Θ):=by
 have h:=S.nd
 grind
theorem CN(h1:Z.Nodup)(h2:Θ.Nodup)(c:O.Nodup)(d:∀b∈Z,b∉Θ)(a:∀b∈O,b∉Z/\b∉Θ):(Z++(Θ++O)).Nodup:=by grind
theorem Sm.rK(S:09){x:Vl}(f:∀d,x≠.ow d)(r:BR K (er (bF Z Θ aj σ) H) H Θ x v):Sm K Z Θ (aj.set i (aa x)) C (σ.set i (aa v)) H:=by
 have sub:∀b,b∈cB _ (σ.set i (aa v))->b∈cB aj σ:=λb m=>by
  rcases sV m with m|⟨⟨d,e⟩,_⟩
  .exact m
  .exact absurd e (f d)
 have cQ:=S.cQ;have sm:cT (er (bF Z Θ _ σ) H) _:=uo λb m=>by
  rcases dU.mp m with m|m
  .exact jG _ m
  .rcases dU.mp m with m|m
   .exact fJ _ (jG _ m)
   .exact fJ _ (fJ _ (sub b m))
 refine#[by rw[wD,wD];exact S.len,?_,S.dom,λj y e=>?_,S.cell]
 .refine CN cQ.1 cQ.2.1 (U9 λp q d e b h1 h2 a c=>?_) cQ.2.2.2 λb m=>S.nM (sub b m)
  rcases get_set h1 with⟨rfl,e1,_⟩|⟨n1,h1⟩
  .grind
  .rcases get_set a with⟨rfl,e1,_⟩|⟨n2,a⟩
   .grind
   .rcases get_set h2 with⟨e2,_,_⟩|⟨_,h2⟩
    .lia
    .rcases get_set c with⟨e4,_,_⟩|⟨_,c⟩
     .grind
     .exact Iv cQ.2.2.1 h1 h2 a c
 .rcases get_set e with⟨rfl,e1,hl⟩|⟨n,e⟩
  .cases e1
   exact#[v,adN (by rwa [S.len]),r.same sm λd b ex _=>absurd ex (f d)]
  .obtain⟨u,e1,g⟩:=S.slot j y e
   exact#[u,by grind,g.same sm λ_ _ _ _ _ h=>h]
theorem Sm.agq(S:Sm K (a::Z) Θ aj C σ H){d:aB}(r:lO (er (bF (a::Z) Θ aj σ) H) H a d):Sm K Z Θ (aj.set i (aa (.ow d))) C (σ.set i (aa (.ref a))) H:=by
 have sub:∀b,b∈cB (aj.set i (aa (.ow d))) (σ.set i (aa (.ref a)))->b∈cB _ σ\/b=a:=λb m=>by
  rcases sV m with m|⟨_,e⟩
  .exact .inl m
  .cases e;exact .inr rfl
 have cQ:=S.cQ;have k:=mU.mp cQ.1;have sm:cT (er (bF (a::Z) Θ aj σ) H) _:=uo λb m=>by
  rcases dU.mp m with m|m
  .exact jG _ (dI _ m)
  .rcases dU.mp m with m|m
   .exact fJ _ (jG _ m)
   .rcases sub b m with m|rfl
    .exact fJ _ (fJ _ m)
    .exact jG _ cR
 have g:=λm=>(S.nM m).1 cR
 refine#[by rw[wD,wD];exact S.len,?_,λb m=>S.dom b (dI _ m),λj y e=>?_,S.cell]
 .refine CN k.2 cQ.2.1 (U9 λp q l e b h1 h2 c f=>?_) (λb m=>cQ.2.2.2 b (dI _ m)) λb m=>?_
  .rcases get_set h1 with⟨rfl,e1,_⟩|⟨n1,h1⟩
   .rcases get_set c with⟨e3,_,_⟩|⟨n2,c⟩
    .exact e3.symm
    .rcases get_set h2 with⟨_,e2,_⟩|⟨n,_⟩
     .cases e2;rcases get_set f with⟨e4,_,_⟩|⟨_,f⟩
      .exact e4.symm
      .exact absurd (mV.mpr #[q,e,c,f]) g
     .exact absurd rfl n
   .rcases get_set h2 with⟨e2,_,_⟩|⟨_,h2'⟩
    .exact absurd e2 n1
    .have s:=mV.mpr #[p,l,h1,h2'];rcases get_set c with⟨rfl,e3,_⟩|⟨n2,c⟩
     .grind
     .rcases get_set f with⟨e4,_,_⟩|⟨_,f⟩
      .exact absurd e4 n2
      .exact Iv cQ.2.2.1 h1 h2' c f
  .rcases sub b m with m|rfl
   .obtain⟨p,q⟩:=S.nM m
    exact#[λz=>p (dI _ z),q]
   .exact#[k.1,cQ.2.2.2 b cR]
 .rcases get_set e with⟨rfl,e1,hl⟩|⟨n,e⟩
  .cases e1
   exact#[_,adN (by rwa [S.len]),a,rfl,r.same sm λ_ h=>h]
  .obtain⟨u,e1,o⟩:=S.slot j y e
   exact#[u,by rwa [qT (jK n)],o.same sm λ_ _ _ _ _ h=>h]
theorem Res.set(h:Res K Z Θ aj C σ H0 H r v):Sm K Z Θ (aj.set i (aa r)) C (σ.set i (aa v)) H:=by
 cases r with
 |im d=>exact h.1.rK (λ_ e=>nomatch e) h.2
 |ow d=>obtain⟨a,rfl,_,S,r⟩:=h;exact S.agq r
 |ce n=>exact h.1.rK (λ_ e=>nomatch e) h.2
 |sc ns=>exact h.1.rK (λ_ e=>nomatch e) h.2
 |ks ns=>exact h.1.rK (λ_ e=>nomatch e) h.2
 |tp=>trivial
end
inductive Fl where
 |nx|rt (r:Vl)|bk|ct
abbrev FS:=En->Ce->Option (Fl×En×Ce)
structure jh(Θ L':List az)(H:Hp):Prop where
 ex:∃Δ,L'=Θ++Δ/\∀a∈Δ,H a=ao
theorem jh.refl(Θ:015)(H:Hp):jh Θ Θ H:=#[[],by grind,λ_ m=>nomatch m]
structure fH(K:aU)(Z Θ:List az)(aj:En)(σ:St)(H:Hp)(L':List az)(bw:En)(C':Ce)(F':St)(H':Hp):Prop where
 th:jh Θ L' H
 kp:bh (Θ++cB aj σ) H H'
 own:∀a∈cB bw F',a∈cB aj σ\/H a=ao
 sm:Sm K Z L' bw C' F' H'
def Ph(K:aU)(Z Θ:015)(C:Ce)(own:015)(H H':Hp):Vl->V->Prop
 |.im d,v=>Sm K Z Θ [] C [] H'/\RZ (er (bF Z Θ [] []) H') d v
 |.ow d,v=>∃a,v=.ref a/\(a∈own\/H a=ao)/\Sm K (a::Z) Θ [] C [] H'/\lO (er (bF (a::Z) Θ [] []) H') H' a d
 |.ce n,v=>Sm K Z Θ [] C [] H'/\∃a,v=.ref a/\Θ[n]?=aa a
 |.sc ns,v=>Sm K Z Θ [] C [] H'/\∃a,v=.ref a/\b7 K (er (bF Z Θ [] []) H') a (ns.map V.int)
 |.ks ns,v=>Sm K Z Θ [] C [] H'/\∃a,v=.ref a/\dH K (er (bF Z Θ [] []) H') a (ns.map toV)
 |.tp p d q,v=>∃t a vs us,v=.ref t/\H' t=aa (.tup (vs++.ref a::us))/\(a∈own\/H a=ao)/\Sm K (a::Z) Θ [] C [] H'/\lO (er (bF (a::Z) Θ [] []) H') H' a d/\cF (er (bF (a::Z) Θ [] []) H') p vs/\cF (er (bF (a::Z) Θ [] []) H') q us
structure ZC(K:aU)(Z Θ:List az)(aj:En)(σ:St)(H:Hp)(L':List az)(C':Ce)(r:Vl)(v:V)(H':Hp):Prop where
 th:jh Θ L' H
 kp:bh (Θ++cB aj σ) H H'
 ok:Ph K Z L' C' (cB aj σ) H H' r v
def QK(K:aU)(Z Θ:015)(aj:En)(σ:St)(H:Hp)(bw:En)(C':Ce)(D:Ends):Fl->Prop
 |.nx=>∀L' F' H',fH K Z Θ aj σ H L' bw C' F' H'->D.nx F' H'
 |.bk=>∀L' F' H',fH K Z Θ aj σ H L' bw C' F' H'->D.bk F' H'
 |.ct=>∀L' F' H',fH K Z Θ aj σ H L' bw C' F' H'->D.ct F' H'
 |.rt r=>∀L' v H',ZC K Z Θ aj σ H L' C' r v H'->D.rt v H'
inductive tS(K:aU)(f:FS)(D:Ends)(σ:St)(H:Hp):Prop
 |mk (Z Θ:015) (aj:En) (C:Ce) (fl:Fl) (bw:En) (C':Ce) (S:09) (hf:f aj C=aa (fl,bw,C')) (q:QK K Z Θ aj σ H bw C' D fl):tS K f D σ H
section
variable{K:aU}{C C1 C2:Ce}{σ F1 F2:St}{H H1 H2:Hp}
theorem jh.trans(h:jh Θ L1 H)(k:∀a,H a≠ao->H1 a≠ao)(g:jh L1 Θ2 H1):jh Θ Θ2 H:=by
 obtain⟨Δ,e,n⟩:=h.ex
 obtain⟨U',b,c⟩:=g.ex
 refine#[_,by rw[b,e,iK],λa m=>?_]
 grind
theorem acN(c:jh Θ L1 H)(b:bh (Θ++cB aj σ) H H1)(g:∀a∈cB e1 F1,a∈cB aj σ\/H a=ao)(k2:bh (L1++cB e1 F1) H1 H2):bh (Θ++cB aj σ) H H2:=by
 refine#[λa o e n=>k2.keep a o (b.keep a o e n) λm=>n ?_,λa e=>k2.dom a (b.dom a e)]
 rcases dU.mp m with m|m
 .obtain⟨Δ,f,d⟩:=c.ex
  grind
 grind
theorem fH.trans(p:fH K Z Θ aj σ H L1 e1 C1 F1 H1)(q:fH K Z L1 e1 F1 H1 Θ2 e2 C2 F2 H2):fH K Z Θ aj σ H Θ2 e2 C2 F2 H2 where
 th:=p.th.trans p.kp.dom q.th
 kp:=acN p.th p.kp p.own q.kp
 own:=λa m=>by
  rcases q.own a m with m|m
  .exact p.own a m
  .exact .inr (p.kp.none m)
 sm:=q.sm
theorem fH.ret(p:fH K Z Θ aj σ H L1 e1 C1 F1 H1)(q:ZC K Z L1 e1 F1 H1 Θ2 C2 r v H2):ZC K Z Θ aj σ H Θ2 C2 r v H2 where
 th:=p.th.trans p.kp.dom q.th
 kp:=acN p.th p.kp p.own q.kp
 ok:=by
  have h:=q.ok;cases r with
  |im d=>exact h
  |ow d=>
   obtain⟨a,e,m,S,r⟩:=h
   refine#[a,e,?_,S,r]
   rcases m with m|m
   .exact p.own a m
   .exact .inr (p.kp.none m)
  |ce n=>exact h
  |sc ns=>exact h
  |ks ns=>exact h
  |tp=>
   obtain⟨t,a,vs,us,e,b,m,R⟩:=h
   exact#[t,a,vs,us,e,b,m.elim (p.own a) λm=>.inr (p.kp.none m),R]
theorem QK.trans(p:fH K Z Θ aj σ H L1 e1 C1 F1 H1)(h:QK K Z Θ aj σ H e2 C2 D fl):QK K Z L1 e1 F1 H1 e2 C2 D fl:=by
 cases fl with
 |nx=>exact λL' F' H' q=>h L' F' H' (p.trans q)
 |bk=>exact λL' F' H' q=>h L' F' H' (p.trans q)
 |ct=>exact λL' F' H' q=>h L' F' H' (p.trans q)
 |rt r=>exact λL' v H' q=>h L' v H' (p.ret q)
theorem o8(k:bh Θ H H1):bh (Θ++O) H H1:=#[λa o e n=>k.keep a o e λm=>n (jG _ m),k.dom]
theorem fH.qO(k:bh Θ H H1)(f:Fz aj e1)(S:Sm K Z Θ e1 C1 σ H1):fH K Z Θ aj σ H Θ e1 C1 σ H1:=
 #[jh.refl _ _,o8 k,λa m=>.inl (f.own.subset m),S]
end
def g8:FS:=λaj C=>aa (.nx,aj,C)
noncomputable def bV (f g:FS):FS:=λaj C=>match f aj C with
 |some (.nx,e1,C1)=>g e1 C1
 |r=>r
def fZ(c:FT)(f g:FS):FS:=λaj C=>match c aj C with
 |some (true,C1)=>f aj C1
 |some (false,C1)=>g aj C1
 |none=>ao
def vL(f:FE):FS:=λaj C=>match f aj C with
 |some (_,e1,C1)=>aa (.nx,e1,C1)
 |none=>ao
noncomputable def eV (f:FE):FS:=λaj C=>match f aj C with
 |some (r,e1,C1)=>aa (.rt r,e1,C1)
 |none=>ao
def vI(i:Nat):FS:=λaj C=>match aj[i]? with
 |some (some x)=>aa (.rt x,aj,C)
 |_=>ao
noncomputable def dY (i:Nat) (f:FE):FS:=λaj C=>match f aj C with
 |some (r,e1,C1)=>aa (.nx,e1.set i (aa r),C1)
 |none=>ao
section
variable{X:Cx}{st:dF}{rest:List dF}{pos:Pos}
theorem fH.same{K:aU}{C:Ce}{σ:St}{H:Hp}(S:09):fH K Z Θ aj σ H Θ aj C σ H:=fH.qO 003 010 S
theorem oA:jD X [] (tS X.K g8):=anF.weak λD σ H aV=>by
 obtain⟨Z,Θ,aj,C,b,bw,C',S,a,q⟩:=aV
 cases(a);exact q Θ σ H (fH.same S)
theorem dj(h:PS X st (tS X.K f)):jD X [st] (tS X.K f):=anG h
theorem amv{K:aU}:∀D σ H,tS K (bV f g) D σ H->af5 (tS K f) (tS K g) D σ H:=by
 rintro D σ H ⟨Z,Θ,aj,C,fl,bw,C',S,hf,q⟩;unfold bV at hf;split at hf
 .rename_i e1 C1 h1
  exact#[Z,Θ,_,C,_,e1,C1,S,h1,λL1 F1 H1 p=>#[Z,L1,e1,C1,fl,_,C',p.sm,hf,q.trans p]]
 .refine#[Z,Θ,_,C,fl,_,C',S,hf,?_]
  cases fl with
  |nx=>grind
  |bk=>exact q
  |ct=>exact q
  |rt r=>exact q
theorem cJ(h:PS X st (tS X.K f))(a:jD X rest (tS X.K g)):jD X (st::rest) (tS X.K (bV f g)):=(alU h a).weak amv
theorem oH(l:PT X c (eY X.K t))(k:jD X a (tS X.K f))(j:jD X b (tS X.K g)):PS X (.If c a b pos) (tS X.K (fZ t f g)):=(aqL l k j).weak λD σ H aV=>by
 obtain⟨Z,Θ,aj,C,i,bw,C',S,e,q⟩:=aV
 unfold fZ at e;split at e
 .rename_i C1 h1
  exact#[Z,Θ,_,C,_,C1,S,h1,λH1 h d=>zq #[Z,Θ,_,C1,i,_,C',d,e,q.trans (fH.qO h 010 d)]]
 .rename_i C1 h1
  exact#[Z,Θ,_,C,_,C1,S,h1,λH1 h d=>zp #[Z,Θ,_,C1,i,_,C',d,e,q.trans (fH.qO h 010 d)]]
 lia
theorem Wy(h:PE X e (tE X.K f))(b:lG e ao pos.line X.env=pure aH:=by rfl):PS X (.Expr e pos) (tS X.K (vL f)):=(Aq h b).weak λD σ H aV=>by
 obtain⟨Z,Θ,aj,C,c,bw,C',S,a,q⟩:=aV
 unfold vL at a;split at a
 .rename_i r e1 C1 h1;cases(a)
  exact#[Z,Θ,_,C,r,_,C',S,h1,λv H1 k f R=>q Θ σ H1 (fH.qO k f R.sm)]
 trivial
theorem Sm.none{K:aU}{C:Ce}{σ:St}{H:Hp}(S:09):Sm K Z Θ [] C [] H:=by
 have cQ:=S.cQ
 exact#[rfl,CN cQ.1 cQ.2.1 tZ cQ.2.2.2 (λ_ m=>nomatch m),S.dom,λi x e=>by grind,S.cell]
theorem wN:cT (er (bF Z Θ aj σ) H) (er (bF Z Θ [] []) H):=uo λb m=>by
 rcases dU.mp m with m|m
 .grind
 .rcases dU.mp m with m|m
  .grind
  .nomatch m
theorem Res.ret{K:aU}{aj:En}{C:Ce}{σ:St}{H H':Hp}{r:Vl}{v:V}(h:Res K Z Θ aj C σ H H' r v):Ph K Z Θ C O H H' r v:=by
 cases r with
 |im d=>exact#[h.1.none,h.2.same wN]
 |ow d=>obtain⟨a,e,n,S,r⟩:=h;exact#[a,e,.inr n,S.none,r.same wN λ_ h=>h]
 |ce n=>exact#[h.1.none,h.2]
 |sc ns=>obtain⟨S,a,e,q⟩:=h;exact#[S.none,a,e,wN.seq q]
 |ks ns=>obtain⟨S,a,e,q⟩:=h;exact#[S.none,a,e,wN.Fx q]
 |tp=>trivial
theorem jM(h:PE X e (tE X.K f)):PS X (.Return (aa e) pos) (tS X.K (eV f)):=(Xv h).weak λD σ H aV=>by
 refine hide λd b=>?_
 obtain⟨Z,Θ,aj,C,c,bw,C',S,a,q⟩:=aV
 unfold eV at a;split at a
 .rename_i r e1 C1 h1;cases(a);exact b (#[Z,Θ,_,C,r,_,C',S,h1,λv H1 k f R=>q Θ v H1 #[jh.refl _ _,o8 k,R.ret]])
 trivial
theorem Nu(h:PE X e (jx i)):PS X (.Return (aa e) pos) (tS X.K (vI i)):=(Xv h).weak λD σ H aV=>by
 refine hide λk g=>?_
 obtain⟨Z,Θ,aj,C,j,bw,C',S,c,q⟩:=aV
 unfold vI at c;split at c
 .rename_i x f;cases(c)
  obtain⟨v,e1,r⟩:=S.slot i x f
  refine g (#[v,e1,q Θ v H #[jh.refl _ _,bh.refl _ _,?_]]);cases x with
  |im d=>exact#[S.none,RZ.same wN r]
  |ow d=>
   obtain⟨a,rfl,r⟩:=r
   have m:=mV.mpr #[i,d,f,e1];have sm:cT (er (bF Z Θ _ σ) H) (er (bF _ Θ [] []) H):=uo λb mb=>by
    rcases dU.mp mb with mb|mb
    .rcases cC.mp mb with rfl|mb
     .exact fJ _ (fJ _ m)
     .exact jG _ mb
    .rcases dU.mp mb with mb|mb
     .grind
     .nomatch mb
   have cQ:=S.cQ
   refine#[a,rfl,.inl m,#[rfl,CN (mU.mpr #[(S.nM m).1,cQ.1]) cQ.2.1 tZ (λb mb=>?_) (λ_ m=>nomatch m),λb mb=>?_,λi x e=>by grind,S.cell],r.same sm λ_ h=>h]
   .rcases cC.mp mb with rfl|mb
    .exact(S.nM m).2
    grind
   .rcases cC.mp mb with rfl|mb
    .exact r.nt
    .exact S.dom b mb
  |ce n=>exact#[S.none,r]
  |sc ns=>obtain⟨a,e,q⟩:=r;exact#[S.none,a,e,wN.seq q]
  |ks ns=>obtain⟨a,e,q⟩:=r;exact#[S.none,a,e,wN.Fx q]
  |tp=>trivial
 trivial
theorem acO{K:aU}{f:FE}(w:∀σ H Q,tE K f σ H Q->t σ H Q):∀D σ H,tS K (dY i f) D σ H->zm t (vH i) D σ H:=by
 rintro D σ H ⟨Z,Θ,aj,C,fl,bw,C',S,hf,q⟩;unfold dY at hf;refine hide λh c=>?_
 split at hf
 .rename_i r e1 C1 h1;cases(hf);refine c (w _ _ _ #[Z,Θ,_,C,r,e1,C',S,h1,λv H1 k f R=>q Θ _ H1 #[jh.refl _ _,o8 k,λa m=>?_,R.set]]);rcases sV m with m|⟨⟨d,e⟩,e2⟩
  .exact .inl (f.own.subset m)
  .subst e
   obtain⟨b,g,n,_⟩:=R
   grind
 trivial
theorem jV(a:017)(hi:X.N[i]?=aa x)(c:Loc X.env.scope x)(d:PE X e (tE X.K f))(b:lG e (aa (.Name x pos')) pos.line X.env=pure aH:=by rfl)(g:X.fn x=aq\/X.env.scope.names.lookup x=aa .local:=by first|exact .inl rfl|exact .inr rfl|assumption):
  PS X (.Assign [.Name x pos'] e pos) (tS X.K (dY i f)):=(Az a hi c d b g).weak (acO λ_ _ _ h=>h)
end
abbrev FG:=aB->En->Option En
abbrev Kl:=List aB->En->Option En
def Gi(K:aU)(g:TG)(fg:FG):Prop:=∀(Z Θ:015)(aj:En)(C:Ce)(σ:St)(H:Hp)(v:V)(d:aB)(bw:En),Sm K Z Θ aj C σ H->RZ (er (bF Z Θ aj σ) H) d v->fg d aj=aa bw->
 ∀Q:St->Hp->Prop,(∀F',Sm K Z Θ bw C F' H->(∀a∈cB bw F',a∈cB aj σ)->Q F' H)->g v σ H Q
def QL(K:aU)(g:zJ)(fg:Kl):Prop:=∀(Z Θ:015)(aj:En)(C:Ce)(σ:St)(H:Hp)(vs:012)(ds:016)(bw:En),Sm K Z Θ aj C σ H->cF (er (bF Z Θ aj σ) H) ds vs->fg ds aj=aa bw->
 ∀Q:St->Hp->Prop,(∀F',Sm K Z Θ bw C F' H->(∀a∈cB bw F',a∈cB aj σ)->Q F' H)->g vs σ H Q
noncomputable def bZ (i:Nat):FG:=λd aj=>aa (aj.set i (aa (.im d)))
def mY:Kl:=λds aj=>match ds with
 |[]=>aa aj
 |_=>ao
def cU(g:FG)(u:Kl):Kl:=λds aj=>match ds with
 |d::r=>match g d aj with
  |some e1=>u r e1
  |none=>ao
 |[]=>ao
def nD(n:Nat)(u:Kl):FG:=λd aj=>match d with
 |.tuple ds=>if ds.length=n then u ds aj else ao
 |_=>ao
theorem aeJ(h:∀a∈cB e1 F1,a∈cB aj σ):cT (er (bF Z Θ aj σ) H) (er (bF Z Θ e1 F1) H):=uo λb m=>by grind
section
variable{K:aU}
theorem gY:Gi K (vH i) (bZ i):=by
 intro Z Θ aj C σ H v d bw S r e Q q;cases e;refine q _ (S.rK (λ_ z=>nomatch z) r) λa m=>?_
 rcases sV m with m|⟨⟨_,z⟩,_⟩
 .exact m
 trivial
theorem IK:QL K af6 mY:=by
 intro Z Θ aj C σ H vs ds bw S r e Q q;unfold mY at e;split at e
 .cases e
  exact#[r,q _ S λ_ m=>m]
 lia
theorem kE(h:Gi K g fg)(c:QL K u fu):QL K (afw g u) (cU fg fu):=by
 intro Z Θ aj C σ H vs ds bw S r e Q q;unfold cU at e;refine hide λk j=>?_
 split at e
 .rename_i d i
  obtain⟨v,ws,rfl,f,b⟩:=r
  split at e
  .rename_i e1 h1;exact j (#[v,ws,rfl,h Z Θ _ C σ H v d e1 S f h1 _ λF1 S1 o1=>(c Z Θ e1 C F1 H ws i _ S1 (b.same (aeJ o1)) e Q λF2 S2 o2=>q F2 S2 λa m=>o1 a (o2 a m))])
  lia
 lia
theorem Jk(b:QL K u fu):Gi K (af7 K n u) (nD n fu):=by
 intro Z Θ aj C σ H v d bw S r e Q q;unfold nD at e;split at e
 .rename_i ds;split at e
  .rename_i f
   obtain⟨a,vs,rfl,c,r⟩:=r
   exact#[a,vs,rfl,dH.of (gW c),(jL r).trans f,b Z Θ _ C σ H vs ds _ S r e Q q]
  lia
 trivial
end
def vM(f:FE)(g:FG):FS:=λaj C=>match f aj C with
 |some (r,e1,C1)=>match still r with
  |.im d=>match g d e1 with
   |some e2=>aa (.nx,e2,C1)
   |none=>ao
  |_=>ao
 |none=>ao
theorem Res.uz{K:aU}{aj:En}{C:Ce}{σ:St}{H H':Hp}{r:Vl}{v:V}(h:Res K Z Θ aj C σ H H' r v)(e:L2.still r=.im d):Sm K Z Θ aj C σ H'/\RZ (er (bF Z Θ aj σ) H') d v:=by
 have g:=h.still
 rwa [e] at g
section
variable{pos:Pos}
theorem aeK{tg e:Expr}{f:FE}{g:TG}{fg:FG}(n:PE X e (tE X.K f))(l:PG X tg g)(L:Gi X.K g fg)(h:z8 [tg] e pos.line X.env=pure aH:=by rfl)(p:z9 [tg] e X.env=pure ao:=by rfl)(h1:(vg [tg] X.env).map (·.2)=[assign tg X.env]:=by rfl):
  PS X (.Assign [tg] e pos) (tS X.K (vM f fg)):=(Xw n l h p h1).weak λD σ H aV=>by
 refine hide λu j=>?_
 obtain⟨Z,Θ,aj,C,t,bw,C',S,b,q⟩:=aV
 unfold vM at b;split at b
 .rename_i r e1 C1 h1;split at b
  .rename_i d s;split at b
   .rename_i h2;cases(b);refine j (#[Z,Θ,_,C,r,e1,C',S,h1,λv H1 k f R=>?_])
    obtain⟨c,i⟩:=R.uz s
    exact L Z Θ e1 C' σ H1 v d _ c i h2 _ λF' S' o=>q Θ F' H1 #[jh.refl _ _,o8 k,λa m=>.inl (f.own.subset (o a m)),S']
   lia
  lia
 trivial
end
inductive yX(K:aU)(E H:Hp)(Θ:List az):List az->List Vl->List V->Prop
 |nil:yX K E H Θ [] [] []
 |cons {as:015} {x:Vl} {v:V} {xs:List Vl} {vs:012}:xF K E Θ x v->yX K E H Θ as xs vs->yX K E H Θ as (x::xs) (v::vs)
 |own {as:015} {a:az} {d:aB} {xs:List Vl} {vs:012}:lO E H a d->yX K E H Θ as xs vs->yX K E H Θ (as++[a]) (.ow d::xs) (.ref a::vs)
inductive CP(K:aU)(f:FA)(σ:St)(H:Hp)(Q:List V->Hp->Prop):Prop
 |mk (Z Θ:015) (aj:En) (C:Ce) (xs:List Vl) (bw:En) (C':Ce) (S:09) (hf:f aj C=aa (xs,bw,C')) (q:∀vs as H',bh Θ H H'->Fz aj bw->(∀a∈as,H a=ao)->Sm K (as++Z) Θ bw C' σ H'->yX K (er (bF (as++Z) Θ bw σ) H') H' Θ as xs vs->Q vs H'):CP K f σ H Q
def lK(f:FE)(g:FA):FA:=λaj C=>match f aj C with
 |some (r,e1,C1)=>match g e1 C1 with
  |some (xs,e2,C2)=>aa (r::xs,e2,C2)
  |none=>ao
 |none=>ao
section
variable{K:aU}{C:Ce}{σ:St}{H:Hp}
theorem iy:a∈bF Z Θ aj σ↔a∈Z\/a∈Θ\/a∈cB aj σ:=by grind
theorem Sm.perm(S:09)(p:Z.Perm Z'):Sm K Z' Θ aj C σ H:=by
 have e:er (bF Z Θ _ σ) H=er (bF Z' Θ aj σ) H:=pU λa=>by rw[iy,iy,p.mem_iff]
 refine#[S.len,(ahL _ p).nodup S.nd,λa m=>S.dom a (p.mem_iff.mpr m),λi x h=>?_,S.cell]
 rw[<-e];exact S.slot i x h
end
theorem Jl:PA X [] (CP X.K aQ):=pR.weak λσ H Q aV=>by
 obtain⟨Z,Θ,aj,C,xs,bw,C',S,a,q⟩:=aV
 cases(a);exact q [] [] H 003 010 (λ_ m=>nomatch m) S .nil
theorem sW(h:PE X e (tE X.K f))(A:PA X es (CP X.K g))(y:bI (e::es) X.env=006::bI es X.env:=by rfl):PA X (e::es) (CP X.K (lK f g)):=(pO h A y).weak λσ H Q aV=>by
 refine hide λG F=>?_
 obtain⟨Z,Θ,aj,C,xs,bw,C',S,j,q⟩:=aV
 unfold lK at j;split at j
 .rename_i r e1 C1 h1;split at j
  .rename_i ys e2 C2 h2;cases(j);refine F (#[Z,Θ,_,C,r,e1,C1,S,h1,λv H1 s w c=>?_]);have plain:∀{x:Vl},Sm X.K Z Θ e1 C1 σ H1->xF _ _ Θ x v->r=x->CP _ g σ H1 λxs H2=>Q (v::xs) H2:=λ{x} i a1 ex=>by
    subst ex
    refine#[Z,Θ,e1,C1,ys,_,C',i,h2,λvs t H2 k l n2 p u=>q _ t H2 (s.trans k) (w.trans l) (λa m=>s.none (n2 a m)) p (.cons (a1.same (jN k i.qN λa m=>?_)) u)]
    rcases dU.mp m with m|m
    .grind
    .exact .inl (l.sub a (fJ _ m))
   cases r with
   |im d=>exact plain (x:=.im d) c.1 c.2 rfl
   |ce n=>exact plain (x:=.ce n) c.1 c.2 rfl
   |sc ns=>exact plain (x:=.sc ns) c.1 c.2 rfl
   |ks ns=>exact plain (x:=.ks ns) c.1 c.2 rfl
   |tp=>exact c.elim
   |ow d=>
    obtain⟨a,rfl,I,i,B⟩:=c
    refine#[_,Θ,e1,C1,ys,_,C',i,h2,λvs t H2 k l n2 p u=>?_]
    have D:t++a::Z=(t++[a])++Z:=by rw[iK];rfl
    rw[D] at p u;have E:=λm=>(i.cQ.2.2.2 a cR) m
    refine q _ _ H2 (s.trans k) (w.trans l) (λb m=>?_) p (.own (B.same (jN k i.qN λb m=>?_) λo z=>k.keep _ _ z E) u)
    .rcases dU.mp m with m|m
     .exact s.none (n2 b m)
     .rwa [gB.mp m]
    .rcases dU.mp m with m|m
     .grind
     .exact .inl (l.sub b (fJ _ m))
  .cases(j)
 .cases(j)
noncomputable def setM {α:Type}:List Nat->List α->List (Option α)->List (Option α)
 |i::is,x::xs,e=>setM is xs (e.set i (aa x))
 |_,_,e=>e
theorem adO{K:aU}{H:Hp}{E:Hp}:∀{e:015}{xs:List Vl}{vs:012},yX K E H Θ e xs vs->∀{c:List Nat}{aj:En}{σ:St},c.length=xs.length->cT E (er (bF (e++Z) Θ aj σ) H)->Sm K (e++Z) Θ aj C σ H->
  Sm K Z Θ (setM c xs aj) C (setM c vs σ) H/\∀a∈cB (setM c xs aj) (setM c vs σ),a∈cB aj σ\/a∈e:=by
 intro e xs vs h;induction h with
 |nil=>
  intro c aj σ f _ S;cases c with
  |nil=>exact#[S,λa m=>.inl m]
  |cons _ _=>cases f
 |@cons e x v xs vs a1 _ ih=>
  intro c aj σ f sm S;cases c with
  |nil=>cases f
  |cons i c=>
   have p:∀d,x≠.ow d:=λd z=>by subst z;exact a1
   have sl:BR K (er (bF (e++Z) Θ aj σ) H) H Θ x v:=by
    have g:=a1.same sm;cases x with
    |im d=>exact g
    |ow d=>exact absurd rfl (p d)
    |ce n=>exact g
    |sc ns=>exact g
    |ks ns=>exact g
    |tp=>exact g
   have k:Sm K _ Θ _ C (σ.set i _) H:=S.rK p sl;have o:∀b∈cB _ (σ.set i (aa v)),b∈cB aj σ:=λb m=>by
    rcases sV m with m|⟨⟨d,z⟩,_⟩
    .exact m
    .exact absurd z (p d)
   obtain⟨j,l⟩:=ih (by simpa using f) (sm.trans (aeJ o)) k
   refine#[j,λb m=>?_]
   rcases l b m with m|m
   .exact .inl (o b m)
   .exact .inr m
 |@own e a d xs vs r _ ih=>
  intro c aj σ f sm S;cases c with
  |nil=>cases f
  |cons i c=>
   have q:((e++[a])++Z).Perm (a::(e++Z)):=by
    rw[iK];exact List.perm_middle
   have s:=S.perm q;have t:er (bF ((e++[a])++Z) Θ aj σ) H=er (bF (a::(e++Z)) Θ _ σ) H:=pU λb=>by rw[iy,iy,q.mem_iff]
   rw[t] at sm;have k:Sm K _ Θ _ C (σ.set i _) H:=s.agq (r.same sm λ_ h=>h);have o:∀b∈cB (aj.set i (aa (.ow d))) (σ.set i (aa (.ref a))),b∈cB _ σ\/b=a:=λb m=>by
    rcases sV m with m|⟨_,z⟩
    .exact .inl m
    .cases z;exact .inr rfl
   obtain⟨j,l⟩:=ih (by simpa using f) (sm.trans (uo λb m=>by grind)) k
   refine#[j,λb m=>?_]
   rcases l b m with m|m
   .grind
   .exact .inr (jG _ m)
theorem adP{K:aU}{E H:Hp}{vs:012}(h:yX K E H Θ as xs vs):vs.length=xs.length:=by
 induction h with
 |nil=>rfl
 |cons _ _ ih=>grind
 |own _ _ ih=>grind
def p8(is:List Nat)(g:FA):FS:=λaj C=>match g aj C with
 |some (xs,e1,C1)=>if is.length=xs.length/\xs.length<=eE then aa (.nx,setM is xs e1,C1) else ao
 |none=>ao
theorem XR{kt k2 qg}(u:011)(t:017)(hi:X.N[i]?=aa x)(A:X.N[j]?=aa y)(d:i≠j)
  (B:X.env.scope.names.lookup x=aa .local)(p:X.env.scope.names.lookup y=aa .local)(l:PA X [a,b] (CP X.K g))
  (E:z9 [.Tuple [.Name x px,.Name y py] kt pt] (.Tuple [a,b] k2 qg) X.env=pure (aa [x,y]))
  (n:z8 [.Tuple [.Name x px,.Name y py] kt pt] (.Tuple [a,b] k2 qg) pos.line X.env=pure aH:=by rfl):
  PS X (.Assign [.Tuple [.Name x px,.Name y py] kt pt] (.Tuple [a,b] k2 qg) pos) (tS X.K (p8 [i,j] g)):=(aps u t hi A d B p l E n).weak λD σ H aV=>by
 refine hide λJ z=>?_
 obtain⟨Z,Θ,aj,C,G,bw,C',S,c,q⟩:=aV
 unfold p8 at c;split at c
 .rename_i xs e1 C1 h1;split at c
  .rename_i s;cases(c);refine z (#[Z,Θ,_,C,xs,e1,C',S,h1,λvs I H1 o f n1 k e=>?_]);have F:=adP e
   obtain⟨h,r⟩:=adO e s.1 (cT.refl _) k
   have e2:∃v w,vs=[v,w]:=by
    have:vs.length=2:=by grind
    match vs,this with
    |[v,w],_=>grind
   obtain⟨v,w,rfl⟩:=e2
   refine#[v,w,rfl,q Θ _ H1 #[jh.refl _ _,o8 o,λb m=>?_,h]]
   rcases r b m with m|m
   .exact .inl (f.own.subset m)
   grind
  lia
 trivial
theorem acP:∀{aj:En}{σ:St}{i:Nat}{d d':aB},aj[i]?=aa (aa (.ow d))->cB (aj.set i (aa (.ow d'))) σ=cB aj σ
 |[],σ,i,d,d',h=>rfl
 |x::e,[],i,d,d',h=>by cases i<;>rfl
 |x::e,v::s,0,d,d',h=>by
  simp at h;subst h;rcases v with _|v
  .rfl
  .cases v<;>rfl
 |x::e,v::s,i+1,d,d',h=>by
  show own1 x v++cB _ s=own1 x v++cB e s;rw[acP (by trivial)]
section
variable{K:aU}{aj:En}{C:Ce}{σ:St}{H:Hp}{a:az}{i:Nat}{o:HO}
theorem Oj(h:a∈P):er P (upd H a o)=er P H:=by
 funext b;unfold er;by_cases c:b=a
 .grind
 .rw[c7 c]
theorem Sm.write(S:09)(e1:aj[i]?=aa (aa (.ow d)))(e2:σ[i]?=aa (aa (.ref a)))(r:lO (er (bF Z Θ aj σ) H) (upd H a o) a d'):fH K Z Θ aj σ H Θ (aj.set i (aa (.ow d'))) C σ (upd H a o):=by
 have m:=mV.mpr #[i,d,e1,e2];have no:=S.nM m;have p:cB (aj.set i (aa (.ow d'))) σ=cB _ σ:=acP e1;have g:a∈bF Z Θ _ σ:=fJ _ (fJ _ m);have ep:bF Z Θ (aj.set i (aa (.ow d'))) σ=bF Z Θ aj σ:=by lia
 refine#[jh.refl _ _,#[λb u e n=>?_,λb e=>?_],λb mb=>.inl 002,#[by rw[wD];exact S.len,by rw[ep];exact S.nd,λb mb=>?_,λj y c=>?_,S.cell.keep (λb vs e=>?_) λb mb u e=>?_]]
 .rwa [c7 (λz=>n (fJ _ (by lia)))]
 .by_cases z:b=a
  .subst z;rw[fK];grind
  .rwa [c7 z]
 .rw[c7 (λz=>no.1 002)];exact S.dom b mb
 .rw[ep,Oj g];rcases get_set c with⟨rfl,ex,hl⟩|⟨n,c⟩
  .cases ex
   exact#[_,e2,a,rfl,r]
  .obtain⟨v,f,h⟩:=S.slot j y c
   refine#[v,f,h.same (cT.refl _) λq b ex l u k=>?_]
   subst ex l;rw[c7]
   .trivial
   .intro z;subst z;exact n (Iv S.cQ.2.2.1 c f e1 e2)
 .rw[c7]
  .trivial
  .intro z;subst z
   obtain⟨u,k,nt⟩:=S.oN b g
   grind
 .rwa [c7 (λz=>no.2 002)]
end
def xH:Option (Option Vl)->Bool
 |some (some (.ow (.list _)))=>aq
 |_=>aH
def vN(i:Nat)(f:FE):FS:=λaj C=>if xH aj[i]? then match f aj C with
  |some (r,e1,C1)=>match still r,e1[i]? with
   |.im d,some (some (.ow (.list ds)))=>if ds.length<eE then aa (.nx,e1.set i (aa (.ow (.list (ds++[d])))),C1) else ao
   |_,_=>ao
  |none=>ao
 else ao
theorem acQ(h:xH x=aq):∃ds,x=aa (aa (.ow (.list ds))):=by
 unfold xH at h
 grind
section
variable{X:Cx}{pos:Pos}
theorem Ol(A:PE X o (jx i))(I:PE X e (tE X.K f))
  (p:lG (.Call (.Attribute o "append" apos) [e] [] cpos) ao pos.line X.env=pure aH:=by rfl)
  (b:sE o "append" X.env (eval o X.env)=eval o X.env:=by rfl)
  (h:((eN cpos (bI [e] X.env)).all (λx=>!x.1)&&(pN cpos (pL [] X.env)).all (λx=>x.1.isSome)
   &&decide (([e]:List Expr).length+([]:List pP).length+(if([]:List pP).isEmpty then 0 else 1)<30))=aq:=by rfl)
  (c:(apos.endLine==cpos.line)=aq:=by rfl)(z:bI [e] X.env=006::bI [] X.env:=by rfl)(hplain:(eN cpos (bI [] X.env)).any (·.1)=aH:=by rfl):
  PS X (.Expr (.Call (.Attribute o "append" apos) [e] [] cpos) pos) (tS X.K (vN i f)):=
 (Aq (Ew Kz KZ RQ (uO.r HD) A (pO I pR z) b h c z hplain) p).weak λD σ H aV=>by
  refine hide λG t=>?_
  obtain⟨Z,Θ,aj,C,L,bw,C',S,g,q⟩:=aV
  unfold vN at g;split at g
  .rename_i u
   obtain⟨N,u⟩:=acQ u
   obtain⟨M,n,a,rfl,E,s,O⟩:=S.slot i _ u
   split at g
   .rename_i r e1 C1 h1;split at g
    .rename_i d ds J hi;split at g
     .rename_i B;cases(g);refine t (#[_,n,.inl #[rfl,E,b7.of s],Z,Θ,aj,C,r,e1,C',S,h1,λv H1 k f R=>(hide λG t=>?_)])
      obtain⟨l,F⟩:=R.uz J
      obtain⟨Q,j,P,K,vs,m,y⟩:=l.slot i _ hi
      subst K;rw[n] at j;cases(j);refine t (#[a,vs,v,rfl,rfl,m,by rw[jL y,iw];unfold eE at B;lia,?_]);have w:fH _ Z Θ e1 σ H1 Θ (e1.set i (aa (.ow (.list (ds++[d]))))) C' σ _:=l.write hi n #[_,fK,yG y #[v,[],rfl,F,rfl]];exact q Θ σ _ ((fH.qO k f l).trans w)
     trivial
    lia
   trivial
  trivial
def BW{κ:Type}[DecidableEq κ](f:aB->Option κ)(k:κ)(dk d:aB)(au:List (aB×aB)):List (aB×aB):=
 if(au.any λp=>decide (f p.1=aa k))=aq then au.map (λp=>if f p.1=aa k then(p.1,d) else p) else au++[(dk,d)]
def putD(au:List (aB×aB))(dk d:aB):Option (List (aB×aB)):=match fL dk with
 |some k=>if(cj fL au).isSome then aa (BW fL k dk d au) else ao
 |none=>match iJ dk with
  |some ks=>if(cj iJ au).isSome then aa (BW iJ ks dk d au) else ao
  |none=>ao
theorem adQ[DecidableEq κ]:∀{au:List (aB×aB)}{ks:List κ}{vs:012},cj f au=aa ks->iZ E au vs->(au.any λp=>decide (f p.1=aa k))=((ks.zip vs).any λa=>decide (a.1=k))
 |[],ks,vs,h,r=>by
  cases h;rfl
 |(p,d)::au,ks,vs,h,r=>by
  unfold cj at h;split at h
  .rename_i t h1 h2;cases h
   obtain⟨v,w,rfl,q,s⟩:=r
   show(decide _||_)=(decide _||_)
   rw[adQ h2 s];congr 1;simp_all
  lia
theorem adR[DecidableEq κ](g:RZ E d v):∀{au:List (aB×aB)}{ks:List κ}{vs:012},cj f au=aa ks->iZ E au vs->
  ∃a,cj f (au.map λp=>if f p.1=aa k then(p.1,d) else p)=aa ks/\iZ E (au.map λp=>if f p.1=aa k then(p.1,d) else p) a/\ks.zip a=(ks.zip vs).map λc=>if c.1=k then(c.1,v) else c
 |[],ks,vs,h,r=>by
  cases h
  exact#[[],rfl,rfl,rfl]
 |(p,e)::au,ks,vs,h,r=>by
  unfold cj at h;split at h
  .rename_i l t h1 h2;cases h
   obtain⟨u,w,rfl,q,s⟩:=r
   obtain⟨a,m,j,n⟩:=adR (k:=k) g h2 s
   have b:=h1;by_cases i:l=k
   .subst i
    refine#[v::a,?_,?_,?_]
    .rw[cM];rw[bG b];unfold cj
     grind
    .rw[cM];rw[bG b]
     exact#[v,_,rfl,g,j]
    simp_all
   .have ne:=λz=>i (lY (b.symm.trans z))
    refine#[u::a,?_,?_,?_]
    .rw[cM];rw[bK ne];unfold cj
     grind
    .rw[cM];rw[bK ne]
     exact#[u,_,rfl,q,j]
    simp_all
  lia
theorem acR{f:aB->Option κ}{k:κ}{E:Hp}{v:V}(b:f dk=aa k)(a:RZ E d v):∀{au:List (aB×aB)}{ks:List κ}{vs:012},cj f au=aa ks->iZ E au vs->
  cj f (au++[(dk,d)])=aa (ks++[k])/\iZ E (au++[(dk,d)]) (vs++[v])/\(ks++[k]).zip (vs++[v])=ks.zip vs++[(k,v)]
 |[],ks,vs,h,r=>by
  cases h
  cases(r)
  refine#[?_,#[v,[],rfl,a,rfl],rfl]
  unfold cj cj
  grind
 |(p,e)::au,ks,vs,h,r=>by
  unfold cj at h;split at h
  .rename_i t h1 h2;cases h
   obtain⟨u,w,rfl,q,s⟩:=r
   obtain⟨g,c,i⟩:=acR b a h2 s
   refine#[?_,#[u,_,rfl,q,c],?_]
   .unfold cj;simp_all
   simp_all
  trivial
theorem Wz{κ:Type}[DecidableEq κ]{f:aB->Option κ}{k:κ}{E:Hp}{dk d:aB}{v:V}(j:f dk=aa k)(g:RZ E d v){au:List (aB×aB)}{ks:List κ}{vs:012}(h:cj f au=aa ks)(r:iZ E au vs):
  ∃b a,cj f (BW f k dk d au)=aa b/\iZ E (BW f k dk d au) a/\b.zip a=putK (ks.zip vs) k v:=by
 unfold BW putK;rw[adQ h r];split
 .obtain⟨a,c,i,e⟩:=adR g h r
  exact#[ks,_,c,i,e]
 .obtain⟨c,i,e⟩:=acR j g h r
  grind
theorem set_dict(c:X.A.units+2<fD):xO X (λo i v H Q=>∃a H',o=.ref a/\tH H a i v H'/\∀e,Q (H' e)):=by
 intro aA s σ H o i v l k u Q I d f b h
 obtain⟨a,H',rfl,g,q⟩:=h
 cases d;exact abS c I g f b λe s' j=>#[_,j,q e]
theorem alc(j:X.A.units+2<fD):xO X (λo i v H Q=>∃(a b:az)(ks:TK),o=.ref a/\(∃ep,H a=aa (.dK [] ep))/\i=.ref b/\jO H b ks/\∀e,Q (upd H a (.dT [(ks,v)] e))):=by
 intro aA s σ H o i v w r u Q I l m g h;refine hide λt n=>?_
 obtain⟨a,b,ks,rfl,⟨ep,f⟩,rfl,k,q⟩:=h
 cases l;have d:jO (upd H a (.dT [] ep)) b ks:=k.mono λc xs e=>by rwa [c7 (Jw e f (λz=>nomatch z))]
 refine n (abS j (I.Kf f) (tH.t fK d aP) m g λe s' p=>#[_,p,?_]);rw[Wk];exact q e
theorem xO.or(h:xO X t)(h':xO X t'):xO X (λo i v H Q=>t o i v H Q\/t' o i v H Q):=by
 intro aA s σ H o i v b e u Q I c d a q;rcases q with q|q
 .exact h _ s σ H o i v b e u Q I c d a q
 .exact h' _ s σ H o i v b e u Q I c d a q
theorem adS(c:X.A.units+2<fD):xO X (λo i v H Q=>(Yo o i v H Q\/∃a H',o=.ref a/\tH H a i v H'/\∀e,Q (H' e))\/∃(a b:az)(ks:TK),o=.ref a/\(∃ep,H a=aa (.dK [] ep))/\i=.ref b/\jO H b ks/\∀e,Q (upd H a (.dT [(ks,v)] e))):=
 (set_list.or (set_dict c)).or (alc c)
def EY:Option (Option Vl)->Bool
 |some (some _)=>aq
 |_=>aH
theorem aoh(h:EY x=aq):∃y,x=aa (aa y):=by
 unfold EY at h
 grind
def kW:Option Cl->Option (List Ci)
 |some (.lst xs)=>aa xs
 |_=>ao
def xU(i:Nat)(d dk:aB)(e:En)(C:Ce):Option Vl->Option (Fl×En×Ce)
 |some (.ow (.list ds))=>(intD dk).bind λz=>(nu ds.length z).bind λj=>aa (.nx,e.set i (aa (.ow (.list (ds.set j d)))),C)
 |some (.ow (.dict au))=>(putD au dk d).bind λkvs'=>bif decide (au.length<eE) then aa (.nx,e.set i (aa (.ow (.dict kvs'))),C) else ao
 |some (.ce n)=>(intD dk).bind λz=>(kW C[n]?).bind λxs=>(nu xs.length z).bind λj=>if fU d=aq then aa (.nx,e,C.set n (.lst (xs.set j (.dat d)))) else ao
 |_=>ao
def JV(i:Nat)(fk:FB)(fe:FE):FS:=λaj C=>(fe aj C).bind λp=>(vV (still p.1)).bind λd=>(fk p.2.1 p.2.2).bind λk=>bif EY p.2.1[i]? then(k.2.1[i]?).bind (xU i d k.1 k.2.1 k.2.2) else ao
def Fb(o i v:V)(H:Hp)(Q:Hp->Prop):Prop:=(Yo o i v H Q\/∃a H',o=.ref a/\tH H a i v H'/\∀e,Q (H' e))\/∃(a b:az)(ks:TK),o=.ref a/\(∃ep,H a=aa (.dK [] ep))/\i=.ref b/\jO H b ks/\∀e,Q (upd H a (.dT [(ks,v)] e))
section
variable{K:aU}{e2:En}{C2:Ce}{σ:St}{H2:Hp}{i:Nat}{d dk:aB}{v w:V}{a:az}{R:Hp->Prop}
theorem amw(h:Sm K Z Θ e2 C2 σ H2)(n:σ[i]?=aa (aa (.ref a)))(hi:e2[i]?=aa (aa (.ow (.list ds))))(rt:lO (er (bF Z Θ e2 σ) H2) H2 a (.list ds))(g:RZ (er (bF Z Θ e2 σ) H2) d v)(l:gw Z Θ e2 σ H2 dk w)(b:xU i d dk e2 C2 (aa (.ow (.list ds)))=aa p):
  p.1=.nx/\((∀e,fH K Z Θ e2 σ H2 Θ p.2.1 p.2.2 σ e->R e)->Fb (.ref a) w v H2 R):=by
 refine hide λr k=>?_
 obtain⟨z,c,b⟩:=bW b
 obtain⟨j,o,b⟩:=bW b
 cases b;have c:=Ww c;subst c
 obtain⟨vs,m,f⟩:=rt
 subst l;exact k (#[rfl,λq=>.inl (.inl #[a,vs,z,j,rfl,rfl,m,by rwa [jL f],q _ (h.write hi n #[_,fK,adJ g j f])])])
theorem adT(au:List (aB×aB)):BW iJ ks0 dk d au≠[]:=λz=>by
 unfold BW at z;split at z
 .simp_all
 simp_all
theorem amx{au:List (aB×aB)}(x:Sm K Z Θ e2 C2 σ H2)(B:σ[i]?=aa (aa (.ref a)))(hi:e2[i]?=aa (aa (.ow (.dict au))))(rt:lO (er (bF Z Θ e2 σ) H2) H2 a (.dict au))(u:RZ (er (bF Z Θ e2 σ) H2) d v)(I:gw Z Θ e2 σ H2 dk w)(j:xU i d dk e2 C2 (aa (.ow (.dict au)))=aa p):
  p.1=.nx/\((∀F,fH K Z Θ e2 σ H2 Θ p.2.1 p.2.2 σ F->R F)->Fb (.ref a) w v H2 R):=by
 refine hide λN D=>?_
 obtain⟨J,f,j⟩:=bW j
 cases n:decide (au.length<eE) with
 |false=>rw[n] at j;cases j
 |true=>
 rw[n] at j;cases j;have n:=of_decide_eq_true n;have o:∀{κ:Type}(ks:List κ)(vs:012),ks.length=au.length->(ks.zip vs).length<cz:=λks vs e=>by
  rw[G4,iw];unfold eE at n;lia
 obtain⟨vs,G,y⟩:=rt
 unfold putD at f;split at f
 .rename_i k A;split at f
  case isFalse=>cases f
  rename_i g;cases f;have L:w=kV k:=by
   cases dk<;>first|(cases A;exact I)|cases A
  rcases G with⟨ks,c,ep,ha⟩|⟨ks,⟨ne,C⟩,ha⟩
  .obtain⟨s,r,l,m,t⟩:=Wz A u c y
   subst L;exact D #[rfl,λq=>.inl (.inr #[a,_,rfl,tH.k ha (o ks vs (sS c)),λe=>q _ (x.write hi B #[_,.inl #[_,l,e,by rw[t];exact fK],m])])]
  .obtain⟨z,c⟩:=uY.mp g
   exact absurd (vp c C) ne
 .split at f
  case h_2=>cases f
  rename_i M h;split at f
  case isFalse=>cases f
  rename_i g;cases f
  obtain⟨b,E,rfl⟩:=VJ h I
  rcases G with⟨ks,c,ha⟩|⟨ks,⟨ne,c⟩,ep,ha⟩
  .obtain⟨z,C⟩:=uY.mp g
   have H:=vp c C;subst H;cases c;have H:=y
   obtain⟨s,r,l,m,t⟩:=Wz (au:=[]) h u rfl rfl
   exact D #[rfl,λq=>.inr #[a,b,_,rfl,ha,rfl,E,λe=>q _ (x.write hi B #[_,.inr #[_,#[adT [],l],e,by rw[t];exact fK],m])]]
  .obtain⟨s,r,l,m,t⟩:=Wz h u c y
   exact D #[rfl,λq=>.inl (.inr #[a,_,rfl,tH.t ha E (o ks vs (sS c)),λe=>q _ (x.write hi B #[_,.inr #[_,#[adT _,l],e,by rw[t];exact fK],m])])]
theorem gm.len:∀{xs:List Ci}{vs:012},gm Θ H xs vs->vs.length=xs.length
 |[],vs,h=>by rw[h];rfl
 |x::xs,vs,h=>by
  obtain⟨v,r,rfl,_,s⟩:=h
  rw[iM,iM,s.len]
theorem gm.at:∀{xs:List Ci}{vs:012}{j:Nat}{x:Ci},gm Θ H xs vs->xs[j]?=aa x->∃v,vs[j]?=aa v/\ni Θ H x v
 |[],_,j,x,_,e=>by grind
 |y::xs,vs,j,x,h,e=>by
  obtain⟨v,r,rfl,q,s⟩:=h
  cases j with
  |zero=>grind
  |succ j=>
   obtain⟨w,h1,h2⟩:=s.at (by trivial)
   simp_all
theorem gm.set(a:ni Θ H y w):∀{xs:List Ci}{vs:012}(j:Nat),gm Θ H xs vs->gm Θ H (xs.set j y) (vs.set j w)
 |[],vs,j,h=>by rw[h];rfl
 |x::xs,vs,j,h=>by
  obtain⟨v,r,rfl,q,s⟩:=h
  cases j with
  |zero=>exact#[w,r,rfl,a,s]
  |succ j=>exact#[v,_,rfl,q,s.set a j]
theorem gP.write(k:gP Θ C H)(s:Θ.Nodup)(d:Θ[n]?=aa a)(w:∀H',(∀a vs,H a=aa (.tup vs)->H' a=aa (.tup vs))->H' a=aa o->lR Θ H' a c):gP Θ (C.set n c) (upd H a o):=by
 have y:=jY d;have p:∀b vs,H b=aa (.tup vs)->upd H a o b=aa _:=λb vs B=>by
  rw[c7]
  .trivial
  .intro z;subst z
   obtain⟨u,t,nt⟩:=k.dom b y
   grind
 refine#[by rw[wD];exact k.len,λm b x g i=>?_]
 rcases get_set i with⟨rfl,e6,_⟩|⟨nm,i⟩
 .rw[d] at g;cases g;cases e6;exact w _ p fK
 .refine(k.at_ m b x g i).keep p (λ_ _ h=>h) λu t=>?_
  rw[c7]
  .trivial
  .intro A;subst A
   obtain⟨q,f⟩:=jk.mp g
   obtain⟨r,e⟩:=jk.mp d
   rcases Nat.lt_trichotomy m n with j|v|l
   .exact RL.mp s m n q r j (f.trans e.symm)
   .lia
   .exact RL.mp s n m r q l (e.trans f.symm)
theorem bh.cell(f:a∈Θ):bh Θ H (L2.upd H a o):=⟨λb u e d=>by rwa [c7 (λc=>d (by rw[c];exact f))],λb e=>by
  by_cases c:b=a
  .subst c;rw[fK];grind
  .rwa [c7 c]⟩
theorem amy(k:Sm K Z Θ e2 C2 σ H2)(e:Θ[n]?=aa a)(y:RZ (er (bF Z Θ e2 σ) H2) d v)(B:gw Z Θ e2 σ H2 dk w)(b:xU i d dk e2 C2 (aa (.ce n))=aa p):
  p.1=.nx/\((∀t,fH K Z Θ e2 σ H2 Θ p.2.1 p.2.2 σ t->R t)->Fb (.ref a) w v H2 R):=by
 refine hide λD C=>?_
 obtain⟨z,o,b⟩:=bW b
 obtain⟨xs,f,b⟩:=bW b
 obtain⟨j,E,b⟩:=bW b
 split at b
 case isFalse=>lia
 rename_i g;cases b;have o:=Ww o;subst o;subst B;have l:C2[n]?=aa (.lst xs):=by
  cases hc:C2[n]? with
  |none=>rw[hc] at f;trivial
  |some c=>
   rw[hc] at f;cases c with
   |lst ys=>cases f;rfl
   |b8 au=>trivial
   |uR=>trivial
   |obj=>trivial
 obtain⟨vs,A,s⟩:=k.cell.at_ n a _ e l
 have u:=jY e;have x:=y.same (sZ _ _);refine C #[rfl,λq=>.inl (.inl #[a,_,z,j,rfl,rfl,A,by rwa [s.len],q _ (fH.qO (bh.cell u) 010 (k.go (bh.cell u) (k.cell.write k.cQ.2.1 e λH' r m=>#[_,m,gm.set (show ni _ _ (.dat d) v from#[g,RZ.fU r g x]) j (s.keep r λ_ _ h=>h)])))])]
theorem aoi(c:Sm K Z Θ e2 C2 σ H2)(h:σ[i]?=aa (aa u))(hi:e2[i]?=aa s)(e:RZ (er (bF Z Θ e2 σ) H2) d v)(f:gw Z Θ e2 σ H2 dk w)(j:xU i d dk e2 C2 s=aa p):
  p.1=.nx/\((∀k,fH K Z Θ e2 σ H2 Θ p.2.1 p.2.2 σ k->R k)->Fb u w v H2 R):=by
 cases s with
 |none=>trivial
 |some s=>
 obtain⟨m,b,sl⟩:=c.slot i _ hi
 rw[h] at b;cases b;cases s with
 |im _=>trivial
 |sc _=>trivial
 |ks _=>trivial
 |tp=>trivial
 |ce n=>
  obtain⟨a,rfl,g⟩:=sl
  exact amy c g e f j
 |ow x=>
  obtain⟨a,rfl,l⟩:=sl
  cases x<;>first|exact amw c h hi l e f j|exact amx c h hi l e f j|trivial
end
theorem aeL(n:X.A.units+2<fD)(y:PE X o (jx i))(m:PE X k (fM X.K fk))(I:PE X e (tE X.K fe))
  (r:∀v,assign (.Subscript o k p) X.env v=(do
   let ov <-mW [v] (eval o X.env)
   let iv <-mW [v,ov] (eval k X.env)
   nJ p
   mW [v,ov,iv] (Nj ov iv v)
   release [v,ov,iv] []):=by intro _;rfl)
  (x:z8 [.Subscript o k p] e pos.line X.env=pure aH:=by rfl)(J:z9 [.Subscript o k p] e X.env=pure ao:=by rfl)(h1:(vg [.Subscript o k p] X.env).map (·.2)=[assign (.Subscript o k p) X.env]:=by rfl):
  PS X (.Assign [.Subscript o k p] e pos) (tS X.K (JV i fk fe)):=(Xw I (aet (t:=Fb) y m (adS n) r) x J h1).weak λD σ H aV=>by
 refine hide λO G=>?_
 obtain⟨Z,Θ,aj,C,M,bw,C',S,a,q⟩:=aV
 obtain⟨p,h1,a⟩:=bW a
 obtain⟨d,K,a⟩:=bW a
 obtain⟨kp,h2,a⟩:=bW a
 cases b:EY _ with
 |false=>rw[b] at a;lia
 |true=>
 rw[b] at a
 obtain⟨s,hi,a⟩:=bW a
 obtain⟨N,b⟩:=aoh b
 refine G (#[Z,Θ,_,C,_,_,_,S,h1,λv H1 B l E=>?_])
 obtain⟨c,F⟩:=E.uz (Od K)
 obtain⟨u,j,_⟩:=c.slot i _ b
 refine#[u,j,Z,Θ,_,_,_,_,_,c,h2,λw H2 h g f A=>?_]
 obtain⟨z,go⟩:=aoi f j hi (F.same (Ys c h g)) A a
 subst z;exact go λL st=>q Θ σ _ ((fH.qO (B.trans h) (l.trans g) f).trans st)
end
noncomputable def intsOf:List aB->Option (List Int)
 |[]=>aa []
 |.int i::r=>match intsOf r with
  |some t=>aa (i::t)
  |none=>ao
 |_=>ao
theorem MK:∀{ds:016}{ns:List Int}{vs:012},intsOf ds=aa ns->cF E ds vs->vs=ns.map V.int
 |[],ns,vs,h,r=>by cases h;exact r
 |.int i::ds,ns,vs,h,r=>by
  unfold intsOf at h;split at h
  .rename_i a;cases h
   obtain⟨u,w,rfl,q,s⟩:=r
   rw[MK a s];have:=q;rw[this];rfl
  trivial
 |.none::_,_,_,h,_=>by cases h
 |.bool _::_,_,_,h,_=>by cases h
 |.str _::_,_,_,h,_=>by cases h
 |.list _::_,_,_,h,_=>by cases h
 |.tuple _::_,_,_,h,_=>by cases h
 |.dict _::_,_,_,h,_=>by cases h
def FW(i:Nat)(f:FE):FS:=λaj C=>match f aj C with
 |some (.ow (.list ds),e1,C1)=>match intsOf ds with
  |some ns=>aa (.nx,e1.set i (aa (.ce C1.length)),C1++[inC ns])
  |none=>ao
 |_=>ao
section
variable{pos:Pos}
theorem rD{Θ Δ:015}(m:Nat)(b:az)(h:Θ[m]?=aa b):(Θ++Δ)[m]?=aa b:=by grind
theorem gP.more(k:gP Θ C H)(h:lR (Θ++[a]) H a c):gP (Θ++[a]) (C++[c]) H:=by
 have cl:=k.len
 refine#[by grind,λm b x d e=>?_]
 by_cases f:m<Θ.length
 .rw[gK f] at d;rw[gK 002] at e
  exact(k.at_ m b x d e).keep (λ_ _ h=>h) rD λ_ h=>h
 grind
theorem Sm.vC{K:aU}{e1:En}{C1:Ce}{σ:St}{H1:Hp}{c:Cl}(f:Sm K (a::Z) Θ e1 C1 σ H1)(i:lR (Θ++[a]) H1 a c):Sm K Z (Θ++[a]) e1 (C1++[c]) σ H1:=by
 have cQ:=f.cQ;have l:=mU.mp cQ.1;have o:=f.cell.more i;have p:∀b,b∈bF Z (Θ++[a]) e1 σ↔b∈bF (a::Z) Θ e1 σ:=λb=>by grind
 refine#[f.len,CN l.2 ?_ cQ.2.2.1 (λb m=>?_) λb m=>?_,λb m=>f.dom b (dI _ m),λj x e=>?_,o]
 .grind
 .grind
 .obtain⟨p1,p2⟩:=f.nM m
  simp_all
 .obtain⟨v,k,g⟩:=f.slot j x e
  rw[pU p]
  refine#[v,k,?_]
  cases x with
  |im d=>trivial
  |ow d=>trivial
  |ce n=>
   obtain⟨b,h,q⟩:=g
   exact#[b,h,by grind]
  |sc ns=>trivial
  |ks ns=>trivial
  |tp=>exact g
theorem Sm.apW{K:aU}{e1:En}{C1:Ce}{σ:St}{H1:Hp}{a:az}(b:Sm K (a::Z) Θ e1 C1 σ H1)(c:H1 a=aa (.lst (ns.map V.int))):Sm K Z (Θ++[a]) e1 (C1++[inC ns]) σ H1:=b.vC (amn.mpr c)
theorem amz{K:aU}:∀D σ H,tS K (FW i f) D σ H->zm (tE K f) (vH i) D σ H:=by
 rintro D σ H ⟨Z,Θ,aj,C,fl,bw,C',S,hf,q⟩;unfold FW at hf;refine hide λo n=>?_
 split at hf
 .rename_i e1 C1 h1;split at hf
  .rename_i c;cases(hf);refine n (#[Z,Θ,_,C,_,e1,C1,S,h1,λv H1 k f R=>?_])
   obtain⟨a,rfl,p,d,vs,h,r⟩:=R
   have j:=MK c r;subst j;have cl:=d.cell.len;have l:∀b∈cB (e1.set i (aa (.ce C1.length))) (σ.set i (aa (.ref a))),b∈cB e1 σ:=λb m=>by
    rcases sV m with m|⟨⟨_,z⟩,_⟩
    .exact m
    trivial
   have g:=d.apW h;have e:Sm K Z _ (e1.set i (aa (.ce C1.length))) _ _ H1:=
    g.rK (λ_ z=>nomatch z) #[a,rfl,by grind]
   exact q _ _ H1 #[#[_,rfl,λb m=>by grind],o8 k,λb m=>.inl (f.own.subset (l b m)),e]
  lia
 lia
theorem apY(a:017)(hi:X.N[i]?=aa x)(c:Loc X.env.scope x)(d:PE X e (tE X.K f))(b:lG e (aa (.Name x pos')) pos.line X.env=pure aH:=by rfl)(g:X.fn x=aq\/X.env.scope.names.lookup x=aa .local:=by first|exact .inl rfl|exact .inr rfl|assumption):
  PS X (.Assign [.Name x pos'] e pos) (tS X.K (FW i f)):=(Az a hi c d b g).weak amz
end
abbrev FI:=En->Ce->Option (List aB×En×Ce)
def BX(P T:015)(H:Hp)(J:It)(aK:016):Prop:=∀(i:Nat)(H2:Hp)(P2:015),cT (er P H) (er P2 H2)->cT (er T H) (er T H2)->(∀a∈P2,NT (H2 a))->
 (∀d,aK[i]?=aa d->J.go i H2/\∀x H3,J.J6 i H2 x H3->cT H2 H3/\RZ (er P2 H3) d x)/\(i=aK.length->J.stop i H2)
inductive tI(K:aU)(b:Bool)(f:FI)(σ:St)(H:Hp)(R:It->Hp->Prop):Prop
 |mk (Z Θ:015) (aj:En) (C:Ce) (aK:016) (bw:En) (C':Ce) (S:09) (hf:f aj C=aa (aK,bw,C')) (q:∀J H',bh Θ H H'->Fz aj bw->Sm K Z Θ bw C' σ H'->BX (bF Z Θ bw σ) (if b then Θ else bF Z Θ bw σ) H' J aK->R J H'):tI K b f σ H R
theorem PI.weak(h:PI X tg e t)(w:∀σ H Q,t' σ H Q->t σ H Q):PI X tg e t':=λaA s σ H Q I q=>h _ s σ H Q I (w σ H Q q)
theorem PI.or(h:PI X tg e t)(h':PI X tg e t'):PI X tg e (λσ H R=>t σ H R\/t' σ H R):=λaA s σ H R I q=>q.elim (h _ s σ H R I) (h' _ s σ H R I)
section
variable{K:aU}{H:Hp}{a:az}{vs:List V}
theorem Nv(f:er T H a=aa (.lst vs))(r:cF (er P H) ds vs):BX P T H (Zk K a) ds:=λi H2 h s1 e n=>by
 have h2:b7 K H2 a vs:=b7.of (gW (e _ _ f))
 refine#[λd g=>?_,λhi=>#[vs,h2,by rw[jL r];grind]]
 obtain⟨v,b,c⟩:=Ep r g
 refine#[#[vs,v,h2,b],λx j y=>?_]
 obtain⟨rfl,y⟩:=y
 have:=y vs h2;rw[b] at this;cases this
 exact#[cT.refl _,c.same s1]
theorem Om(e:er P H a=aa (.tup vs))(r:cF (er P H) ds vs):BX P T H (Zm K a) ds:=λi H2 h s1 g n=>by
 have h2:dH K H2 a vs:=dH.of (gW (s1 _ _ e))
 refine#[λd f=>?_,λhi=>#[vs,h2,by rw[jL r];grind]]
 obtain⟨v,b,c⟩:=Ep r f
 refine#[#[vs,v,h2,b],λx j y=>?_]
 obtain⟨rfl,y⟩:=y
 have:=y vs h2;rw[b] at this;cases this
 exact#[cT.refl _,c.same s1]
def chars(z:Str):List aB:=z.cps.toList.map λc=>.str #[#v[c]]
theorem aeM(z:Str):BX P T H (Zu z) (chars z):=λi H2 g s1 k n=>by
 refine#[λd a=>?_,λhi=>?_]
 .unfold chars at a;rw[jr] at a;cases hc:z.cps.toList[i]? with
  |none=>grind
  |some c=>
   rw[hc] at a;cases a;have e:z.cps[i]?=aa c:=by grind
   have b:i<z.cps.size:=by grind
   refine#[b,λx h y=>?_]
   obtain⟨rfl,j,f,rfl⟩:=y
   rw[e] at f;cases f
   exact#[cT.refl _,rfl]
 .rw[hi];unfold chars;rw[bC];exact bQ _
def qH(lo:Int)(n:Nat):List aB:=(gj n).map λ(k:Nat)=>.int (lo+(k:Int))
theorem amA(lo:Int)(n:Nat):BX P T H (Rk lo n) (qH lo n):=λi H2 c s1 g f=>by
 refine#[λd b=>?_,λhi=>?_]
 .unfold qH at b;rw[jr] at b;by_cases a:i<n
  .rw[List.getElem?_range a] at b;cases b
   refine#[a,λx e y=>?_]
   obtain⟨rfl,rfl⟩:=y
   exact#[cT.refl _,rfl]
  grind
 .rw[hi];unfold qH;rw[bC,uZ];exact bQ _
end
def zM:aB->Option (List aB)
 |.list ds=>aa ds
 |.tuple ds=>aa ds
 |.str z=>aa (chars z)
 |_=>ao
def iB(f:FB):FI:=λaj C=>match f aj C with
 |some (d,e1,C1)=>match zM d with
  |some aK=>aa (aK,e1,C1)
  |none=>ao
 |none=>ao
def iV(f:FE):FI:=λaj C=>match f aj C with
 |some (r,e1,C1)=>match still r with
  |.im d=>match zM d with
   |some aK=>aa (aK,e1,C1)
   |none=>ao
  |_=>ao
 |none=>ao
def uU(f:FB):FI:=λaj C=>match f aj C with
 |some (.int j,_,C1)=>if -(2^62)<=j/\j<2^62 then aa (qH 0 j.toNat,aj,C1) else ao
 |_=>ao
section
variable{tg e:Expr}
theorem qb(h:PE X e (fM X.K f))(l:∀i u,Dh tg i u=pure ():=by intro _ _;rfl):PI X tg e (tI X.K aq (iB f)):=(((Il h).or (N7 h)).or (aey h l)).weak λσ H R aV=>by
 refine hide λo m=>?_
 obtain⟨Z,Θ,aj,C,n,bw,C',S,j,q⟩:=aV
 unfold iB at j;split at j
 .rename_i d e1 C1 h1;split at j
  .rename_i hi;cases(j);cases d<;>(cases(hi))
   .refine m (.inr #[Z,Θ,_,C,_,_,C',S,h1,λv H1 k f c b=>#[_,b,q _ H1 k f c (aeM _)]])
   .refine m (.inl (.inl #[Z,Θ,_,C,_,_,C',S,h1,λv H1 k f c b=>?_]))
    obtain⟨a,vs,rfl,g,r⟩:=b
    exact#[a,rfl,#[vs,b7.of (gW g)],q _ H1 k f c (Nv g r)]
   .refine m (.inl (.inr #[Z,Θ,_,C,_,_,C',S,h1,λv H1 k f c b=>?_]))
    obtain⟨a,vs,rfl,g,r⟩:=b
    exact#[a,rfl,#[vs,dH.of (gW g)],q _ H1 k f c (Om g r)]
  lia
 lia
theorem zA(h:PE X e (tE X.K f))(l:∀i u,Dh tg i u=pure ():=by intro _ _;rfl):PI X tg e (tI X.K aH (iV f)):=(((Il h).or (N7 h)).or (aey h l)).weak λσ H R aV=>by
 refine hide λp m=>?_
 obtain⟨Z,Θ,aj,C,o,bw,C',S,j,q⟩:=aV
 unfold iV at j;split at j
 .rename_i C1 h1;split at j
  .rename_i d n;split at j
   .rename_i hi;cases(j);cases d<;>(cases(hi))
    .refine m (.inr #[Z,Θ,_,C,_,_,C',S,h1,λv H1 k f R=>?_])
     obtain⟨c,b⟩:=R.uz n
     exact#[_,b,q _ H1 k f c (aeM _)]
    .refine m (.inl (.inl #[Z,Θ,_,C,_,_,C',S,h1,λv H1 k f R=>?_]))
     obtain⟨c,a,vs,rfl,g,r⟩:=R.uz n
     exact#[a,rfl,#[vs,b7.of (gW g)],q _ H1 k f c (Nv g r)]
    .refine m (.inl (.inr #[Z,Θ,_,C,_,_,C',S,h1,λv H1 k f R=>?_]))
     obtain⟨c,a,vs,rfl,g,r⟩:=R.uz n
     exact#[a,rfl,#[vs,dH.of (gW g)],q _ H1 k f c (Om g r)]
   lia
  lia
 lia
theorem MN(o:Gl X "range")(i:X.mg "range"=ao)(l:PE X a (fM X.K f))(m:bI [a] X.env=(aH,eval a X.env)::bI [] X.env:=by rfl)(e:bI [a] X.env=[(aH,eval a X.env)]:=by rfl):PI X tg (.Call (.Name "range" p) [a] [] pos) (tI X.K b (uU f)):=
 (akO o i (gC l iz m) e).weak λσ H R aV=>by
  refine hide λs n=>?_
  obtain⟨Z,Θ,aj,C,r,bw,C',S,c,q⟩:=aV
  unfold uU at c;split at c
  .rename_i j e1 C1 h1;split at c
   .rename_i g;cases(c);refine n (#[Z,Θ,_,C,_,e1,C',S,by unfold cL dw;rw[h1],λvs H1 k f h d=>?_]);cases d with
    |cons d b2=>
     cases(b2)
     exact#[j,by rw[d],g.1,g.2,q _ H1 k 010 (S.go k h.cell) (amA 0 _)]
   trivial
  lia
end
def mZ(g:FG)(body:FS):List aB->FS
 |[]=>λaj C=>aa (.nx,aj,C)
 |d::r=>λaj C=>match g d aj with
  |some e1=>match body e1 C with
   |some (.nx,e2,C2)=>mZ g body r e2 C2
   |some (.ct,e2,C2)=>mZ g body r e2 C2
   |some (.bk,e2,C2)=>aa (.nx,e2,C2)
   |some (.rt v,e2,C2)=>aa (.rt v,e2,C2)
   |none=>ao
  |none=>ao
def iD(fi:FI)(g:FG)(body:FS):FS:=λaj C=>match fi aj C with
 |some (aK,e1,C1)=>mZ g body aK e1 C1
 |none=>ao
theorem fH.er{K:aU}{C1:Ce}{σ F1:St}{H H1:Hp}(p:fH K Z Θ aj σ H L1 e1 C1 F1 H1):cT (er (bF Z Θ aj σ) H) (er (bF Z L1 e1 F1) H1):=λb o h=>by
 unfold L2.er at h⊢;split at h
 .cases h
 .rename_i n;have c:H b≠ao:=by grind
  rw[bK]
  .refine p.kp.keep b o h λm=>n ?_
   grind
  .intro m;rcases iy.mp m with m|m|m
   .grind
   .obtain⟨Δ,e,a⟩:=p.th.ex
    grind
   .rcases p.own b m with m|m
    .grind
    trivial
theorem aoj(s:cT (er P H) (er P2 H2)):cT (er P H) (er P H2):=λb o h=>by
 have h2:=gW (s b o h);unfold er at h⊢;simp_all
theorem amB{K:aU}{g:TG}{fg:FG}(L:Gi K g fg):∀D σ H,tS K (iD fi fg body) D σ H->YX (tI K aH fi) g (tS K body) D σ H:=by
 rintro D σ H ⟨Z,Θ,aj,C,fl,bw,C',S,hf,q⟩;unfold iD at hf;split at hf
 .rename_i b e1 C1 h1
  refine#[Z,Θ,_,C,_,e1,C1,S,h1,λJ H1 B w s it=>?_]
  have p1:=fH.qO B w s
  refine#[λi m F2 H2=>m=b.length-i/\i<=b.length/\∃Θ2 e2 C2,fH K Z Θ e1 σ H1 Θ2 e2 C2 F2 H2/\mZ fg _ (b.drop i) e2 C2=aa _,#[_,rfl,jJ _,Θ,e1,C1,fH.same s,hf],?_]
  rintro i m F2 H2 ⟨rfl,hi,Θ2,e2,C2,p2,hl⟩
  obtain⟨E,F⟩:=it i H2 _ p2.er (aoj p2.er) p2.sm.oN
  cases hd:b[i]? with
  |none=>
   have l:i=b.length:=by
    have:=RM.mp hd;lia
   rw[l,aaC] at hl;refine hide λM k=>?_
   cases(hl);exact k (.inl #[F l,q Θ2 F2 H2 (p1.trans p2)])
  |some d=>
   have n:=(jk.mp hd).1;have G:b.drop i=d::b.drop (i+1):=by
    rw[ZX n]
    obtain⟨_,e⟩:=jk.mp hd
    rw[e]
   rw[G] at hl;unfold mZ at hl
   obtain⟨go,N⟩:=E d hd
   refine .inr #[go,_,λF' H' h=>#[_,aD,rfl,n,h],λx u y=>?_]
   obtain⟨t,z⟩:=N x u y
   have r:=p2.sm.Ey t;have A:=p2.trans (fH.qO (bh.of t) 010 r);split at hl
   .rename_i o I;refine L Z Θ2 e2 C2 F2 u x d o r z I _ λF4 S4 o4=>?_
    have p:=A.trans #[jh.refl _ _,bh.refl _ _,λa m=>.inl (o4 a m),S4];refine hide λM k=>?_
    split at hl
    .rename_i j f c;exact k (#[Z,Θ2,o,C2,_,j,f,S4,c,λL5 F5 H5 p5=>#[L5,j,f,p.trans p5,hl]])
    .rename_i j f c;exact k (#[Z,Θ2,o,C2,_,j,f,S4,c,λL5 F5 H5 p5=>#[L5,j,f,p.trans p5,hl]])
    .rename_i f c;cases(hl);exact k (#[Z,Θ2,o,C2,_,_,C',S4,c,λL5 F5 H5 p5=>q L5 F5 H5 (p1.trans (p.trans p5))])
    .rename_i j f c;cases(hl);exact k (#[Z,Θ2,o,C2,_,_,C',S4,c,λL5 v H5 p5=>q L5 v H5 (p1.ret (p.ret p5))])
    .cases(hl)
   .cases(hl)
 .cases(hf)
theorem rE(a:PassesOwn 05 X.A X.env X.xe)(e:011)(hi:PI X tg iter (tI X.K aH fi))(c:PG X tg g)(L:Gi X.K g fg)(d:jD X body (tS X.K f))
  (b:∀x,qm iter X.env x=pure x:=by intro _;rfl):PS X (.For tg iter body [] pos) (tS X.K (iD fi fg f)):=(aeu a e hi c d b).weak (amB L)
def yc:gU->aB->Option (List aB)
 |.one,d=>aa [d]
 |.many n,.tuple ds=>if ds.length=n then aa ds else ao
 |_,_=>ao
def frB(js:List Nat)(aj:En):En:=js.map λj=>((aj[j]?).join).map still
def cW(ds:016):En:=ds.map λd=>aa (.im d)
def gQ(T:gU)(ft:FT)(fe:FE)(fs:En):List aB->Ce->Option (List aB×Ce)
 |[],C=>aa ([],C)
 |d::r,C=>match yc T d with
  |some ts=>match ft (cW ts++fs) C with
   |some (false,C1)=>gQ T ft fe fs r C1
   |some (true,C1)=>match fe (cW ts++fs) C1 with
    |some (x,_,C2)=>match still x with
     |.im y=>match gQ T ft fe fs r C2 with
      |some (ys,C3)=>aa (y::ys,C3)
      |none=>ao
     |_=>ao
    |none=>ao
   |none=>ao
  |none=>ao
def jE(js:List Nat)(aj:En):En:=aj.mapIdx λi x=>if i∈js then x.map still else x
def eF(fi:FI)(T:gU)(ft:FT)(fe:FE)(js:List Nat):FE:=λaj C=>match fi aj C with
 |some (aK,e1,C1)=>match gQ T ft fe (frB js e1) aK C1 with
  |some (ys,C2)=>if ys.length<=eE then aa (.ow (.list ys),if iW ys then e1 else jE js e1,C2) else ao
  |none=>ao
 |none=>ao
theorem afN:∀{a b:En},a.length=b.length->(∀(i:Nat)(x y:Option Vl),a[i]?=aa x->b[i]?=aa y->Zz x y)->Fz a b
 |[],[],_,_=>trivial
 |x::r,y::t,hl,h=>#[h 0 x y rfl rfl,afN 002 λi u v h1 h2=>h (i+1) u v 002 002]
 |[],_::_,hl,_=>by grind
 |_::_,[],hl,_=>by grind
theorem Er(js:List Nat)(aj:En):Fz aj (jE js aj):=afN (by unfold jE;grind) λi x y h1 h2=>by
 unfold jE at h2;rw[List.getElem?_mapIdx,h1] at h2;have h2:=lY h2;rw[<-h2];split
 .cases x with
  |none=>exact .inl rfl
  |some x=>
   cases x with
   |ow d=>exact .inr #[d,rfl,rfl]
   |im d=>exact .inl rfl
   |ce n=>exact .inl rfl
   |sc ns=>exact .inl rfl
   |ks ns=>exact .inl rfl
   |tp=>exact .inl rfl
 .exact .inl rfl
theorem aeN{k:Nat}{x:Vl}(h:(frB js aj)[k]?=aa (aa x)):∃j:Nat,js[k]?=aa j/\(jE js aj)[j]?=aa (aa x)/\∀d,x≠.ow d:=by
 unfold frB at h;rw[jr] at h;cases hj:js[k]? with
 |none=>grind
 |some j=>
  rw[hj] at h;have h':((aj[j]?).join).map _=aa x:=lY h
  refine#[j,rfl,?_,?_]
  .unfold jE
   grind
  .cases hv:(aj[j]?).join with
   |none=>grind
   |some y=>
    rw[hv] at h';have e:=lY h';rw[<-e];intro d z;cases y<;>cases z
theorem Bf:∀{aj:En}{σ:St},(∀(i:Nat)(d:aB),aj[i]?≠aa (aa (.ow d)))->cB aj σ=[]
 |[],σ,_=>rfl
 |_::_,[],_=>rfl
 |x::e,v::s,h=>by
  rw[cB,Bf λi d z=>h (i+1) d 002];have a:=h 0;unfold own1
  grind
section
variable{K:aU}{Z Θ:List az}{aj:En}{C C2:Ce}{σ:St}{H H2:Hp}{D:az}
abbrev uE(D:az)(Z:List az)(aj:En)(σ:St):List az:=D::(Z++cB aj σ)
theorem sX{js:List Nat}{b:St}(h:cB eB b=[]):a∈bF (uE D Z aj σ) Θ eB b↔a=D\/a∈bF Z Θ aj σ:=by grind
theorem Oo:∀(i:Nat)(d:aB),(cW ts++frB js aj)[i]?≠aa (aa (.ow d)):=λi d z=>by
 by_cases hi:i<(cW ts).length
 .rw[gK hi] at z;unfold cW at z;simp_all
 .rw[gh aD] at z
  obtain⟨j,_,_,h⟩:=aeN z
  lia
theorem Sm.blk(S:Sm K Z Θ (jE js aj) C σ H)(g:H D=lZ)(k:bh Θ H H2)(nt:NT (H2 D))(c:gP Θ C2 H2)(r:cF (er (bF (uE D Z (jE js aj) σ) Θ [] []) H2) ts vs):
  Sm K (uE D Z (jE js aj) σ) Θ (cW ts++frB js aj) C2 (vs.map aa++frees js σ) H2:=by
 have no:=Bf (aj:=cW ts++frB js aj) (σ:=vs.map aa++frees js σ) Oo;have cQ:=S.cQ;have p:=jL r;have o:(cW ts).length=ts.length:=by unfold cW;rw[bC]
 have s:er (bF (uE D Z (jE js aj) σ) Θ _ _) H2=er (bF _ Θ [] []) H2:=pU λa=>by rw[sX (js:=js) no,sX (js:=js) rfl]
 have sm:cT _ (er (bF _ Θ [] []) H2):=jN k S.qN λb m=>by
  rcases(sX (js:=js) rfl).mp m with rfl|m
  .exact .inr g
  .exact .inl m
 refine#[?_,?_,λb m=>?_,λi x e=>?_,c]
 .rw[eG,eG,bC,p,o];unfold frees frB;rw[bC,bC]
 .show(uE D Z _ σ++(Θ++cB _ _)).Nodup
  rw[no];refine CN (mU.mpr #[λm=>?_,?_]) cQ.2.1 tZ (λb m f=>?_) (λ_ m=>nomatch m)
  .rcases dU.mp m with m|m
   .exact(S.dom D m).ne g
   .exact S.Fy D (iy.mpr (.inr (.inr m))) g
  .rw[lX]
   exact#[cQ.1,cQ.2.2.1,λb m B f e=>by subst e;exact(S.nM f).1 m]
  .rcases cC.mp m with rfl|m
   .exact S.Fy b (iy.mpr (.inr (.inl f))) g
   .rcases dU.mp m with m|m
    .exact cQ.2.2.2 b m f
    .exact(S.nM m).2 f
 .rcases cC.mp m with rfl|m
  .exact nt
  .have:NT (H b)/\b∉Θ:=by
    rcases dU.mp m with m|m
    .exact#[S.dom b m,cQ.2.2.2 b m]
    .exact#[S.oN b (iy.mpr (.inr (.inr m))),(S.nM m).2]
   obtain⟨⟨u,e,n⟩,q⟩:=this
   exact#[u,k.keep _ _ e q,n]
 .rw[s];by_cases hi:i<ts.length
  .rw[gK (by rwa [o])] at e;unfold cW at e;rw[jr] at e;cases ht:ts[i]? with
   |none=>rw[ht] at e;cases e
   |some t=>
    rw[ht] at e;cases e
    obtain⟨v,l,h⟩:=Ep r ht
    exact#[v,by rw[gK (by rwa [bC,p]),jr,l];rfl,h]
  .rw[gh aD,o] at e
   obtain⟨j,w,y,A⟩:=aeN e
   obtain⟨v,l,h⟩:=S.slot j x y
   refine#[v,?_,h.same sm λd _ z=>absurd z (A d)]
   rw[gh (by rw[bC];lia),bC,p];unfold frees;rw[jr,w];show aa ((σ[j]?).join)=_;rw[l];rfl
end
def dh:FT:=λ_ C=>aa (aq,C)
theorem ou:nA X [] (eY X.K dh):=λaA s σ H Q I aV=>by
 refine hide λd a=>?_
 obtain⟨Z,Θ,aj,C,b,C',S,c,q⟩:=aV
 cases(c);exact a (anW _ s σ H Q I (q H 003 S))
theorem IV{X:Cx}{c:Expr}{f:FT}(h:PT X c (eY X.K f)):nA X [c] (eY X.K f):=anY h
theorem afO{K:aU}{T:gU}{E H:Hp}{x:V}(h:yc T d=aa ts)(r:RZ E d x)(s:cT E H):∃vs,xX K T x H vs/\cF E ts vs:=by
 cases T with
 |one=>cases h;exact#[_,rfl,x,[],rfl,r,rfl]
 |many n=>
  cases d<;>first|cases h|skip
  rename_i ds;have h:(if ds.length=n then aa ds else ao)=aa ts:=h;split at h
  .rename_i b;cases h
   obtain⟨a,vs,rfl,c,r⟩:=r
   exact#[vs,#[a,rfl,dH.of (s _ _ c),(jL r).trans b],r]
  trivial
def uA{α:Type}(T:gU)(ft:FT)(st:En->α->Ce->Option (α×Ce))(fs:En):List aB->α->Ce->Option (α×Ce)
 |[],a,C=>aa (a,C)
 |d::r,a,C=>(yc T d).bind λts=>(ft (cW ts++fs) C).bind λp=>bif p.1 then(st (cW ts++fs) a p.2).bind λq=>uA T ft st fs r q.1 q.2 else uA T ft st fs r a p.2
inductive ags{α:Type}(Θ:List az)(H1:Hp)(n:Nat)(Ob:α->Hp->Prop)(run:Nat->α->Ce->Prop)(i m:Nat)(H2:Hp):Prop
 |mk (a:α) (Ci:Ce) (hm:m=n-i) (hi:i<=n) (ki:bh Θ H1 H2) (ci:gP Θ Ci H2) (ob:Ob a H2) (hc:run i a Ci):ags Θ H1 n Ob run i m H2
section
variable{K:aU}{α:Type}{T:gU}{ft:FT}{st:En->α->Ce->Option (α×Ce)}{js:List Nat}{Z Θ:List az}{e1:En}{C1 C':Ce}{σ:St}{H1:Hp}{J:It}{D:az}{o0:HO}{a0 aE:α}
theorem aeO{c Hy:Hp}(e:H1 D=lZ)(d:bh Θ H1 c):bh Θ H1 (upd c D u):=by
 refine#[λa o b f=>?_,λa b=>?_]
 .rw[c7 (sI b e)];exact d.keep _ _ b f
 .by_cases z:a=D
  .grind
  .rw[c7 z];exact d.dom a b
theorem MP(d:D∉Θ)(nt:∀vs,Hx D≠aa (.tup vs))(c:gP Θ C1 Hx):gP Θ C1 (upd Hx D u):=
 c.keep (λb vs a=>by
  rw[c7]
  .trivial
  grind) λb mb o a=>by
  rw[c7]
  .trivial
  grind
theorem VN{em:TM}{Ob:α->Hp->Prop}(o:Sm K Z Θ e1 C1 σ H1)(it:BX (bF Z Θ e1 σ) Θ H1 J aK)(f:H1 D=lZ)(C:Ob a0 (upd H1 D o0))(t:∀a j Hy,bh Θ j Hy->Ob a j->Ob a Hy)(n:∀a j,Ob a j->NT (j D))
  (u:∀(ts:016)(a:α)(C2:Ce)(p:α×Ce)(vs:012)(g:Hp)(Q:Hp->Prop),st (cW ts++frB js e1) a C2=aa p->Sm K (uE D Z (jE js e1) σ) Θ (cW ts++frB js e1) C2 (vs.map aa++frees js σ) g->bh Θ H1 g->Ob a g->(∀l,bh Θ H1 l->gP Θ p.2 l->Ob p.1 l->Q l)->em (vs.map aa++frees js σ) g Q)
  (c:uA T ft st (frB js e1) aK a0 C1=aa (aE,C'))(hq:∀H2,bh Θ H1 H2->gP Θ C' H2->Ob aE H2->done H2):BL K T (eY K ft) em (frees js σ) J (upd H1 D o0) done:=by
 have N:=λm=>(o.cell.dom D m).ne f
 have k:=o.fz (Er js e1)
 refine#[ags Θ H1 aK.length Ob (λi a Ci=>uA T ft st (frB js e1) (aK.drop i) a Ci=aa (aE,C')),#[aK.length,#[a0,C1,rfl,jJ _,bh.upd f,MP N (λ_ z=>by rw[f] at z;cases(z)) o.cell,C,c]],λi m H2 Y=>hide λX s=>?_]
 cases Y with
 |mk a Ci hm hi ki ci ob c=>
 subst hm;have nt:=n a H2 ob;have w:cT _ (er (bF _ Θ [] []) H2):=jN ki o.qN λb m=>by
  rcases(sX (js:=js) rfl).mp m with rfl|m
  .exact .inr f
  .exact .inl ((Er js e1).sub b m)
 have v:∀a∈bF _ Θ [] [],NT _:=λa m=>(k.blk f ki nt ci (show cF _ [] [] from rfl)).oN a ((sX (js:=js) (Bf Oo)).mpr ((sX (js:=js) rfl).mp m))
 obtain⟨P,S⟩:=it i H2 _ w (aeF ki) v
 cases hd:aK[i]? with
 |none=>
  have h:=ai7 hi (RM.mp hd);rw[h,aaC] at c;cases(c);exact s (.inl #[S h,hq H2 ki ci ob])
 |some d=>
  obtain⟨e,U⟩:=jk.mp hd
  rw[ZX e,U] at c
  obtain⟨go,yl⟩:=P d hd
  refine s (.inr #[go,λx H y=>(hide λX s=>?_)])
  obtain⟨A,M⟩:=yl x H y
  obtain⟨ts,R,c⟩:=bW c
  obtain⟨p,ZK,c⟩:=bW c
  obtain⟨vs,tv,E⟩:=afO R M (sZ _ _)
  refine s (#[vs,tv,?_]);have F:=ki.trans (bh.of A);have B:=t a _ _ (bh.of A) ob;have I:=k.blk f F (n a H B) (ci.same A) E;have lt:aK.length-(i+1)<aK.length-i:=aD
  refine#[_,Θ,_,Ci,_,_,I,ZK,λg r G=>?_]
  cases hp:p.1 with
  |false=>
   rw[hp] at c;exact zp #[_,lt,#[a,_,rfl,e,F.trans r,G.cell,t a _ _ r B,c]]
  |true=>
   rw[hp] at c
   obtain⟨q,O,c⟩:=bW c
   exact zq (u ts a _ q vs g _ O G (F.trans r) (t a _ _ r B) λl W L o6=>#[_,lt,#[_,_,rfl,e,W,L,o6,c]])
end
def uF(fe:FE):En->List aB->Ce->Option (List aB×Ce):=λaj aM C=>(fe aj C).bind λq=>(vV (still q.1)).bind λy=>bif decide (aM.length<eE) then aa (aM++[y],q.2.2) else ao
theorem WD:∀{aK:016}{ys aM:016}{C:Ce},gQ T ft fe fs aK C=aa (ys,C')->aM.length+ys.length<=eE->uA T ft (uF fe) fs aK aM C=aa (aM++ys,C')
 |[],ys,aM,C,h,_=>by
  cases(h);rw[jt];rfl
 |d::r,ys,aM,C,h,hl=>by
  unfold gQ at h;unfold uA;split at h
  case h_2=>cases(h)
  rename_i b;rw[b,bU];split at h
  case h_3=>cases(h)
  .rename_i a;rw[a];exact WD h hl
  .rename_i a;rw[a,bU];split at h
   case h_2=>cases(h)
   rename_i C2 e;split at h
   case h_2=>cases(h)
   rename_i y f;split at h
   case h_2=>cases(h)
   rename_i zs C3 c;cases(h);rw[iM] at hl;unfold uF;rw[e,bU,f,gq aD,show aM++y::zs=(aM++[y])++zs by grind];exact WD c 002
theorem adU{K:aU}{T:gU}{ft:FT}{fe:FE}:∀σ H Q,tE K (eF fi T ft fe js) σ H Q->Zt K (tI K aq fi) T (λ_=>eY K ft) (λ_=>tE K fe) js σ H Q:=by
 rintro σ H Q ⟨Z,Θ,aj,C,res,bw,C',S,hf,q⟩;unfold eF at hf;refine hide λX x=>?_
 split at hf
 case h_2=>cases(hf)
 rename_i P e1 C1 h1;split at hf
 case h_2=>cases(hf)
 rename_i ys C2 h2;split at hf
 case isFalse=>cases(hf)
 cases(hf);refine x (#[Z,Θ,aj,C,P,e1,C1,S,h1,λJ H1 F A g it D f b=>?_]);have n:=λm=>(g.cell.dom D m).ne f
 have j:D∈bF (uE D Z (jE js e1) σ) Θ [] []:=(sX (js:=js) rfl).mpr (.inl rfl);refine VN (a0:=[]) (Ob:=λaM i=>lO (er (bF (uE D Z (jE js e1) σ) Θ [] []) i) i D (.list aM)) g it f #[[],fK,rfl] (λa i Hy G r=>r.same (jN G (λa m=>iy.mpr (.inr (.inl m))) λa m=>.inl m) λo h=>G.keep _ _ h n)
  (λa i r=>by obtain⟨vs,e,_⟩:=r;exact#[_,e,λ_ z=>nomatch z]) ?_ (WD h2 (by rwa [tX,Hs])) λH2 v L r=>?_
 .intro ts aM C2 p vs H4 Q d U W V Y;refine hide λX x=>?_
  obtain⟨w,s,d⟩:=bW d
  obtain⟨yd,k,d⟩:=bW d
  have k:=Od k;cases hlt:decide (aM.length<eE) with
  |false=>rw[hlt] at d;cases(d)
  |true=>
  rw[hlt] at d;cases(d);refine x (#[_,Θ,_,C2,w.1,_,_,U,s,λy l u f5 R5=>?_])
  obtain⟨R,N⟩:=R5.uz k
  obtain⟨Y9,E,B⟩:=V.same (jN u (λa m=>iy.mpr (.inr (.inl m))) λa m=>.inl m) λo h=>u.keep _ _ h n
  have t:=by
   have:=(Fz.own (σ:=vs.map aa++frees js σ) f5)
   rw[Bf Oo] at this;exact List.sublist_nil.mp this
  have O:er (bF (uE D Z (jE js e1) σ) Θ _ _) l=er (bF _ Θ [] []) l:=pU λa=>by rw[sX (js:=js) t,sX (js:=js) rfl]
  rw[O] at N;have lt:=of_decide_eq_true hlt
  refine#[_,E,by rw[jL B,iw];unfold eE at lt;lia,Y _ (aeO (Hy:=l) f (W.trans u)) (MP n (λ_ z=>by rw[E] at z;cases(z)) R.cell) #[_,fK,?_]]
  rw[Oj j];exact yG B #[y,[],rfl,N,rfl]
 .obtain⟨Y9,c,I⟩:=r
  refine q _ H2 (F.trans v) ?_ ?_
  .split
   .exact A
   .exact A.trans (Er js e1)
  .refine#[D,rfl,F.none f,?_]
   split
   .rename_i hn;have M:=g.Br f v #[_,c,λ_ z=>nomatch z] L
    exact#[M,_,c,I.fU (λa vs e=>Ji M (gW e)) hn]
   .refine#[(g.fz (Er js e1)).Br f v #[_,c,λ_ z=>nomatch z] L,_,c,?_]
    rwa [pU (P':=bF (D::Z) Θ _ σ) λa=>by rw[sX (js:=js) rfl];show _↔a∈D::bF Z Θ _ σ;rw[cC]] at I
section
variable{X:Cx}{NT NF:List Str}{js:List Nat}{T:gU}{fi:FI}{ft:FT}{fe:FE}{scope:iU}{pos:Pos}
theorem nQ(B:pX X NT NF js scope)(d:nU tg NT T)(e:011)(hi:PI X tg iter (tI X.K aq fi))
  (a:∀b,nA (X.bk (NT++NF) scope b) ifs (eY X.K ft)/\PE (X.bk (NT++NF) scope b) elt (tE X.K fe))
  (c:∀x,qm iter X.env x=pure x:=by intro _;rfl):PE X (.ListComp elt [#[tg,iter,ifs,0]] scope pos) (tE X.K (eF fi T ft fe js)):=(aqY B d e hi a c).weak adU
theorem amC{i:Nat}(B:pX X NT NF js scope)(g:nU tg NT T)(j:011)(hi:PI X tg iter (tI X.K aq fi))
  (a:∀b,nA (X.bk (NT++NF) scope b) ifs (eY X.K ft)/\PE (X.bk (NT++NF) scope b) elt (tE X.K fe))
  (c:lG (.ListComp elt [#[tg,iter,ifs,0]] scope pos) (aa (.Name y pos')) spos.line X.env=pure aq)(d:017)(h:X.N[i]?=aa y)(f:X.env.scope.names.lookup y=aa .local)
  (e:∀x,qm iter X.env x=pure x:=by intro _;rfl):PS X (.Assign [.Name y pos'] (.ListComp elt [#[tg,iter,ifs,0]] scope pos) spos) (tS X.K (dY i (eF fi T ft fe js))):=(ama B g j hi a c d h f e).weak (acO adU)
end
def Yv(n:Nat):Vl->Bool
 |.ce m=>decide (m<n)
 |_=>aq
def tU(n:Nat):Ci->Bool
 |.dat _=>aq
 |.cD m=>decide (m<n)
def vW(n:Nat):Cl->Bool
 |.lst xs=>xs.all (tU n)
 |.b8 au=>(au.map (·.2)).all (tU n)
 |.uR=>aq
 |.obj _ _ xs=>xs.all (tU n)
def nrm(n:Nat)(c:Cl):Cl:=if vW n c=aq then c else .uR
def qe(n:Nat)(C:Ce):Ce:=if C.length=n then C else(C.take n).map (nrm n)
theorem adV(h:C.length=n):qe n C=C:=bG h
theorem Nx:∀{xs:List Ci}{vs:012},xs.all (tU Θ.length)=aq->gm (Θ++Δ) H xs vs->gm Θ H xs vs
 |[],_,_,h=>h
 |x::xs,vs,c,h=>by
  obtain⟨v,r,e,q,s⟩:=h
  rw[Dl,jc] at c
  refine#[v,r,e,?_,Nx c.2 s]
  cases x with
  |dat d=>exact q
  |cD m=>
   obtain⟨b,e1,e2⟩:=q
   exact#[b,e1,by rwa [gK (of_decide_eq_true c.1)] at e2]
theorem lR.cut(h:vW Θ.length c=aq)(q:lR (Θ++Δ) H a c):lR Θ H a c:=by
 cases c with
 |lst xs=>obtain⟨vs,h1,h2⟩:=q;exact#[vs,h1,Nx h h2]
 |b8 au=>obtain⟨vs,h1,h2⟩:=q;exact#[vs,h1,Nx h h2]
 |uR=>exact q
 |obj c0 ns xs=>obtain⟨dx,vs,h1,l,h2⟩:=q;exact#[dx,vs,h1,l,Nx h h2]
theorem gP.cut(k:gP (Θ++Δ) C H):gP Θ (qe Θ.length C) H:=by
 have cl:=k.len;unfold qe;split
 .simp_all
 .refine#[by grind,λn a c e1 e2=>?_]
  have b:=(jk.mp e1).1;rw[jr,List.getElem?_take,bG b] at e2
  obtain⟨c0,d,rfl⟩:=lW.mp e2
  have q:=k.at_ n a c0 002 d;unfold nrm;split
  .rename_i h;exact q.cut h
  .exact q.nt
noncomputable def fN (k n:Nat) (body:FS):FN:=λxs C=>if xs.length=k then match body (xs.map aa++cH (n-xs.length) ao) C with
  |some (.rt r,_,C')=>if Yv C.length r then aa (r,qe C.length C') else ao
  |some (.nx,_,C')=>aa (.im .none,qe C.length C')
  |_=>ao
 else ao
section
variable{K:aU}{C:Ce}{H:Hp}{vs:List V}
theorem Al(a:rC K E Θ xs vs):vs.length=xs.length:=by
 induction a with
 |nil=>rfl
 |cons _ _ ih=>grind
theorem aok(a:rC K E Θ xs vs):∀{i:Nat}{x:Vl},xs[i]?=aa x->∃v,vs[i]?=aa v/\xF K E Θ x v:=by
 induction a with
 |nil=>grind
 |cons h _ ih=>
  grind
theorem Sm.start(S:Sm K Z Θ [] C [] H)(a:rC K (er (bF Z Θ [] []) H) Θ xs vs):Sm K Z Θ (xs.map aa++cH n lZ) C (vs.map aa++cH n lZ) H/\cB (xs.map aa++cH n lZ) (vs.map aa++cH n lZ)=[]:=by
 have j:=Al a;have b:∀{i:Nat}{x:Vl},(xs.map aa++cH n lZ)[i]?=aa (aa x)->∃v,vs[i]?=aa v/\xF K _ Θ x v/\i<vs.length:=λ{i x} e=>by
  by_cases hi:i<xs.length
  .rw[gK 002,jr] at e;refine hide λk f=>?_
   cases hx:xs[i]? with
   |none=>grind
   |some y=>
    rw[hx] at e;cases e
    obtain⟨v,e1,h⟩:=aok a hx
    exact f (#[v,e1,h,by lia])
  grind
 have no:cB _ (vs.map aa++cH n lZ)=[]:=Bf λi d e=>by
  obtain⟨v,_,h,_⟩:=b e
  exact h
 refine#[#[by grind,?_,S.dom,λi x e=>?_,S.cell],no]
 .show(Z++(Θ++cB _ _)).Nodup
  rw[no];exact S.nd
 .obtain⟨v,e1,h,g⟩:=b e
  refine#[v,by grind,?_]
  have c:er (bF Z Θ (xs.map aa++cH n lZ) (vs.map aa++cH n lZ)) H=er (bF Z Θ [] []) H:=by
   show er (Z++(Θ++cB _ _)) H=_;rw[no];rfl
  rw[c];cases x with
  |im d=>exact h
  |ow d=>trivial
  |ce m=>exact h
  |sc ns=>exact h
  |ks ns=>exact h
  |tp=>trivial
theorem Sm.cut(S:Sm K Z (Θ++Δ) [] C [] H):Sm K Z Θ [] (qe Θ.length C) [] H:=by
 have cQ:=S.cQ
 exact#[rfl,CN cQ.1 (lX.mp cQ.2.1).1 tZ (λb m a=>cQ.2.2.2 b m (jG _ a)) (λ_ m=>nomatch m),S.dom,λi x e=>by grind,S.cell.cut]
theorem Ph.cut(t:jh Θ L' H)(ok:Yv Θ.length r=aq)(no:O=[])(h:Ph K Z L' C' O H H' r v):QJ K Z Θ (qe Θ.length C') H H' r v:=by
 refine hide λf b=>?_
 obtain⟨Δ,rfl,g⟩:=t.ex
 have sm:∀{Y:List _},cT (er (bF Y (Θ++Δ) [] []) H') (er (bF Y Θ [] []) H'):=λ{Y}=>uo λa m=>by grind
 cases r with
 |im d=>exact b (#[h.1.cut,h.2.same sm])
 |ow d=>
  obtain⟨a,e,m,S,r⟩:=h
  refine b (#[a,e,?_,S.cut,r.same sm λ_ h=>h]);simp_all
 |ce n=>
  obtain⟨S,a,e,e2⟩:=h
  refine b (#[S.cut,a,e,?_])
  rwa [gK (of_decide_eq_true ok)] at e2
 |sc ns=>
  obtain⟨S,a,e,q⟩:=h
  exact b (#[S.cut,a,e,sm.seq q])
 |ks ns=>
  obtain⟨S,a,e,q⟩:=h
  exact b (#[S.cut,a,e,sm.Fx q])
 |tp=>
  obtain⟨t,a,vs,us,e,c,m,S,r,p,q⟩:=h
  refine b (#[t,a,vs,us,e,c,?_,S.cut,r.same sm λ_ h=>h,p.same sm,q.same sm])
  grind
end
section
variable{w:cG}{K:aU}{base:cg}
theorem mD{st:dF}{f:az}{fd:o5}{k:Nat}{body:FS}{o k2:Nat}(F:f9 K x qual st f fd)(S:gO N ps (cO st))
  (u:∀(d:aG)(A:dN)(outer:List Env)(s:aR)(H:Hp)(E:XK),dZ k (A.deeper (envOfC qual (cO st) s.heap.objs.size f d))->jD (xP dJ P w K mg base N qual (cO st) f d A outer s H E).Cu (sU st) (tS K body))
  (e1:o=ps.length:=by rfl)(e2:k2=N.length:=by rfl):dG P w K mg base dJ (k+1) f fd ps (spT K (fN o k2 body)):=by
 subst e1 e2;refine F.ok S (λvs H Q E h=>?_) (λd A outer s H vs Q E B h=>#[_,u _ A _ s H E B,?_])
 .obtain⟨Z,Θ,C,xs,r,C',i,a,b,_⟩:=h
  unfold fN at b;split at b
  .rename_i z;rw[Al a,z]
  .cases(b)
 .obtain⟨Z,Θ,C,xs,r,C',i,a,b,q⟩:=h
  unfold fN at b;split at b
  case isFalse=>cases(b)
  have t:=Al a
  obtain⟨j,no⟩:=i.start (n:=N.length-vs.length) a
  rw[t] at j no;have y:start N vs=vs.map aa++cH (N.length-xs.length) ao:=by unfold start;rw[t]
  rw[y];have cl:=i.cell.len;refine hide λD p=>?_
  split at b
  .rename_i l C1 c;split at b
   .rename_i g;cases(b);refine p (#[Z,Θ,_,C,_,l,C1,j,c,λL' v H' R=>?_]);have kp:=R.kp;rw[no,jt] at kp;rw[cl] at q g;exact q v H' kp (R.ok.cut R.th g no)
   .cases(b)
  .rename_i l C1 c;cases(b);refine p (#[Z,Θ,_,C,_,l,C1,j,c,λL' F' H' R=>?_]);have kp:=R.kp;rw[no,jt] at kp
   obtain⟨Δ,e,G⟩:=R.th.ex
   have m:=R.sm.none;rw[e] at m;rw[cl] at q;exact q _ H' kp #[m.cut,rfl]
  .cases(b)
theorem apZ(c:b7 K H a (ns.map V.int))(h:f [.sc ns] []=aa (.im (.bool aq),C')):spT K f [.ref a] H (λv _=>v=.bl aq) E:=by
 refine#[[],[],[],[.sc ns],_,C',#[rfl,tZ,(λ_ m=>nomatch m),λi x e=>by grind,#[rfl,λn b d e _=>by grind]],.cons #[a,rfl,?_] .nil,h,λv H' _ R=>R.2]
 show b7 K (er [] H) a _;trivial
end
def xJ(i:Nat):FE:=λaj C=>match aj[i]? with
 |some (some (.sc ns))=>aa (.im (.int ns.length),aj,C)
 |_=>ao
def JW(i:Nat)(f:FB):FE:=λaj C=>match aj[i]? with
 |some (some (.sc ns))=>match f aj C with
  |some (.int k,_,C1)=>match fG ns k with
   |some z=>aa (.im (.int z),aj,C1)
   |none=>ao
  |_=>ao
 |_=>ao
section
variable{X:Cx}{p pos:Pos}
theorem adW(g:PE X o (jx i))(l:Gl X "len")(f:X.mg "len"=ao)(e:uc "len"=aa (.builtin "len"))
  (d:bI [o] X.env=(aH,eval o X.env)::bI [] X.env:=by rfl)(b:(eN pos (bI [] X.env)).any (·.1)=aH:=by rfl):PE X (.Call (.Name "len" p) [o] [] pos) (tE X.K (xJ i)):=
 (Mw aa6 l f e (pO g pR d) aP (rfl) d b).weak λσ H Q aV=>by
  refine hide λn k=>?_
  obtain⟨Z,Θ,aj,C,r,bw,C',S,c,q⟩:=aV
  unfold xJ at c;split at c
  .rename_i m;cases(c)
   obtain⟨v,h,a,rfl,j⟩:=S.slot i _ m
   have:=q _ H 003 010 #[S,rfl];exact k (#[_,h,a,_,rfl,.inl ((sZ _ _).seq j),by grind])
  trivial
theorem ap0(u:PE X o (jx i))(p:PE X k (fM X.K f))(t:Im k):PE X (.Subscript o k pos) (tE X.K (JW i f)):=(O9 Wr u p t).weak λσ H Q aV=>by
 refine hide λB y=>?_
 obtain⟨Z,Θ,aj,C,r,bw,C',S,b,q⟩:=aV
 unfold JW at b;split at b
 case h_2=>lia
 rename_i m;split at b
 case h_2=>lia
 rename_i z e1 C1 h1;split at b
 case h_2=>lia
 rename_i x;cases(b)
 obtain⟨v,l,a,rfl,E⟩:=S.slot i _ m
 refine y (#[_,l,Z,Θ,_,C,_,e1,C',S,h1,λw H1 h A s n=>?_]);have g:=S.go h s.cell
 obtain⟨v2,c,D,e,d⟩:=g.slot i _ m
 rw[l] at c;cases(c);cases(e)
 refine#[a,_,z,_,rfl,n,(sZ _ _).seq d,?_,q _ H1 h 010 #[g,rfl]]
 unfold fG at x⊢;rw[bC];cases hj:nu _ z with
 |none=>simp_all
 |some j=>
  simp_all
end
section
variable{K:aU}{X:Cx}
theorem nR(h:Pb Z Θ aj σ H [d] vs):∃v,vs=[v]/\gw Z Θ aj σ H d v:=by
 cases h with
 |cons a b=>cases b;grind
theorem afP(h:Pb Z Θ aj σ H [d,e] vs):∃v w,vs=[v,w]/\gw Z Θ aj σ H d v/\gw Z Θ aj σ H e w:=by
 cases h with
 |cons a b=>
  cases b with
  |cons b c=>cases c;grind
def JX:aB->Option Nat
 |.list ds=>aa ds.length
 |.tuple ds=>aa ds.length
 |.str z=>if z.length<=eE then aa z.length else ao
 |.dict au=>if(cj fL au).isSome then aa au.length else ao
 |_=>ao
def vJ:List aB->Option Vl
 |[d]=>(JX d).map λn=>.im (.int n)
 |_=>ao
def afQ(K:aU):List V->Hp->VK->Prop:=λxs H Q=>((∃p ys,xs=[.ref p]/\(b7 K H p ys\/dH K H p ys)/\Q (.int ys.length) H)\/∃z,xs=[.str z]/\z.length<=cz/\Q (.int z.length) H)\/∃a au,xs=[V.ref a]/\vU H a au/\Q (.int au.length) H
theorem ab1:gF X (.builtin "len") (afQ X.K):=(aa6.or ajI).or akZ
theorem aeP:j8 K (afQ K) vJ:=by
 intro Z Θ aj C σ H xs ds res S b e Q q;unfold vJ at e;refine hide λm f=>?_
 split at e
 case h_2=>cases e
 rename_i d
 obtain⟨v,rfl,g⟩:=nR b
 cases hn:JX d with
 |none=>grind
 |some n=>
  rw[hn] at e;cases e;have h:=q _ H 003 (iQ S rfl rfl);cases d<;>first|cases hn|skip
  .rename_i z;simp only[JX] at hn;split at hn
   .rename_i k;cases hn;cases g.str;exact f (.inl (.inr #[z,rfl,vo k,h]))
   lia
  .obtain⟨a,vs,rfl,c,r⟩:=g.lst
   exact f (.inl (.inl #[a,vs,rfl,.inl (b7.of c),by rwa [jL r]]))
  .obtain⟨a,vs,rfl,c,r⟩:=g.tup
   exact f (.inl (.inl #[a,vs,rfl,.inr (dH.of c),by rwa [jL r]]))
  .simp only[JX] at hn;split at hn
   .rename_i j;cases hn
    obtain⟨a,vs,rfl,i,r⟩:=g.dct
    rcases i with⟨ks,h1,c⟩|⟨ks,⟨ne,h2⟩,c⟩
    .refine f (.inr #[a,_,rfl,Rt c,?_])
     rwa [G4,sS h1,Iu r,ajL]
    .obtain⟨l,h1⟩:=uY.mp j
     exact f (absurd (vp h1 h2) ne)
   lia
def JB:List aB->Option Vl
 |[.int i]=>aa (.im (.int (if i<0 then -i else i)))
 |_=>ao
theorem aeQ:j8 K (λxs H Q=>∃i,xs=[.int i]/\Q (.int (if i<0 then -i else i)) H) JB:=by
 intro Z Θ aj C σ H xs ds res S b e Q q;unfold JB at e;split at e
 case h_2=>cases e
 cases e
 obtain⟨v,rfl,a⟩:=nR b
 cases a.int
 exact#[_,rfl,q _ H 003 (iQ S rfl rfl)]
def Fd:List aB->Option Vl
 |[.int i]=>aa (08 i)
 |[.bool k]=>aa (.im (.int (if k then 1 else 0)))
 |_=>ao
theorem aeR:j8 K (λxs H Q=>(∃i,xs=[.int i]/\Q (.int i) H)\/∃k,xs=[.bl k]/\Q (.int (if k then 1 else 0)) H) Fd:=by
 intro Z Θ aj C σ H xs ds res S b e Q q;unfold Fd at e;refine hide λd c=>?_
 split at e
 case h_3=>cases e
 .cases e
  obtain⟨v,rfl,a⟩:=nR b
  cases a.int;exact c (.inl #[_,rfl,q _ H 003 (iQ S rfl rfl)])
 .cases e
  obtain⟨v,rfl,a⟩:=nR b
  cases(show v=.bl _ from a)
  exact c (.inr #[_,rfl,q _ H 003 (iQ S rfl rfl)])
def ur:List aB->Option Vl
 |[.int i,.int j]=>aa (.im (.int (if j>i then j else i)))
 |_=>ao
def Bh:List aB->Option Vl
 |[.int i,.int j]=>aa (.im (.int (if j<i then j else i)))
 |_=>ao
theorem WK:j8 K (λxs H Q=>∃i j,xs=[.int i,.int j]/\Q (.int (if j>i then j else i)) H) ur:=by
 intro Z Θ aj C σ H xs ds res S b e Q q;unfold ur at e;split at e
 case h_2=>cases e
 cases e
 obtain⟨v,w,rfl,a,c⟩:=afP b
 cases a.int;cases c.int
 exact#[_,_,rfl,q _ H 003 (iQ S rfl rfl)]
theorem adX:j8 K (λxs H Q=>∃i j,xs=[.int i,.int j]/\Q (.int (if j<i then j else i)) H) Bh:=by
 intro Z Θ aj C σ H xs ds res S b e Q q;unfold Bh at e;split at e
 case h_2=>cases e
 cases e
 obtain⟨v,w,rfl,a,c⟩:=afP b
 cases a.int;cases c.int
 exact#[_,_,rfl,q _ H 003 (iQ S rfl rfl)]
def boolsOf:List aB->Option (List Bool)
 |[]=>aa []
 |.bool b::r=>match boolsOf r with
  |some t=>aa (b::t)
  |none=>ao
 |_=>ao
theorem Va:∀{ds:016}{ns:List Bool}{vs:012},boolsOf ds=aa ns->cF E ds vs->vs=ns.map V.bl
 |[],ns,vs,h,r=>by cases h;exact r
 |.bool i::ds,ns,vs,h,r=>by
  unfold boolsOf at h;split at h
  .rename_i a;cases h
   obtain⟨u,w,rfl,q,s⟩:=r
   rw[Va a s];have:=q;rw[this];rfl
  trivial
 |.none::_,_,_,h,_=>by cases h
 |.int _::_,_,_,h,_=>by cases h
 |.str _::_,_,_,h,_=>by cases h
 |.list _::_,_,_,h,_=>by cases h
 |.tuple _::_,_,_,h,_=>by cases h
 |.dict _::_,_,_,h,_=>by cases h
def uB:List aB->Option Vl
 |[.list ds]=>(boolsOf ds).map λbs=>.im (.bool (bs.all id))
 |_=>ao
theorem Oq:j8 K (λxs H Q=>∃(p:az)(bs:List Bool),xs=[.ref p]/\b7 K H p (bs.map V.bl)/\Q (.bl (bs.all id)) H) uB:=by
 intro Z Θ aj C σ H xs ds res S b e Q q;unfold uB at e;refine hide λg d=>?_
 split at e
 case h_2=>cases e
 rename_i ds;cases hb:boolsOf ds with
 |none=>grind
 |some bs=>
  rw[hb] at e;cases e
  obtain⟨v,rfl,f⟩:=nR b
  obtain⟨a,vs,rfl,c,r⟩:=f.lst
  rw[Va hb r] at c;exact d (#[a,bs,rfl,b7.of c,q _ H 003 (iQ S rfl rfl)])
def Fe:List aB->Option Vl
 |[.list ds]=>(intsOf ds).map λns=>.im (.int ns.sum)
 |_=>ao
theorem aeS:j8 K (λxs H Q=>∃(p:az)(ns:List Int),xs=[.ref p]/\b7 K H p (ns.map V.int)/\Q (.int ns.sum) H) Fe:=by
 intro Z Θ aj C σ H xs ds res S b e Q q;unfold Fe at e;split at e
 case h_2=>cases e
 rename_i ds;cases hb:intsOf ds with
 |none=>grind
 |some bs=>
  rw[hb] at e;cases e
  obtain⟨v,rfl,d⟩:=nR b
  obtain⟨a,vs,rfl,c,r⟩:=d.lst
  rw[MK hb r] at c
  exact#[a,bs,rfl,b7.of c,q _ H 003 (iQ S rfl rfl)]
def xj:List aB->Option Vl
 |[d]=>if jX d&&d.showable&&decide (d.depth<=60)&&decide (d.shown.length<=eE) then aa (.im (.str d.shown)) else ao
 |_=>ao
theorem adY:j8 K (λxs H Q=>∃v d,xs=[v]/\RD K H d v/\d.showable=aq/\d.depth<=60/\d.shown.length<=cz/\Q (.str d.shown) H) xj:=by
 intro Z Θ aj C σ H xs ds res S b e Q q;unfold xj at e;split at e
 case h_2=>cases e
 rename_i d;split at e
 case isFalse=>cases e
 rename_i h;cases e;rw[jc,jc,jc,decide_eq_true_iff,decide_eq_true_iff] at h
 obtain⟨v,rfl,a⟩:=nR b
 exact#[v,d,rfl,(a.rx h.1.1.1).rd,h.1.1.2,h.1.2,vo h.2,q _ H 003 (iQ S rfl rfl)]
def Ny:List aB->Option Vl
 |[.list ds]=>aa (.im (.tuple ds))
 |[.tuple ds]=>aa (.im (.tuple ds))
 |_=>ao
theorem amD:j8 K (λxs H Q=>∃p ys,xs=[.ref p]/\((b7 K H p ys/\∀l,H l=ao->Q (.ref l) (upd H l (.tup ys)))\/(dH K H p ys/\Q (.ref p) H))) Ny:=by
 intro Z Θ aj C σ H xs ds res S b e Q q;unfold Ny at e;refine hide λh g=>?_
 split at e
 case h_3=>cases e
 .cases e
  obtain⟨v,rfl,c⟩:=nR b
  obtain⟨a,vs,rfl,d,r⟩:=c.lst
  exact g (#[a,vs,rfl,.inl #[b7.of d,λl f=>q _ _ (bh.upd f) (Nt S r f)]])
 .cases e
  obtain⟨v,rfl,c⟩:=nR b
  obtain⟨a,vs,rfl,d,r⟩:=c.tup
  exact g (#[a,vs,rfl,.inr #[dH.of d,q _ H 003 #[S,c]]])
end
def FZ(n:String):aB->Option Bool
 |.none=>aa aH
 |.bool _=>aa (n=="bool"||n=="int")
 |.int _=>aa (n=="int")
 |.str _=>aa (n=="str")
 |.list _=>aa (n=="list")
 |.tuple _=>aa (n=="tuple")
 |.dict _=>ao
def Za(n:String):Bool:=n=="bool"||n=="int"||n=="str"||n=="list"||n=="tuple"
theorem ap1{K:aU}{b:Bool}(a:Za n=aq)(e:FZ n d=aa b):aaO K (Zw d) (.type n)=aa b:=by
 unfold Za at a;simp only[Bool.or_eq_true,beq_iff_eq] at a;rcases a with(((rfl|rfl)|rfl)|rfl)|rfl<;>cases d<;>cases e<;>rfl
theorem amE(e:FZ n d=aa b):∀au,d≠.dict au:=λau z=>by subst z;cases e
theorem gw.ty{K:aU}{aj:En}{σ:St}{H:Hp}{v:V}(h:gw Z Θ aj σ H d v)(e:∀au,d≠.dict au):p7 K H v (Zw d):=by
 cases d with
 |none=>exact RX.ty h
 |bool b=>exact RX.ty h
 |int i=>exact RX.ty h
 |str z=>exact RX.ty h
 |list ds=>
  obtain⟨a,vs,rfl,c,r⟩:=h.lst
  exact .lst c
 |tuple ds=>
  obtain⟨a,vs,rfl,c,r⟩:=h.tup
  exact .tup c
 |dict au=>grind
def qI(n:String)(f:FB):FE:=λaj C=>match f aj C with
 |some (d,_,C1)=>match FZ n d with
  |some b=>aa (.im (.bool b),aj,C1)
  |none=>ao
 |none=>ao
section
variable{X:Cx}{p pos tp:Pos}
theorem Jm(w:Za n=aq)(s:PE X a (fM X.K f))(u:PE X t (tC (.ty n)))(y:Gl X "isinstance")(o:X.mg "isinstance"=ao)(l:uc "isinstance"=aa (.builtin "isinstance"))
  (i:bI [a,t] X.env=(aH,eval a X.env)::bI [t] X.env:=by rfl)(g:bI [t] X.env=(aH,eval t X.env)::bI [] X.env:=by rfl)(e:(eN pos (bI [t] X.env)).any (·.1)=aH:=by rfl):
  PE X (.Call (.Name "isinstance" p) [a,t] [] pos) (tE X.K (qI n f)):=
 (Mw ajZ y o l (pO s (pO u pR g) i) aP (rfl) i e).weak λσ H Q aV=>by
  refine hide λz x=>?_
  obtain⟨Z,Θ,aj,C,r,bw,C',S,c,q⟩:=aV
  unfold qI at c;split at c
  case h_2=>trivial
  rename_i d e1 C1 h1;split at c
  case h_2=>trivial
  rename_i b h;cases(c);refine x (#[Z,Θ,_,C,d,e1,C',S,h1,λv H1 k f m j=>#[v,n,_,b,rfl,j.ty (amE h),ap1 w h,q _ H1 k 010 #[S.go k m.cell,rfl]]])
end
def ins{α:Type}(lt:α->α->Bool)(x:α):List α->List α
 |[]=>[x]
 |y::r=>if lt y x then y::ins lt x r else x::y::r
def dW{α:Type}(lt:α->α->Bool):List α->List α
 |[]=>[]
 |x::r=>ins lt x (dW lt r)
section
variable{α:Type}{lt:α->α->Bool}
theorem VP(x:α):∀l:List α,(ins lt x l).Perm (x::l)
 |[]=>G7 _
 |y::r=>by
  unfold ins;split
  .exact((VP x r).cons y).trans (ajg x y r)
  simp
theorem pM:∀l:List α,(dW lt l).Perm l
 |[]=>G7 _
 |x::r=>(VP x _).trans ((pM r).cons x)
structure Bs(lt:α->α->Bool)(P:α->Prop):Prop where
 BP:∀a b,P a->P b->lt a b=aq->lt b a=aH
 neg:∀a b c,P a->P b->P c->lt a c=aq->lt a b=aq\/lt b c=aq
 tot:∀a b,P a->P b->lt a b=aH->lt b a=aH->a=b
theorem aeT(O:Bs lt P)(c:P x):∀{l:List α},(∀y∈l,P y)->l.Pairwise (λa b=>lt b a=aH)->(ins lt x l).Pairwise (λa b=>lt b a=aH)
 |[],_,_=>wB.mpr #[λ_ m=>(nomatch m),Sv]
 |y::r,hp,h=>by
  rw[wB] at h;have d:=hp y cR;unfold ins;split
  .rename_i f;rw[wB]
   refine#[λz m=>?_,aeT O c (λz m=>hp z (dI _ m)) h.2]
   rcases cC.mp ((VP x r).mem_iff.mp m) with rfl|m
   .exact O.BP _ _ d c f
   grind
  .rw[wB,wB]
   refine#[λz m=>?_,h.1,h.2]
   rcases cC.mp m with rfl|m
   .lia
   .have e:=hp z (dI _ m);cases hz:lt z x with
    |false=>rfl
    |true=>
     rcases O.neg z y x e d c hz with h1|h1
     .grind
     lia
theorem Ia(O:Bs lt P):∀{l:List α},(∀y∈l,P y)->(dW lt l).Pairwise (λa b=>lt b a=aH)
 |[],_=>Sv
 |x::r,hp=>aeT O (hp x cR) (λy m=>hp y (dI _ ((pM r).mem_iff.mp m))) (Ia O λy m=>hp y (dI _ m))
theorem aeU(O:Bs lt P):∀{l m:List α},(∀y∈l,P y)->l.Perm m->l.Pairwise (λa b=>lt b a=aH)->m.Pairwise (λa b=>lt b a=aH)->l=m
 |[],m,_,p,_,_=>(List.nil_perm.mp p).symm
 |x::r,[],_,p,_,_=>absurd p.length_eq bH
 |x::r,y::t,hp,p,h1,h2=>by
  have f:=λz m=>hp z (p.mem_iff.mpr m)
  rw[wB] at h1 h2;have e:x=y:=by
   have c:=p.mem_iff.mp cR;have d:=p.mem_iff.mpr cR;rcases cC.mp c with e|c
   .exact e
   .rcases cC.mp d with e|d
    .lia
    .exact O.tot x y (hp x cR) (f y cR) (h2.1 x c) (h1.1 y d)
  subst e;rw[aeU O (λz m=>hp z (dI _ m)) ((List.perm_cons x).mp p) h1.2 h2.2]
theorem Aw(O:Bs lt P)(c:∀y∈l,P y)(p:m.Perm l)(h:m.Pairwise (λa b=>lt b a=aH)):m=dW lt l:=
 aeU O (λy d=>c y (p.mem_iff.mp d)) (p.trans (pM l).symm) h (Ia O c)
end
def ltI(i j:Int):Bool:=decide (i<j)
theorem arE:Bs ltI (λ_=>True):=#[λa b _ _ h=>by unfold ltI at *;grind,λa b c _ _ _ h=>by unfold ltI at *;grind,λa b _ _ h1 h2=>by unfold ltI at *;grind]
theorem uG:Bs strLt (λ_=>True):=by
 refine#[λa b _ _ h=>?_,λa b c _ _ _ h=>?_,λa b _ _ h1 h2=>?_]
 .exact an5 (a:=.inr a) (b:=.inr b) h
 .exact apM (a:=.inr a) (b:=.inr b) (c:=.inr c) rfl rfl h
 .exact LR (apO rfl h1 h2)
def strsOf:List aB->Option (List Str)
 |[]=>aa []
 |.str i::r=>match strsOf r with
  |some t=>aa (i::t)
  |none=>ao
 |_=>ao
theorem Ib:∀{ds:016}{ns:009}{vs:012},strsOf ds=aa ns->cF E ds vs->vs=ns.map V.str
 |[],ns,vs,h,r=>by cases h;exact r
 |.str i::ds,ns,vs,h,r=>by
  unfold strsOf at h;split at h
  .rename_i a;cases h
   obtain⟨u,w,rfl,q,s⟩:=r
   rw[Ib a s];have:=q;rw[this];rfl
  trivial
 |.none::_,_,_,h,_=>by cases h
 |.bool _::_,_,_,h,_=>by cases h
 |.int _::_,_,_,h,_=>by cases h
 |.list _::_,_,_,h,_=>by cases h
 |.tuple _::_,_,_,h,_=>by cases h
 |.dict _::_,_,_,h,_=>by cases h
def zB:aB->Option (List Bool)
 |.tuple xs=>(keysOf xs).map λks=>ks.map dz
 |_=>ao
def vX:Key->aB
 |.inl i=>.int i
 |.inr x=>.str x
def Yw:aB->List Key
 |.tuple xs=>(keysOf xs).getD []
 |_=>[]
def BZ(ds:016):List aB:=(uD (ds.map Yw)).map λk=>.tuple (k.map vX)
def JC(ds:016):Option (List aB):=if ds.length<64 then match intsOf ds with
  |some ns=>aa ((dW ltI ns).map .int)
  |none=>match strsOf ds with
   |some zs=>aa ((dW strLt zs).map .str)
   |none=>match ds with
    |[]=>aa []
    |d::_=>match zB d with
     |some (b::sh)=>if(ds.all λe=>decide (zB e=aa (b::sh))) then aa (BZ ds) else ao
     |_=>ao
 else ao
def MT:List aB->Option Vl
 |[.list ds]=>(JC ds).map λl=>.ow (.list l)
 |_=>ao
def XS(K:aU):List V->Hp->VK->Prop:=λxs H Q=>((∃(p:az)(ns:List Int),xs=[.ref p]/\b7 K H p (ns.map V.int)/\ns.length<64/\∀(l:az)(ns':List Int),H l=ao->ns'.Perm ns->ns'.Pairwise (·<=·)->Q (.ref l) (upd H l (.lst (ns'.map V.int))))\/
 ∃(p:az)(ns:List Str),xs=[.ref p]/\b7 K H p (ns.map V.str)/\ns.length<64/\∀(l:az)(ns':List Str),H l=ao->ns'.Perm ns->sortedS ns'=aq->Q (.ref l) (upd H l (.lst (ns'.map V.str))))\/
 ∃(p:az)(aL:List Row)(b:Bool)(sh:List Bool),xs=[.ref p]/\b7 K H p (aL.map λr=>V.ref r.1)/\aL.length<64/\(∀r∈aL,H r.1=aa (.tup (r.2.map kV))/\r.2.map dz=b::sh)/\∀(l:az)(rows':List Row),H l=ao->rows'.Perm aL->rows'.map (·.2)=uD (aL.map (·.2))->Q (.ref l) (upd H l (.lst (rows'.map λr=>V.ref r.1)))
theorem akA:gF X (.builtin "sorted") (XS X.K):=(aiT.or aiU).or aiD
theorem sortI(p:ns'.Perm ns)(h:ns'.Pairwise (·<=·)):ns'=dW ltI ns:=Aw arE (λ_ _=>trivial) p (h.imp λ{a b} hab=>by unfold ltI;grind)
theorem aeV:∀{x:Str}{r:009},risingS x r=aq->(x::r).Pairwise (λa b=>strLt b a=aH)
 |x,[],_=>wB.mpr #[λ_ m=>(nomatch m),Sv]
 |x,y::r,h=>by
  unfold risingS at h;rw[jc,aiJ] at h;have c:=aeV h.2;have d:strLt y x=aH:=by
   have:=h.1;unfold strLt
   rwa [lt_meets]
  rw[wB]
  refine#[λz m=>?_,c]
  rcases cC.mp m with rfl|m
  .lia
  .rw[wB] at c;cases hz:strLt z x with
   |false=>rfl
   |true=>
    rcases uG.neg z y x trivial trivial trivial hz with h1|h1
    .grind
    grind
theorem aeW(p:ns'.Perm ns)(h:sortedS ns'=aq):ns'=dW strLt ns:=Aw uG (λ_ _=>trivial) p (by
 cases ns' with
 |nil=>simp_all
 |cons x r=>exact aeV h)
theorem VR:∀{xs:016}{ks:List Key},keysOf xs=aa ks->xs=ks.map vX
 |[],ks,h=>by cases h;rfl
 |x::xs,ks,h=>by
  unfold keysOf at h;split at h
  .rename_i k t h1 h2;cases h;rw[VR h2];have:x=vX k:=by
    cases x<;>first|(cases h1;rfl)|trivial
   grind
  trivial
theorem V0:∀ks:List Key,keysOf (ks.map vX)=aa ks
 |[]=>rfl
 |k::ks=>by
  show(match fL _,keysOf _ with|some k,some t=>aa _|_,_=>ao)=_
  rw[V0 ks];cases k<;>rfl
theorem ab2{aL rows':List Row}(e:ds=aL.map (λr=>.tuple (r.2.map vX)))(h:rows'.map (·.2)=uD (aL.map (·.2))):(rows'.map λr=>aba (r.2.map vX))=BZ ds:=by
 have e1:ds.map Yw=aL.map (·.2):=by
  rw[e,eZ];refine yg λr _=>?_
  show(keysOf _).getD []=r.2
  rw[V0];rfl
 unfold BZ;rw[e1,<-h,eZ];rfl
theorem V1:∀{ds:016}{vs:012},(∀d∈ds,zB d=aa sh)->cF E ds vs->∃aL:List Row,vs=aL.map (λr=>V.ref r.1)/\ds=aL.map (λr=>.tuple (r.2.map vX))/\∀r∈aL,E r.1=aa (.tup (r.2.map kV))/\r.2.map dz=sh
 |[],vs,_,r=>#[[],r,rfl,λ_ m=>(nomatch m)]
 |d::ds,vs,h,r=>by
  obtain⟨u,w,rfl,q,s⟩:=r
  obtain⟨aL,e1,e2,g⟩:=V1 (λd m=>h d (dI _ m)) s
  have b:=h d cR;cases d<;>first|trivial|skip
  rename_i xs;have b:(keysOf xs).map _=aa sh:=b;cases hk:keysOf xs with
  |none=>grind
  |some ks=>
   obtain⟨a,f,rfl,e,c⟩:=q
   rw[Dw hk c] at e
   refine#[(a,ks)::aL,by grind,by rw[e2,VR hk];rfl,λr m=>?_]
   grind
theorem M4:∀{aL:List Row},(∀r∈aL,E r.1=aa (.tup (r.2.map kV)))->cF E (aL.map λr=>.tuple (r.2.map vX)) (aL.map λr=>V.ref r.1)
 |[],_=>rfl
 |r::aL,h=>by
  refine#[_,_,rfl,#[_,_,rfl,h r cR,?_],M4 λr m=>h r (dI _ m)]
  generalize r.2=ks;induction ks with
  |nil=>rfl
  |cons k ks ih=>exact#[_,_,rfl,by cases k<;>rfl,ih]
theorem V2:∀{ds:016}{ns:List Int},intsOf ds=aa ns->ds=ns.map .int
 |[],ns,h=>by cases h;rfl
 |.int i::ds,ns,h=>by
  unfold intsOf at h;split at h
  .rename_i a;cases h;rw[V2 a];rfl
  lia
 |.none::_,_,h=>by cases h
 |.bool _::_,_,h=>by cases h
 |.str _::_,_,h=>by cases h
 |.list _::_,_,h=>by cases h
 |.tuple _::_,_,h=>by cases h
 |.dict _::_,_,h=>by cases h
theorem acS:∀{ds:016}{ns:009},strsOf ds=aa ns->ds=ns.map .str
 |[],ns,h=>by cases h;rfl
 |.str i::ds,ns,h=>by
  unfold strsOf at h;split at h
  .rename_i a;cases h;rw[acS a];rfl
  lia
 |.none::_,_,h=>by cases h
 |.bool _::_,_,h=>by cases h
 |.int _::_,_,h=>by cases h
 |.list _::_,_,h=>by cases h
 |.tuple _::_,_,h=>by cases h
 |.dict _::_,_,h=>by cases h
theorem ald{K:aU}:j8 K (XS K) MT:=by
 intro Z Θ aj C σ H xs y res S b e Q q;unfold MT at e;refine hide λz o=>?_
 split at e
 case h_2=>cases e
 rename_i ds;cases hs:JC ds with
 |none=>rw[hs] at e;cases e
 |some l=>
  rw[hs] at e;cases e
  obtain⟨v,rfl,x⟩:=nR b
  obtain⟨a,vs,rfl,j,r⟩:=x.lst
  unfold JC at hs;split at hs
  case isFalse=>cases hs
  rename_i s;split at hs
  .rename_i ns c;cases hs;have n:=MK c r;subst n;refine o (.inl (.inl #[a,ns,rfl,b7.of j,by rwa [V2 c,bC] at s,λl ns' f p h=>?_]));rw[sortI p h];exact q _ _ (bh.upd f) (o7 S (acJ _) f)
  .split at hs
   .rename_i ns c;cases hs;have n:=Ib c r;subst n;refine o (.inl (.inr #[a,ns,rfl,b7.of j,by rwa [acS c,bC] at s,λl ns' f p h=>?_]));rw[aeW p h];exact q _ _ (bh.upd f) (o7 S (Mz _) f)
   .split at hs
    .cases hs
     cases(r)
     trivial
    .split at hs
     case h_2=>cases hs
     rename_i t u w;split at hs
     case isFalse=>cases hs
     rename_i i;cases hs;have g:=λd m=>of_decide_eq_true (jT.mp i d m)
     obtain⟨aL,e1,e2,k⟩:=V1 g r
     subst e1;refine o (.inr #[a,_,t,u,rfl,b7.of j,?_,λr m=>#[gW (k r m).1,(k r m).2],λl rows' f p h=>?_])
     .have:=congrArg ue e2;rw[bC] at this
      rwa [<-this]
     .have es:=ab2 e2 h;rw[<-es] at q;exact q _ _ (bh.upd f) (o7 S (M4 λr m=>(k r (p.mem_iff.mp m)).1) f)
def Ot:aB->aB->Option Vl
 |.str z,.list ds=>match strsOf ds with
  |some ys=>if(ys.map (·.length)).sum+ys.length*z.length<=eE then aa (.im (.str (Txt.join z ys))) else ao
  |none=>ao
 |_,_=>ao
def Pj(f g:FB):FE:=bA Ot f g
theorem aol(A:PE X o (fM X.K f))(I:PE X e (fM X.K g))
  (b:sE o "join" X.env (eval o X.env)=eval o X.env:=by rfl)
  (d:((eN cpos (bI [e] X.env)).all (λx=>!x.1)&&(pN cpos (pL [] X.env)).all (λx=>x.1.isSome)
   &&decide (([e]:List Expr).length+([]:List pP).length+(if([]:List pP).isEmpty then 0 else 1)<30))=aq:=by rfl)
  (c:(apos.endLine==cpos.line)=aq:=by rfl)(l:bI [e] X.env=006::bI [] X.env:=by rfl)(hplain:(eN cpos (bI [] X.env)).any (·.1)=aH:=by rfl):
  PE X (.Call (.Attribute o "join" apos) [e] [] cpos) (tE X.K (Pj f g)):=
 (Ew PySem.F.plainAttrs_str PySem.F.slot_str_join PySem.F.type_str_join (uO.r anZ) A (pO I pR l) b d c l hplain).weak λσ H Q aV=>by
  refine hide λJ G=>?_
  obtain⟨Z,Θ,aj,C,r,bw,C',S,h,q⟩:=aV
  unfold Pj bA at h;split at h
  case h_2=>lia
  rename_i x e1 C1 h1;split at h
  case h_2=>lia
  rename_i e2 C2 h2;split at h
  case h_2=>lia
  rename_i i;cases(h);refine G (#[Z,Θ,_,C,x,e1,C1,S,h1,λv H1 D n u p=>?_]);unfold Ot at i;split at i
  case h_2=>lia
  rename_i z ds;split at i
  case h_2=>lia
  rename_i ys j;split at i
  case isFalse=>lia
  rename_i E;cases(i);cases p.str
  refine#[rfl,Z,Θ,e1,C1,_,e2,C',u,h2,λw H2 F y t B=>?_]
  obtain⟨a,vs,rfl,k,s⟩:=B.lst
  rw[Ib j s] at k;have m:=D.trans F
  exact#[z,a,ys,rfl,rfl,b7.of k,by unfold eE at E;lia,q _ H2 m ((n.trans y).rst _) (Res.rst S m #[t,rfl])]
abbrev FO:=En->Ce->Option (Option Int×Ce)
inductive Ko(K:aU)(f:FO)(σ:St)(H:Hp)(Q:Option Int->Hp->Prop):Prop
 |mk (Z Θ:015) (aj:En) (C:Ce) (o:Option Int) (C':Ce) (S:09) (hf:f aj C=aa (o,C')) (q:∀H',bh Θ H H'->Sm K Z Θ aj C' σ H'->Q o H'):Ko K f σ H Q
def rY:FO:=λ_ C=>aa (ao,C)
def qP(f:FB):FO:=λaj C=>match f aj C with
 |some (.int i,_,C1)=>aa (aa i,C1)
 |_=>ao
def iY{α:Type}(xs:List α)(lo hi:Option Int):List α:=(xs.drop (HT.eX xs.length 0 lo)).take (HT.eX xs.length xs.length hi-HT.eX xs.length 0 lo)
def Kq(lo hi:Option Int):aB->Option Vl
 |.str z=>if z.length<=eE then aa (.im (.str (Txt.slice z lo hi))) else ao
 |.list ds=>aa (.ow (.list (iY ds lo hi)))
 |.tuple ds=>aa (.im (.tuple (iY ds lo hi)))
 |_=>ao
def qQ(f:FB)(lo hi:FO):FE:=λaj C=>match f aj C with
 |some (d,e1,C1)=>match lo e1 C1 with
  |some (l,C2)=>match hi e1 C2 with
   |some (h,C3)=>match Kq l h d with
    |some r=>aa (r,rst r aj e1,C3)
    |none=>ao
   |none=>ao
  |none=>ao
 |none=>ao
theorem WL{E:Hp}{lo hi:Option Int}(r:cF E ds vs):cF E (iY ds lo hi) (xQ vs lo hi):=by
 unfold iY xQ;rw[jL r];exact acH _ (acI _ r)
section
variable{X:Cx}{lo hi:Option Expr}
theorem PO.weak(h:PO X o t)(w:∀σ H Q,t' σ H Q->t σ H Q):PO X o t':=λaA s σ H Q I q=>h _ s σ H Q I (w σ H Q q)
theorem JD:PO X ao (Ko X.K rY):=anO.weak λσ H Q aV=>by
 obtain⟨Z,Θ,aj,C,o,C',S,a,q⟩:=aV
 cases(a);exact q H 003 S
theorem JF(h:PE X e (fM X.K f)):PO X (aa e) (Ko X.K (qP f)):=(anP h).weak λσ H Q aV=>by
 refine hide λg d=>?_
 obtain⟨Z,Θ,aj,C,o,C',S,a,q⟩:=aV
 unfold qP at a;split at a
 .rename_i i e1 C1 h1;cases(a);exact d (#[Z,Θ,_,C,_,e1,C',S,h1,λv H1 k f c b=>#[i,b,q H1 k (S.go k c.cell)]])
 trivial
theorem JG{f:FB}{j i:FO}(P:PE X e (fM X.K f))(K:PO X lo (Ko X.K j))(M:PO X hi (Ko X.K i)):PE X (.Subscript e (.Slice lo hi ao p2) pos) (tE X.K (qQ f j i)):=(al4 ((apL.or anR).or an6) P K M).weak λσ H Q aV=>by
 refine hide λT O=>?_
 obtain⟨Z,Θ,aj,C,r,bw,C',S,c,q⟩:=aV
 unfold qQ at c;split at c
 case h_2=>lia
 rename_i d e1 C1 h1;split at c
 case h_2=>lia
 rename_i l C2 h2;split at c
 case h_2=>lia
 rename_i h C3 L;split at c
 case h_2=>lia
 rename_i s;cases(c);refine O (#[Z,Θ,_,C,d,e1,C1,S,h1,λv H1 J E x F=>#[Z,Θ,e1,C1,l,C2,x,h2,λH2 y G=>#[Z,Θ,e1,C2,h,C',G,L,λB D g=>?_]]]);have u:=(J.trans y).trans D;have t:=F.go x (y.trans D) 010;have b:∀{w:V}{m:Hp},bh Θ B m->Res _ Z Θ e1 C' σ B m r w->Q w m:=λ{w m} k4 R=>q w m (u.trans k4) (E.rst _) ((R.from u).rst S (u.trans k4))
 cases d<;>first|cases s|skip
 .rename_i z;simp only[Kq] at s;split at s
  .rename_i I;cases(s);cases t.str;exact .inl (.inl #[z,rfl,vo I,b 003 (iQ g rfl rfl)])
  lia
 .obtain⟨a,vs,rfl,o,n⟩:=t.lst
  exact .inl (.inr #[a,vs,rfl,b7.of o,λp k=>b (bh.upd k) (o7 g (WL n) k)])
 .obtain⟨a,vs,rfl,o,n⟩:=t.tup
  refine .inr #[a,vs,rfl,dH.of o,λN=>?_,λp k=>b (bh.upd k) (Nt g (WL n) k)];have A:=WL (lo:=l) (hi:=h) n;rw[N] at A;refine b 003 #[g,a,vs,rfl,Ji g o,A]
end
def vO:List (aB×aB)->Bool
 |[]=>aq
 |p::r=>fU p.2&&vO r
section
variable{X:Cx}
theorem ajM(E:011):gF X (.type "list") (λxs H Q=>∃(d:az)(au:List (Key×V)),xs=[.ref d]/\vU H d au/\∀l,H l=ao->Q (.ref l) (upd H l (.lst (au.map λg=>kV g.1)))):=by
 intro aA s σ H xs us Q I r h;refine hide λJ F=>?_
 obtain⟨d,au,rfl,n,q⟩:=h
 obtain⟨u,rfl,D⟩:=vals1 r
 cases D
 obtain⟨z,lo,vs,c,m⟩:=xr I.hok n
 obtain⟨ep,j⟩:=m.dictAt
 have o:=(Paired.length c).symm;refine F (kdl_call (kdl_dict lo) (I.ok.hd E) j (by rwa [o]) λh' G a C kp e b=>?_);have B:Vals (au.map λg=>kV g.1) a.toList:=by
  have h2:a.toList.length=vs.length:=(b.1)
  have f:∀i v,a.toList[i]?=aa v->∃k x,vs[i]?=aa _/\(gV _ _).is k v=aq:=λi v e=>let ⟨k,x,h⟩:=b.2 i v 002;#[k,x,h]
  clear e b m j;generalize a.toList=us at h2 f;clear n q z o;induction c generalizing us with
  |nil=>
   cases us with
   |nil=>exact .nil
   |cons _ _=>cases h2
  |@cons p w ps ws hp _ ih=>
   cases us with
   |nil=>cases h2
   |cons u us=>
    refine .cons ?_ (ih us 002 λi v e=>by simpa using f (i+1) v (by simpa using e))
    obtain⟨k,x,e1,e2⟩:=f 0 u rfl
    simp at e1;have A:k=p.1:=by lia
    subst A;rcases qt e2 with⟨i,t,e3,e4⟩|⟨y,t,e3,e4⟩
    .show RelV (kV _) u;rw[e3,e4];exact#[t,rfl]
    .show RelV (kV _) u;rw[e3,e4];exact#[t,rfl]
 refine#[.ref _,_,I.laid kp (bQ _) (show kO _ _ _ h' _ (.lst _) from#[by grind,_,C,B,by simpa using e]),rfl,q _ (I.hok.fresh (bQ _))]
def wQ:List aB->Option Vl
 |[.list ds]=>aa (.ow (.list ds))
 |[.tuple ds]=>aa (.ow (.list ds))
 |[.dict au]=>if(cj fL au).isSome then aa (.ow (.list (au.map (·.1)))) else ao
 |_=>ao
def aeX(K:aU):List V->Hp->VK->Prop:=λxs H Q=>(∃p ys,xs=[.ref p]/\(b7 K H p ys\/dH K H p ys)/\∀l,H l=ao->Q (.ref l) (upd H l (.lst ys)))\/∃(d:az)(au:List (Key×V)),xs=[.ref d]/\vU H d au/\∀l,H l=ao->Q (.ref l) (upd H l (.lst (au.map λkv=>kV kv.1)))
theorem Uu(a:011):gF X (.type "list") (aeX X.K):=ajJ.or (ajM a)
theorem acT:∀{au:List (aB×aB)}{ks:List Key}{vs:012},cj fL au=aa ks->ks.length=vs.length->cF E (au.map (·.1)) ((ks.zip vs).map λa=>kV a.1)
 |[],ks,vs,h,_=>by cases h;rfl
 |(p,d)::au,ks,vs,h,hl=>by
  unfold cj at h;split at h
  .rename_i h1 h2;cases h;cases vs with
   |nil=>trivial
   |cons v vs=>
    refine#[_,_,rfl,?_,acT h2 002]
    cases p<;>first|(cases h1;rfl)|trivial
  trivial
theorem V3{K:aU}:j8 K (aeX K) wQ:=by
 intro Z Θ aj C σ H xs ds res S b e Q q;unfold wQ at e;split at e
 case h_4=>cases e
 .cases e
  obtain⟨v,rfl,f⟩:=nR b
  obtain⟨a,vs,rfl,d,r⟩:=f.lst
  exact .inl #[a,vs,rfl,.inl (b7.of d),λl c=>q _ _ (bh.upd c) (o7 S r c)]
 .cases e
  obtain⟨v,rfl,f⟩:=nR b
  obtain⟨a,vs,rfl,d,r⟩:=f.tup
  exact .inl #[a,vs,rfl,.inr (dH.of d),λl c=>q _ _ (bh.upd c) (o7 S r c)]
 .split at e
  case isFalse=>cases e
  rename_i h;cases e
  obtain⟨v,rfl,f⟩:=nR b
  obtain⟨a,vs,rfl,g,r⟩:=f.dct
  rcases g with⟨ks,h1,d⟩|⟨ks,⟨ne,h2⟩,d⟩
  .exact .inr #[a,_,rfl,Rt d,λl c=>q _ _ (bh.upd c) (o7 S (acT h1 (by rw[sS h1,Iu r])) c)]
  .obtain⟨i,h1⟩:=uY.mp h
   exact absurd (vp h1 h2) ne
def WM:List aB->Option Vl
 |[.dict []]=>ao
 |[.dict ((k,v)::r)]=>match zB k with
  |some (b::sh)=>if r.length<63/\(((k,v)::r).all λp=>decide (zB p.1=aa (b::sh)))=aq then aa (.ow (.list (BZ (((k,v)::r).map (·.1))))) else ao
  |_=>ao
 |_=>ao
theorem ab3:∀{au:List (aB×aB)}{ks:List TK},cj iJ au=aa ks->(∀p∈au,zB p.1=aa sh)->au.map (·.1)=ks.map (λk=>.tuple (k.1.map vX))/\∀k∈ks,k.2=ao/\k.1.map dz=sh
 |[],ks,h,_=>by cases h;grind
 |(p,d)::au,ks,h,hs=>by
  unfold cj at h;split at h
  .rename_i k t h1 h2;cases h
   obtain⟨c,i⟩:=ab3 h2 λq m=>hs q (dI _ m)
   have b:=hs _ cR
   obtain⟨xs,rfl,e⟩:∃xs,p=.tuple xs/\(keysOf xs).map _=aa k:=by
    have a:iJ p=aa k:=h1;unfold iJ at a;split at a
    .trivial
    .exact#[_,rfl,a]
    lia
   obtain⟨k,f,rfl⟩:=lW.mp e
   have b:(keysOf xs).map _=aa sh:=b
   refine#[by rw[cM,c,VR f];rfl,λg m=>?_]
   grind
  lia
theorem amF{K:aU}:j8 K (λxs H Q=>∃(d:az)(au:List (TK×V))(b:Bool)(sh:List Bool),xs=[.ref d]/\Cw H d au/\au.length<64/\(∀i∈au,i.1.2=ao/\i.1.1.map dz=b::sh)/\
  ∀(l:az)(aL:List Row),H l=ao->(aL.map (·.2)).Perm (au.map (·.1.1))->aL.map (·.2)=uD (au.map (·.1.1))->(∀r∈aL,H r.1=aa (.tup (r.2.map kV)))->Q (.ref l) (upd H l (.lst (aL.map λr=>V.ref r.1)))) WM:=by
 intro Z Θ aj C σ H xs ds res S b e Q q;unfold WM at e;refine hide λI F=>?_
 split at e
 .cases e
 .rename_i h n u;split at e
  case h_2=>cases e
  rename_i B sh j;split at e
  case isFalse=>cases e
  rename_i f;cases e;have c:=λd m=>of_decide_eq_true (jT.mp f.2 d m)
  obtain⟨v,rfl,G⟩:=nR b
  obtain⟨a,vs,rfl,A,r⟩:=G.dct
  rcases A with⟨ks,h1,ha⟩|⟨ks,⟨ne,h2⟩,ha⟩
  .exfalso;unfold cj at h1;split at h1
   .rename_i t y J;cases h<;>(cases y)
    all_goals cases j
   .cases h1
  .obtain⟨e1,e2⟩:=ab3 h2 c
   have x:=sS h2;have E:=Iu r;have s:(ks.zip vs).map (·.1)=ks:=by
    rw[SJ];rw[x,E];exact bQ _
   refine F (#[a,_,B,sh,rfl,rdT ha,?_,λi m=>e2 _ (Tc m).1,λl aL w p o D=>?_])
   .rw[G4,x,iM];lia
   .have g:(ks.zip vs).map (·.1.1)=ks.map (·.1):=by rw[<-s,eZ,s];rfl
    rw[g] at o;have z:(((h,n)::u).map (·.1)).map Yw=ks.map (·.1):=by
     rw[e1,eZ];refine yg λk _=>?_
     show(keysOf _).getD []=k.1
     rw[V0];rfl
    have es:(aL.map λr=>aba (r.2.map vX))=BZ (((h,n)::u).map (·.1)):=by
     unfold BZ;rw[z,<-o,eZ];rfl
    rw[<-es] at q;exact q _ _ (bh.upd w) (o7 S (M4 λr m=>Ji S (D r m)) w)
 .cases e
theorem aeY{K:aU}(h:j8 K r op)(h':j8 K r' op'):j8 K (λxs H Q=>r xs H Q\/r' xs H Q) (λds=>match op ds with|some z=>aa z|none=>op' ds):=by
 intro Z Θ aj C σ H xs ds res S b e Q q;cases h1:op ds with
 |some z=>
  simp only[h1] at e;cases e;exact .inl (h Z Θ _ C σ H xs ds _ S b h1 Q q)
 |none=>
  simp only[h1] at e;exact .inr (h' Z Θ _ C σ H xs ds _ S b e Q q)
end
section
variable{X:Cx}{tg e:Expr}
def zE:aB->Option (List aB)
 |.list ds=>aa ds
 |.tuple ds=>aa ds
 |_=>ao
def qj(f:FB):FI:=λaj C=>match f aj C with
 |some (d,e1,C1)=>match zE d with
  |some aK=>aa (aK,e1,C1)
  |none=>ao
 |none=>ao
def ql(f:FE):FI:=λaj C=>match f aj C with
 |some (r,e1,C1)=>match still r with
  |.im d=>match zE d with
   |some aK=>aa (aK,e1,C1)
   |none=>ao
  |_=>ao
 |none=>ao
theorem JH(h:PE X e (fM X.K f)):PI X tg e (tI X.K aq (qj f)):=((Il h).or (N7 h)).weak λσ H R aV=>by
 refine hide λm j=>?_
 obtain⟨Z,Θ,aj,C,l,bw,C',S,g,q⟩:=aV
 unfold qj at g;split at g
 .rename_i d e1 C1 h1;split at g
  .rename_i hi;cases(g);cases d<;>(cases(hi))
   .refine j (.inl #[Z,Θ,_,C,_,_,C',S,h1,λv H1 k f i b=>?_])
    obtain⟨a,vs,rfl,c,r⟩:=b
    exact#[a,rfl,#[vs,b7.of (gW c)],q _ H1 k f i (Nv c r)]
   .refine j (.inr #[Z,Θ,_,C,_,_,C',S,h1,λv H1 k f i b=>?_])
    obtain⟨a,vs,rfl,c,r⟩:=b
    exact#[a,rfl,#[vs,dH.of (gW c)],q _ H1 k f i (Om c r)]
  lia
 lia
theorem Yx(h:PE X e (tE X.K f)):PI X tg e (tI X.K aH (ql f)):=((Il h).or (N7 h)).weak λσ H R aV=>by
 obtain⟨Z,Θ,aj,C,j,bw,C',S,b,q⟩:=aV
 unfold ql at b;split at b
 .rename_i r e1 C1 h1;split at b
  .rename_i d i;split at b
   .rename_i ys hi;cases(b);cases d<;>first|cases hi|skip
    .refine .inl #[Z,Θ,aj,C,_,bw,C',S,h1,λv H1 k f R=>?_]
     obtain⟨g,a,vs,rfl,c,r⟩:=R.uz i
     exact#[a,rfl,#[vs,b7.of (gW c)],q _ H1 k f g (Nv c r)]
    .refine .inr #[Z,Θ,aj,C,_,bw,C',S,h1,λv H1 k f R=>?_]
     obtain⟨g,a,vs,rfl,c,r⟩:=R.uz i
     exact#[a,rfl,#[vs,dH.of (gW c)],q _ H1 k f g (Om c r)]
   .cases(b)
  .cases(b)
 .cases(b)
theorem ajh(n:011):gF X (.builtin "sorted") (λxs H Q=>∃d:az,xs=[.ref d]/\(∃ep,H d=aa (.dK [] ep))/\∀l,H l=ao->Q (.ref l) (upd H l (.lst []))):=by
 intro aA s σ H xs us Q I r h
 obtain⟨d,rfl,⟨ep,c⟩,q⟩:=h
 refine bY (aaL n _ s σ _ _ us (λv H'=>∃l,v=.ref l/\H l=ao/\H'=upd (upd H d (.dT [] ep)) l (.lst [])) (I.Kf c) r #[d,[],aq,[],rfl,#[ep,.inl fK],aP,(λ_ m=>nomatch m),λl aL a p _ _=>?_]) λu s' ⟨v,H',g,i,l,k,a,j⟩=>?_
 .have:aL=[]:=by
   simp_all
  subst this
  refine#[l,rfl,?_,rfl]
  by_cases z:l=d
  .subst z;rw[fK] at a;lia
  .rwa [c7 z] at a
 .subst k j;have f:=sI c a;have e:upd (upd H d (.dT [] ep)) l (.lst [])=upd (upd H l (.lst [])) d (.dT [] ep):=by
   funext b;by_cases h1:b=l
   .subst h1;rw[fK,c7 (jK f),fK]
   .rw[c7 h1];by_cases h2:b=d
    .subst h2;rw[fK,fK]
    .rw[c7 h2,c7 h2,c7 h1]
  rw[e] at g
  exact#[_,_,g.Zv (by rwa [c7 f]),i,q l a]
def WN:List aB->Option Vl
 |[.dict []]=>aa (.ow (.list []))
 |_=>ao
theorem amG{K:aU}:j8 K (λxs H Q=>∃d:az,xs=[.ref d]/\(∃ep,H d=aa (.dK [] ep))/\∀l,H l=ao->Q (.ref l) (upd H l (.lst []))) WN:=by
 intro Z Θ aj C σ H xs ds res S b e Q q;unfold WN at e;refine hide λi g=>?_
 split at e
 case h_2=>cases e
 cases e
 obtain⟨v,rfl,h⟩:=nR b
 obtain⟨a,vs,rfl,f,r⟩:=h.dct
 rcases f with⟨ks,h1,ha⟩|⟨ks,⟨ne,_⟩,_⟩
 .cases h1;exact g (#[a,rfl,ha,λl c=>q _ _ (bh.upd c) (o7 S rfl c)])
 lia
def yH(ds:016):Option Vl:=match MT ds with
 |some z=>aa z
 |none=>match WM ds with
  |some z=>aa z
  |none=>WN ds
abbrev aeZ(K:aU):List V->Hp->VK->Prop:=λxs H Q=>XS K xs H Q\/((∃(d:az)(au:List (TK×V))(b:Bool)(sh:List Bool),xs=[.ref d]/\Cw H d au/\au.length<64/\(∀kv∈au,kv.1.2=ao/\kv.1.1.map dz=b::sh)/\
  ∀(l:az)(aL:List Row),H l=ao->(aL.map (·.2)).Perm (au.map (·.1.1))->aL.map (·.2)=uD (au.map (·.1.1))->(∀r∈aL,H r.1=aa (.tup (r.2.map kV)))->Q (.ref l) (upd H l (.lst (aL.map λr=>V.ref r.1))))\/∃d:az,xs=[.ref d]/\(∃ep,H d=aa (.dK [] ep))/\∀l,H l=ao->Q (.ref l) (upd H l (.lst [])))
theorem Uv(a:011):gF X (.builtin "sorted") (aeZ X.K):=akA.or ((aaL a).or (ajh a))
theorem V4{K:aU}:j8 K (aeZ K) yH:=aeY ald (aeY amF amG)
end
theorem wR(h:kW o=aa xs):o=aa (.lst xs):=by
 cases o with
 |none=>cases h
 |some c=>
  cases c with
  |lst ys=>cases h;rfl
  |b8 au=>cases h
  |uR=>cases h
  |obj=>cases h
theorem wU(n:∀a∈P,NT (H a))(d:H b=aa (.tup ws)):er P H b=aa (.tup ws):=by
 unfold er;rw[bK]
 .trivial
 .intro m
  obtain⟨u,c,nt⟩:=n b m
  simp_all
def uH(i:Nat)(f:FB):FE:=λaj C=>match aj[i]? with
 |some (some (.ce n))=>match f aj C with
  |some (.int k,_,C1)=>match kW C1[n]? with
   |some xs=>match fG xs k with
    |some (.dat d)=>aa (.im d,aj,C1)
    |_=>ao
   |none=>ao
  |_=>ao
 |_=>ao
theorem Bj(D:PE X o (jx i))(t:PE X k (fM X.K f))(B:Im k):PE X (.Subscript o k pos) (tE X.K (uH i f)):=(O9 Wr D t B).weak λσ H Q aV=>by
 refine hide λJ F=>?_
 obtain⟨Z,Θ,aj,C,r,bw,C',S,c,q⟩:=aV
 unfold uH at c;split at c
 case h_2=>lia
 rename_i n x;split at c
 case h_2=>lia
 rename_i z e1 C1 h1;split at c
 case h_2=>trivial
 rename_i e;split at c
 case h_2=>lia
 rename_i d;cases(c)
 obtain⟨v,E,a,rfl,g⟩:=S.slot i _ x
 refine F (#[_,E,Z,Θ,_,C,_,e1,C',S,h1,λw H1 p G m s=>?_]);have h:=S.go p m.cell
 obtain⟨vs,y,l⟩:=m.cell.at_ n a _ g (wR e)
 unfold fG at d;cases hj:nu _ z with
 |none=>rw[hj] at d;trivial
 |some j=>
  rw[hj] at d
  obtain⟨u,I,nl,rz⟩:=l.at d
  refine#[a,_,z,u,rfl,s,b7.of y,?_,q _ H1 p 010 #[h,RZ.fU (λb ws A=>?_) nl rz]]
  .unfold fG
   rwa [l.len,hj]
  .exact wU h.oN A
theorem ae0{C:Ce}(h:C[b]?=aa l):(C.set b l')[b]?=aa l':=by grind
theorem mul_eq(h:(-18446744073709551616<i/\i<18446744073709551616)\/(-18446744073709551616<j/\j<18446744073709551616)):rH (.int i) (.int j)=aa (08 (i*j)):=by
 exact bG h
theorem mod_eq(h:0<j):tB (.int i) (.int j)=aa (08 (i%j)):=by
 exact bG h
theorem fdiv_eq(h:0<j)(h1:j<1073741824):qw (.int i) (.int j)=aa (08 (i / j)):=by
 exact bG #[h,h1]
theorem acU(I:Nat->En->Ce->Prop):∀{aK:016}{aj:En}{C:Ce}{k:Nat},I k aj C->
  (∀i d aj C,aK[i]?=aa d->I (k+i) aj C->∃e1 a bw C',g d aj=aa e1/\body e1 C=aa (a,bw,C')/\(a=.nx\/a=.ct)/\I (k+i+1) bw C')->
  ∃bw C',mZ g body aK aj C=aa (.nx,bw,C')/\I (k+aK.length) bw C'
 |[],aj,C,k,h,_=>#[_,C,rfl,h]
 |d::r,aj,C,k,h,st=>by
  obtain⟨e1,a,c,C1,h1,h2,j,e⟩:=st 0 d _ C rfl h
  obtain⟨b,C2,l,f⟩:=acU I e λi d' aj C m hi=>by
   have:=st (i+1) d' _ C (by trivial) (by rwa [show k+(i+1)=k+1+i by lia])
   rwa [show k+(i+1)+1=k+1+i+1 by lia] at this
  refine#[_,C2,?_,by rwa [iM,show k+(r.length+1)=k+1+r.length by lia]]
  unfold mZ
  grind
theorem HH(I:Nat->En->Ce->Prop)(h:I 0 aj C)
  (st:∀i d aj C,aK[i]?=aa d->I i aj C->∃e1 a bw C',g d aj=aa e1/\body e1 C=aa (a,bw,C')/\(a=.nx\/a=.ct)/\I (i+1) bw C'):
  ∃bw C',mZ g body aK aj C=aa (.nx,bw,C')/\I aK.length bw C':=by
 have:=acU I h λi d aj C b hi=>by
  rw[Hs] at hi⊢;exact st i d aj C b hi
 rwa [Hs] at this
theorem acV(lo:Int)(n:Nat):(qH lo n).length=n:=by unfold qH;grind
theorem WQ{lo:Int}(h:(qH lo n)[i]?=aa d):d=.int (lo+i)/\i<n:=by
 unfold qH at h
 grind
theorem ab4(I:Nat->Ce->Prop)(R:Nat->aB->Prop):∀{aK:016}{C:Ce}{k:Nat},I k C->(∀i d C,aK[i]?=aa d->I (k+i) C->∃ts x e C' y,yc T d=aa ts/\fe (cW ts++fs) C=aa (x,e,C')/\still x=.im y/\R (k+i) y/\I (k+i+1) C')->
  ∃ys C',gQ T dh fe fs aK C=aa (ys,C')/\I (k+aK.length) C'/\ys.length=aK.length/\∀i y,ys[i]?=aa y->R (k+i) y
 |[],C,k,h,_=>#[[],C,rfl,h,rfl,λi y e=>by simp at e]
 |d::r,C,k,h,st=>by
  obtain⟨ts,x,e,C1,y,h1,h2,c,f,l⟩:=st 0 d C rfl h
  obtain⟨ys,C2,b,n,g,j⟩:=ab4 I R l λi d' C m hi=>by
   have:=st (i+1) d' C (by simpa using m) (by rwa [show k+(i+1)=k+1+i by lia])
   rwa [show k+(i+1)+1=k+1+i+1 by lia,show k+(i+1)=k+1+i by lia] at this
  refine#[y::ys,C2,?_,by rwa [iM,show k+(r.length+1)=k+1+r.length by lia],by simp[g],λi z a=>?_]
  .unfold gQ;simp only[h1,dh,h2,c];rw[b]
  .cases i with
   |zero=>simp at a;subst a;exact f
   |succ i=>
    have:=j i z (by simpa using a)
    rwa [show k+(i+1)=k+1+i by lia]
theorem afR(h1:fi aj C=aa (aK,e1,C1))(h2:gQ T ft fe (frB js e1) aK C1=aa (ys,C2))(b:ys.length<=1000000)(a:iW ys=aq):eF fi T ft fe js aj C=aa (.ow (.list ys),e1,C2):=by
 unfold eF;simp only[h1,h2,a,if_true];exact bG b
theorem Ff(h1:f aj C=aa (d,e1,C1))(h2:zM d=aa aK):iB f aj C=aa (aK,e1,C1):=by
 unfold iB;simp only[h1,h2]
theorem ap2(h1:f aj C=aa (d,e1,C1))(h2:zE d=aa aK):qj f aj C=aa (aK,e1,C1):=by
 unfold qj;simp only[h1,h2]
theorem Bt(h1:f aj C=aa (r,e1,C1))(a:still r=.im d)(h2:zM d=aa aK):iV f aj C=aa (aK,e1,C1):=by
 unfold iV;simp only[h1,a,h2]
theorem XX(h1:f aj C=aa (r,e1,C1))(a:still r=.im d)(h2:zE d=aa aK):ql f aj C=aa (aK,e1,C1):=by
 unfold ql;simp only[h1,a,h2]
theorem ae1(h1:f aj C=aa (.int m,e1,C1))(h2:-1000000<=m)(a:m<=1000000):uU f aj C=aa (qH 0 m.toNat,aj,C1):=by
 unfold uU;simp only[h1];exact bG aD
theorem uv(h1:fi aj C=aa (aK,e1,C1)):iD fi g body aj C=mZ g body aK e1 C1:=by
 unfold iD;simp only[h1]
theorem seq_eq(h:f aj C=aa (.nx,e1,C1)):bV f g aj C=g e1 C1:=by
 unfold bV;simp only[h]
theorem sY(h:f aj C=aa (r,e1,C1))(h2:dat r=aa d):aX f aj C=aa (d,e1,C1):=by
 unfold aX;simp only[h,h2,pI]
theorem X3(h1:fa aj C=aa (x,e1,C1))(h2:fb e1 C1=aa (y,e2,C2))(a:op x y=aa r):bA op fa fb aj C=aa (r,rst r aj e2,C2):=by
 unfold bA;simp only[h1,h2,a]
theorem X4(b:0<=k)(h1:k<xs.length):∃x,fG xs k=aa x/\xs[k.toNat]?=aa x:=by
 have a:k.toNat<xs.length:=aD
 refine#[_,?_,qR a]
 unfold fG nu
 grind
def ZL(z:Str):Bool:=z.cps.toList.all λc=>decide (97<=c)&&decide (c<=122)
def nameB(z:Str):Bool:=decide (1<=z.length)&&decide (z.length<=8)&&ZL z
abbrev abc:Str:=aO "abcdefghijklmnopqrstuvwxyz"
theorem ap3(b:0<=r)(a:r<26):fG abc.cps.toList r=aa (97+r.toNat):=by
 have h:∀k:Nat,k<26->fG abc.cps.toList k=aa (97+k):=bz
 grind
theorem abC:∀(l:List Nat)(a:Array Nat),((l.map λc=>(#[#v[c]]:Str)).foldl (λaM p=>aM++(aO "").cps++p.cps) a).toList=a.toList++l
 |[],a=>by simp
 |c::r,a=>by
  simp only[cM,ai5];rw[abC r];have e:(aO "").cps=#v[]:=rfl
  grind
theorem abD:∀(l:List Nat),(Txt.join (aO "") (l.map λc=>(#[#v[c]]:Str))).cps.toList=l
 |[]=>rfl
 |c::r=>by
  show(((r.map _)).foldl _ #v[c]).toList=c::r
  rw[abC r];rfl
theorem adZ:∀ys:List Nat,(ys.map ((λx:Str=>x.length) ∘ λc=>(#[#v[c]]:Str))).sum=ys.length
 |[]=>rfl
 |c::r=>by
  rw[cM,t8,adZ r];show 1+r.length=r.length+1;lia
theorem ale{l:List Nat}(h1:1<=l.length)(h2:l.length<=8)(a:∀c∈l,97<=c/\c<=122):nameB (Txt.join (aO "") (l.map λc=>(#[#v[c]]:Str)))=aq:=by
 have e:=abD l;have e2:(Txt.join (aO "") (l.map λc=>(#[#v[c]]:Str))).length=l.length:=by
  show(Txt.join (aO "") (l.map λc=>(#[#v[c]]:Str))).cps.size=_
  rw[show l.length=(Txt.join (aO "") (l.map λc=>(#[#v[c]]:Str))).cps.toList.length from congrArg ue e.symm];simp
 unfold nameB ZL;rw[e,e2];simp only[jc,decide_eq_true_eq,jT]
 exact#[#[h1,h2],a]
theorem V5[DecidableEq α]:∀{l m:List α},l.Nodup->(∀x∈l,x∈m)->l.length<=m.length
 |[],_,_,_=>jJ _
 |a::l,m,hn,hs=>by
  have b:=mU.mp hn;have d:=hs a cR;have f:=V5 (m:=m.erase a) b.2 λx c=>(List.mem_erase_of_ne (λ(e:x=a)=>b.1 (by rw[<-e];exact c))).mpr (hs x (dI _ c))
  rw[List.length_erase_of_mem d] at f;have:0<m.length:=Z7 d;rw[iM];lia
theorem amH(z:Str)(zs:009):inD (.str z) (zs.map .str)=decide (z∈zs):=by
 unfold inD;rw[wC];simp[uN,toV]
def Asc(z:Str):Prop:=∀c∈z.cps.toList,c<128
def iH(n:Nat)(z:Str):Prop:=Asc z/\z.length<=n
theorem iH.mono(h:iH n z)(a:n<=m):iH m z:=#[h.1,jl h.2 a]
theorem iH.slice(h:iH n z)(l u:Option Int):iH n (Txt.slice z l u):=by
 refine#[λc a=>?_,jl (Txt.slice_le z l u) h.2]
 unfold Txt.slice at a;split at a
 .exact h.1 c a
 .have b:c∈((Builtin.Str.strSliceIndices l u 1 z.length).filterMap (z.cps[·]?)):=by simpa using a
  obtain⟨i,_,e⟩:=R8.mp b
  refine h.1 c ?_;have:=Array.mem_of_getElem? e;simpa using this
theorem iH.add(h:iH n x)(g:iH m y):iH (n+m) (x++y):=by
 have e:(x++y).cps=x.cps++y.cps:=rfl
 refine#[λc a=>?_,?_]
 .rw[e] at a;have:c∈x.cps.toList\/c∈y.cps.toList:=by simpa using a
  exact this.elim (h.1 c) (g.1 c)
 .show(x++y).cps.size<=_
  rw[e,aar];exact Nat.add_le_add h.2 g.2
theorem iH.name(h:nameB z=aq):iH 8 z:=by
 unfold nameB ZL at h;simp only[jc,decide_eq_true_eq,jT] at h
 exact#[λc a=>by grind,h.1.2]
def aq0(ps:List (Str×Str))(z:Str):Option Str:=(ps.find? λp=>decide (p.1=z)).map (·.2)
structure tV(e B:Nat)(d:aB):Prop where
 Zb:d.showable=aq
 deep:d.depth<=e
 len:d.shown.length<=B
theorem ad0(a:0<=i)(h1:i<10^12):tV 0 12 (.int i):=by
 refine#[?_,by simp[Ac],?_]
 .have:i.natAbs<2^40:=aD;have h2:i.natAbs.log2<1920:=by
   by_cases h:i.natAbs=0
   .rw[h];decide
   .have:=(Nat.log2_lt h).mpr this;lia
  simpa[aaK] using h2
 .exact atn a aP h1
theorem WR(h:iH 8 z):tV 0 82 (.str z):=by
 refine#[rfl,by simp[Ac],?_]
 refine jl (StrLaws.reprText_len z λc a=>oV (h.1 c a) aP) ?_;have:=h.2;lia
theorem WT:∀{ds:016},(∀d∈ds,tV e B d)->aip ds=aq/\yo ds<=e/\((G5 ds).map (·.length)).sum<=ds.length*B
 |[],_=>#[rfl,by simp[yo],by simp[G5]]
 |d::ds,h=>by
  obtain⟨h1,h2,b⟩:=WT λx a=>h x (dI _ a)
  have g:=h d cR
  refine#[by simp[aip,g.Zb,h1],?_,?_]
  .simp only[yo];have:=g.deep;lia
  .simp only[G5,cM,t8,iM];have:=g.len
   grind
theorem aom(h:∀d∈ds,tV e B d)(a:ds.length<=C):tV (e+1) (C*(B+2)+3) (.tuple ds):=by
 obtain⟨h1,h2,b⟩:=WT h
 refine#[by trivial,by simp[Ac];lia,?_]
 simp only[Dm];have:=tupleText_len_le (G5 ds);have c:=ahM ds;have f:=ahY B a
 grind
theorem tV.mono(h:tV e B d)(b:e<=e')(a:B<=B'):tV e' B' d:=#[h.Zb,jl h.deep b,jl h.len a]
abbrev yZ:=Int×Str×Int×Str×Int×Int
abbrev ae2:=Int×Str×Str×Str×Int×Int×Int
abbrev Yy:=Int×Str
abbrev afS:=Str×Int×List Yy
def za(r:yZ):aB:=.tuple [.int r.1,.str r.2.1,.int r.2.2.1,.str r.2.2.2.1,.int r.2.2.2.2.1,.int r.2.2.2.2.2]
def ae3(r:ae2):aB:=.tuple [.int r.1,.str r.2.1,.str r.2.2.1,.str r.2.2.2.1,.int r.2.2.2.2.1,.int r.2.2.2.2.2.1,.int r.2.2.2.2.2.2]
def aq1(s:Yy):aB:=.tuple [.int s.1,.str s.2]
def ap4(ss:List Yy):aB:=.tuple (ss.map aq1)
def afT(r:afS):aB:=.tuple [.str r.1,.int r.2.1,ap4 r.2.2]
def jf(p:Str×Str):aB:=.tuple [.str p.1,.str p.2]
structure Jo where
 ps:List (Str×Str)
 ranks:List yZ
 leaves:List ae2
 rules:List afS
def Ou(h:Jo):aB:=.tuple [.tuple (h.ps.map jf),.tuple (h.ranks.map za),.tuple (h.leaves.map ae3),.tuple (h.rules.map afT)]
theorem V6:∀{zs:009},(∀z∈zs,iI z=aq)->GD (zs.map fP)=aq/\yo (zs.map fP)=0/\qG (zs.map fP)=aq
 |[],_=>#[rfl,rfl,rfl]
 |z::zs,h=>by
  obtain⟨h1,h2,b⟩:=V6 λx a=>h x (dI _ a)
  refine#[by simp[GD,Lj,h z _];lia,by simp only[cM,yo,h2];rfl,?_]
  show(aq&&qG _)=aq
  grind
theorem abo{zs:009}(h:∀z∈zs,iI z=aq):jZ (.list (zs.map fP))=aq:=by
 obtain⟨h1,h2,_⟩:=V6 h
 unfold jZ;simp only[Lj,h1,Ac,h2];decide
theorem ap5(h:en[i]?=aa (aa (.ce b))):aN i en C=aa (.ce b,en,C):=by
 unfold aN;simp only[h]
theorem Nz(h:f aj C=aa (d,e1,C1))(h2:op [d]=aa r):dg op (cL f dw) aj C=aa (r,rst r aj e1,C1):=by
 unfold dg cL dw;simp only[h,h2]
def upN(f:Str->Option Str):Nat->Str->List Str
 |0,_=>[]
 |n+1,z=>match f z with
  |none=>[]
  |some y=>z::upN f n y
def up(ps:List (Str×Str))(z:Str):List Str:=upN (aq0 ps) (ps.length+1) z
theorem Ah(D:α->aB)(p:α->Bool)(g:α->aB):∀{l:List α},(∀a∈l,∃ts,yc T (D a)=aa ts/\ft (cW ts++fs) C=aa (p a,C)/\(p a=aq->∃x e,fe (cW ts++fs) C=aa (x,e,C)/\still x=.im (g a)))->
  gQ T ft fe fs (l.map D) C=aa ((l.filter p).map g,C)
 |[],_=>rfl
 |d::r,h=>by
  obtain⟨ts,h1,h2,b⟩:=h d cR
  have c:=Ah D p g λd m=>h d (dI _ m)
  rw[cM];unfold gQ
  grind
section
variable{prog:dB}{w:cG}{A:dN}{E:aG->aR->Prop}{R:Em->aR->Prop}{s:aR}
theorem alf(h:Q (.ref s.heap.objs.size) {s with heap:=s.heap.push (JT w)}):bf 000 A (newSet (.type "set")) Q E s:=by
 refine aJ (aJ (K9 (bu ?_)));exact aJ (wpAny_alloc (bu h))
theorem alg{rest:List Comprehension}{scope:iU}{pos:Pos}{it aM:aG}{aj:Env}(b:lH 000 A (.compLoop (.SetComp elt (#[target,iter,ifs,0]::rest) scope pos) 0 it aM aj) R s)
  (h:bf 000 A (wW it) (λa s'=>lH 000 A (.compLoop (.SetComp elt (#[target,iter,ifs,0]::rest) scope pos) 0 a aM aj) R s') (notedBy 000 A aj λx s'=>R (.error x) s') s):
  lH 000 A (.compStart (.SetComp elt (#[target,iter,ifs,0]::rest) scope pos) 0 it aM aj) R s:=by
 refine codeAny_of_tree (wpAny_notedAt ((aJ (K9 (wpAny_ite ?_)))));split
 ·(exact aJ (bu (bu #[rfl,b])))
 ·(exact aJ (uf (aJ (u6 (aJ (qY h (λa s' h'=>bu #[rfl,h']) λ_ _ x=>x))))))
variable{T:Type}[DecidableEq T]{knd:z7 prog w T}
theorem aj3(g:knd.is k key=aq)(c:key.scannable=aq)(f:rJ knd s.heap a ks)(b:ks.length+1<sO)
  (h:∀h',qW a s.heap h'->rJ knd h' a (m9 ks k)->Q .none {s with heap:=h',toks:=s.toks+1}):bf 000 A (call (.builtin "set.add") [.ref a,key]) Q E s:=by
 refine mO F.slot_set_add f.ty F.entry_set_add ?_ (F.args_set_add_2 _ _);unfold rA.«set.add» atu;simp only[aiV,bind_assoc];refine aJ (bu (aJ (bu ?_)));exact aJ (pJ (aJ (knd.pyHash g (an7 (knd:=knd) (s:={s with toks:=s.toks+1}) g c f b λ_ h' d e=>((show bf _ _ (ret nH) _ _ _ from bu #[_,rfl,h h' d e]))))))
end
section
variable{P:dB}{w:cG}{T0:Type}[DecidableEq T0](knd:z7 P w T0)(mk:T0->V)
abbrev SO(a:az)(ks:List T0):HO:=.ext λh=>rJ knd h a ks
def Yz(D:az)(te:TE):TM:=λσ H Q=>te σ H λy H1=>∃ks k,H1 D=aa (SO knd D ks)/\y=mk k/\ks.length+1<sO/\Q (upd H1 D (SO knd D (m9 ks k)))
theorem afU(x:rJ knd h a ks):kO P w H h a (SO knd a ks):=
 #[x,let ⟨o,_,_,_,e,_⟩:=x;#[o,e],λ_ _ y e=>y.at e]
def tSC(K:aU)(wi:TI)(T:gU)(ts:Bk->TT)(te:Bk->TE)(js:List Nat):TE:=λσ H Q=>wi σ H λJ H1=>∀D,H1 D=ao->∀b,BL K T (ts b) (Yz knd mk D (te b)) (frees js σ) J (upd H1 D (SO knd D [])) (Q (.ref D))
end
section
variable{X:Cx}{T0:Type}[DecidableEq T0]{knd:z7 X.prog X.w T0}{mk:T0->V}{NT NF:List Str}{js:List Nat}{elt tg iter:Expr}{ifs:List Expr}{T:gU}{wi:TI}{ts:Bk->TT}{te:Bk->TE}{scope:iU}{pos:Pos}
theorem ap6(f:∀k v,RelV (mk k) v->knd.is k v=aq/\v.scannable=aq)(n:PE X elt t):PM X (do let v <-eval elt X.env;nJ elt.pos;let _ <-call (.builtin "set.add") [.ref D,v]) (Yz knd mk D t):=by
 intro aA s σ H Q I h;refine aJ (bY (n _ s σ H _ I h) λv s1 r=>hide λu m=>?_)
 obtain⟨y,H1,c,l,ks,k,b,p,g,q⟩:=r
 subst p
 obtain⟨d,_,_⟩:=c.hok D _ b
 obtain⟨i,j⟩:=f _ _ l
 exact m (aJ (u6 (aJ (aj3 i j d g λh' same a=>bu #[_,Ar c (by rw[b];exact ug) same (let ⟨o,_,_,_,e,_⟩:=a;#[o,e]) (afU knd a),q]))))
theorem ap7{σ:St}{a:aR}{H2:Hp}{cl:List (Str×az)}{it:az}{fp:015}{tn:Nat->cg->Prop}{J:It}{Q:Hp->Prop}{RR:aG->az->Em->aR->Prop}
  (F:∀k v,RelV (mk k) v->knd.is k v=aq/\v.scannable=aq)(B:pX X NT NF js scope)(M:nU tg NT T)(O:011)
  (j:∀b,nA (X.bk (NT++NF) scope b) ifs (ts b)/\PE (X.bk (NT++NF) scope b) elt (te b))
  (G:∀n c,cl.lookup n=aa c->X.env.cells.lookup n=aa c)(P:∀y∈scope.names,y.2=.free->∃c,cl.lookup y.1=aa c)
  (u:Inv X aA σ H2 a)(TT:Turn X.prog X.w X.K tg J fp it tn)(st2:tn 0 a.heap)(w:∀b∈fp,mF X aA H2 b)
  (q:∀b,BL X.K T (ts b) (Yz knd mk a.heap.objs.size (te b)) (frees js σ) J (upd H2 a.heap.objs.size (SO knd a.heap.objs.size [])) Q)
  (I:∀C H' s' m,Inv X aA σ H' s'->mF X aA H' C->s'.heap.Ns C m->Q H'->RR (.ref a.heap.objs.size) C (.ok .next) s'):
  bf (model X.prog X.w) X.A (newSet (.type "set")) (λaM s₃=>bf (model X.prog X.w) X.A (Ti scope X.env.globals cl [] X.env.qual ao .none (aa X.env)) (λcenv s₄=>
   lH (model X.prog X.w) X.A (.compStart (.SetComp elt [⟨tg,iter,ifs,0⟩] scope pos) 0 (.ref it) aM {cenv with scope:=relabel scope X.env}) (RR aM cenv.locals) s₄) E s₃) E a:=by
 refine alf ?_;have i:=
  u.laid (t':=a.toks) (λb o e=>cX _ e) (bQ _) (afU knd (apP (fV _ rfl)))
 have r:(a.heap.push (JT X.w)).objs.size=a.heap.objs.size+1:=u5 ..;refine Zq i B G P λrR h₁ cb hns1 keep=>?_
 have A:∀b∈fp,b<a.heap.objs.size:=λb d=>by
  obtain⟨o,e,_⟩:=TT.obj 0 _ st2 b d
  exact cY e
 have g:∀b∈fp,mF X _ (upd H2 _ (SO knd a.heap.objs.size [])) b:=λb d=>#[by rw[c7 (fW (A b d))];exact(w b d).1,(w b d).2]
 have t:∀b∈fp,b<(a.heap.push _).objs.size:=λb d=>by have:=A b d;rw[r];exact yj this
 have L:=i.blk (s1:={a with heap:=h₁}) B cb g t hns1 keep rfl u.bare;have D:=TT.keep 0 _ _ st2 λb _ o e=>keep b o (cX _ e)
 obtain⟨H,N⟩:=j #[_,_,_,upd H2 _ _,fp]
 have f:lH (model X.prog X.w) X.A (.compLoop (.SetComp elt [#[tg,iter,ifs,0]] scope pos) 0 (.ref it) (.ref a.heap.objs.size) (Vu scope rR (a.heap.push (JT X.w)).objs.size X.env))
   (RR (.ref a.heap.objs.size) (a.heap.push (JT X.w)).objs.size) {a with heap:=h₁}:=by
  refine Vv (X:=X.blk _ _ _ _ _ _ fp)
       rfl (ak0 _ tg _ _ _ _ _ _ _) rfl rfl rfl M rfl B.nd O (λx S=>B.loc S) H (ap6 (X:=X.bk _ _ _) F N) TT (λb d=>?_) L D (q _) λH' s' F' J' qd=>?_
  .exact⟨(g b d).1,fW (t b d),λl=>by
    rcases cC.mp (i.Ek b l) with z|z
    .exact(g b d).2.1 z
    .exact(g b d).2.2.1 z,.inl d,λx c e=>cb.ne (g b d) (t b d) e,λp K=>(nomatch(K))⟩
  .obtain⟨m,R,_⟩:=J'.loc
   exact I _ H' s' m (i.Yr g J') (i.Bx (bQ _) J'.free) R qd
 exact alg f (TT.self _ 0 _ _ _ D f)
theorem aq2(i:∀k v,RelV (mk k) v->knd.is k v=aq/\v.scannable=aq)(B:pX X NT NF js scope)(u:nU tg NT T)(z:011)(hi:PI X tg iter wi)
  (d:∀b,nA (X.bk (NT++NF) scope b) ifs (ts b)/\PE (X.bk (NT++NF) scope b) elt (te b))
  (p:∀x,qm iter X.env x=pure x:=by intro _;rfl):PE X (.SetComp elt [#[tg,iter,ifs,0]] scope pos) (tSC knd mk X.K wi T ts te js):=by
 intro aA s σ H Q I h
 obtain⟨cl,a,l,w⟩:=Mh λy r e=>I.ok.has _ (B.free y r e)
 refine RP rfl p a B.kind B.names (bY (hi _ s σ H _ I h) λv s1 h1=>bY h1 λD g F=>hide λK E=>?_)
 obtain⟨it,fp,tn,J,H2,e,f,TT,st2,n,q⟩:=F
 subst e;exact E (ap7 (Q:=λH'=>Q (.ref g.heap.objs.size) H') (RR:=λaM C=>compPost 05 X.A X.xe ao (EP X aA σ Q) aM C) i B u z d l w f TT st2 n (q _ (f.hok.fresh (bQ _))) λC H' s' m G c A t=>(#[m,A,λh' sb=>#[.ref g.heap.objs.size,H',(G.turned (λb o j e=>(sb.2 b j).trans e) c.1 c.2.1 c.2.2.2.1 c.2.2.2.2.1 c.2.2.2.2.2),rfl,t]]))
end
theorem ad1:∀{ds:016}{vs:012},cF H ds vs->cF H ds.reverse vs.reverse
 |[],_,h=>by cases(show _=[] from h);rfl
 |d::ds,_,h=>by
  obtain⟨u,r,e1,q,s⟩:=h
  subst e1;rw[K4,K4];exact yG (ad1 s) #[u,[],rfl,q,rfl]
theorem QM(x:α)(r:List α):fG (x::r) 0=aa x:=yE rfl
theorem QS(a x:α)(r:List α):fG (a::x::r) 1=aa x:=yE rfl
theorem QT(a b x:α)(r:List α):fG (a::b::x::r) 2=aa x:=yE rfl
theorem QV(a b c x:α)(r:List α):fG (a::b::c::x::r) 3=aa x:=yE rfl
theorem QW(a b c d x:α)(r:List α):fG (a::b::c::d::x::r) 4=aa x:=yE rfl
theorem QX(a b c d e x:α)(r:List α):fG (a::b::c::d::e::x::r) 5=aa x:=yE rfl
theorem QZ(a b c d e f x:α)(r:List α):fG (a::b::c::d::e::f::x::r) 6=aa x:=yE rfl
theorem Pk(op:aB->aB->Option Vl)(a b:FB)(aj:En)(C:Ce):bA op a b aj C=(a aj C).bind λp=>(b p.2.1 p.2.2).bind λq=>(op p.1 q.1).bind λr=>aa (r,rst r aj q.2.1,q.2.2):=by
 unfold bA
 grind
theorem Pn(f:FE)(aj:En)(C:Ce):aX f aj C=(f aj C).bind λp=>(dat p.1).map λd=>(d,p.2.1,p.2.2):=by
 unfold aX
 grind
theorem Q0(i:Nat)(aj:En)(C:Ce):aZ i aj C=(aj[i]?).bind λo=>o.bind λx=>(dat x).map λd=>(d,aj,C):=by
 unfold aZ;rcases aj[i]? with _|(_|x)<;>rfl
theorem Pq(f g:FT)(aj:En)(C:Ce):qC f g aj C=(f aj C).bind λp=>if p.1 then g aj p.2 else aa (aH,p.2):=by
 unfold qC
 grind
theorem Q3(f g:FT)(aj:En)(C:Ce):pC f g aj C=(f aj C).bind λp=>if p.1 then aa (aq,p.2) else g aj p.2:=by
 unfold pC
 grind
theorem Pu(f:FT)(aj:En)(C:Ce):jW f aj C=(f aj C).map λp=>(!p.1,p.2):=by
 unfold jW
 grind
theorem Ga(c:FT)(f g:FS)(aj:En)(C:Ce):fZ c f g aj C=(c aj C).bind λp=>if p.1 then f aj p.2 else g aj p.2:=by
 unfold fZ
 grind
theorem Px(c:FT)(f g:FE)(aj:En)(C:Ce):zy c f g aj C=(c aj C).bind λp=>if p.1 then f aj p.2 else g aj p.2:=by
 unfold zy
 grind
theorem Q4(d:aB)(e f:En):rst (.ow d) e f=f:=rfl
theorem Ov(b:Bool)(e f:En):rst (.im (.bool b)) e f=e:=rfl
theorem Py(i:Int)(e f:En):rst (08 i) e f=e:=rfl
theorem Pz(z:Str)(e f:En):rst (.im (.str z)) e f=e:=rfl
theorem Q5(l r:016)(e f:En):rst (.im (.tuple (.list l::r))) e f=f:=rfl
theorem add_int(i j:Int):dM (.int i) (.int j)=aa (08 (i+j)):=rfl
theorem sub_int(i j:Int):yW (.int i) (.int j)=aa (08 (i-j)):=rfl
theorem le_int(i j:Int):FJ (.int i) (.int j)=aa (.im (.bool (decide (i<=j)))):=rfl
theorem lt_int(i j:Int):tL (.int i) (.int j)=aa (.im (.bool (decide (i<j)))):=rfl
theorem ge_int(i j:Int):FQ (.int i) (.int j)=aa (.im (.bool (decide (j<=i)))):=rfl
theorem gt_int(i j:Int):FP (.int i) (.int j)=aa (.im (.bool (decide (j<i)))):=rfl
theorem eq_int(i j:Int):tK (.int i) (.int j)=aa (.im (.bool (i==j))):=rfl
theorem eq_bool(a b:Bool):tK (.bool a) (.bool b)=aa (.im (.bool (a==b))):=rfl
theorem ne_bool(a b:Bool):jy (.bool a) (.bool b)=aa (.im (.bool (!(a==b)))):=rfl
theorem ne_int(i j:Int):jy (.int i) (.int j)=aa (.im (.bool (!(i==j)))):=rfl
theorem PB(ds:016):vJ [.list ds]=aa (.im (.int ds.length)):=rfl
theorem PJ(ds:016):vJ [.tuple ds]=aa (.im (.int ds.length)):=rfl
theorem Q6(ds:016)(i:Int):fY (.tuple ds) (.int i)=(fG ds i).map .im:=rfl
theorem Q7(ds:016)(i:Int):fY (.list ds) (.int i)=(fG ds i).map .im:=rfl
theorem vK{i:Nat}(h:ds[i]?=aa d):fY (.tuple ds) (.int i)=aa (.im d):=by
 simp only[fY,CK,yE h,pI]
theorem PK(h:Jo):fY (Ou h) (.int 0)=aa (.im (.tuple (h.ps.map jf))):=vK rfl
theorem PL(h:Jo):fY (Ou h) (.int 1)=aa (.im (.tuple (h.ranks.map za))):=vK (i:=1) rfl
theorem PN(h:Jo):fY (Ou h) (.int 2)=aa (.im (.tuple (h.leaves.map ae3))):=vK rfl
theorem PX(h:Jo):fY (Ou h) (.int 3)=aa (.im (.tuple (h.rules.map afT))):=vK (i:=3) rfl
theorem P0(r:yZ):fY (za r) (.int 0)=aa (.im (.int r.1)):=vK (i:=0) rfl
theorem Qa(r:yZ):fY (za r) (.int 1)=aa (.im (.str r.2.1)):=vK (i:=1) rfl
theorem Qc(r:yZ):fY (za r) (.int 2)=aa (.im (.int r.2.2.1)):=vK (i:=2) rfl
theorem Qd(r:yZ):fY (za r) (.int 3)=aa (.im (.str r.2.2.2.1)):=vK (i:=3) rfl
theorem Qe(r:yZ):fY (za r) (.int 4)=aa (.im (.int r.2.2.2.2.1)):=vK (i:=4) rfl
theorem Qf(r:yZ):fY (za r) (.int 5)=aa (.im (.int r.2.2.2.2.2)):=vK (i:=5) rfl
theorem agt(c:-1000000<=m)(h1:m<=1000000)(a b:α):(if -(2^62)<=m/\m<2^62 then a else b)=a:=bG aD
theorem mC(a:En)(d:xs.length=k)(c:xs.map aa++cH (n-xs.length) ao=a)(h:(body a C).map (λp=>(p.1,p.2.2))=aa (.rt r,C1))(f:Yv C.length r=aq)(b:C1.length=C.length):fN k n body xs C=aa (r,C1):=by
 unfold fN;rw[bG d,c];cases hb:body a C with
 |none=>grind
 |some p=>
  rw[hb] at h
  obtain⟨e,e1,C2⟩:=p
  have h:(e,C2)=(Fl.rt r,C1):=lY h;injection h with h1 h2
  subst h1 h2;simp only[f,if_true,adV b]
theorem letters(k:Int)(a:0<=k)(h1:k<26):CK (.str abc) (.int k)=aa (.str #[#v[97+k.toNat]]):=by
 have e:=ap3 a h1;have b:abc.length<=eE:=bz;simp only[CK]
 grind
theorem Mj:∀zs:List Str,strsOf (zs.map fP)=aa zs
 |[]=>rfl
 |z::zs=>by
  show(match strsOf _ with|some t=>aa _|none=>ao)=_
  rw[Mj zs]
theorem Uw:∀ns:List Int,intsOf (ns.map Hz)=aa ns
 |[]=>rfl
 |n::ns=>by
  show(match intsOf _ with|some t=>aa _|none=>ao)=_
  rw[Uw ns]
theorem Dy:∀zs:List Str,iW (zs.map fP)=aq
 |[]=>rfl
 |z::zs=>by
  show(aq&&iW _)=aq
  rw[Dy zs];rfl
theorem abE:∀cs:List Nat,iW (cs.map λc=>fP #[#v[c]])=aq
 |[]=>rfl
 |c::cs=>by
  show(aq&&iW _)=aq
  rw[abE cs];rfl
theorem abb:∀cs:List Nat,strsOf (cs.map λc=>fP #[#v[c]])=aa (cs.map λc=>(#[#v[c]]:Str))
 |[]=>rfl
 |c::cs=>by
  show(match strsOf _ with|some t=>aa _|none=>ao)=_
  rw[abb cs];rfl
theorem alh:(aO "").length=0:=rfl
theorem yx(r:Vl)(e:En):rst r e e=e:=by
 cases r<;>simp[rst]
theorem ab5:∀zs:List Str,(zs.map fP).all mX=aq
 |[]=>rfl
 |z::zs=>by
  rw[cM,Dl,ab5 zs];rfl
theorem yI(z:Str)(zs:009):zu (.str z) (.list (zs.map .str))=aa (.im (.bool (decide (z∈zs)))):=by
 have:inB (.str z) (.list (zs.map _))=aa _:=bG (by rw[ab5];rfl);unfold zu;rw[this,amH];rfl
theorem NB(x z:Str):tK (.str x) (.str z)=aa (.im (.bool (decide (x=z)))):=rfl
theorem Ec(x z:Str):jy (.str x) (.str z)=aa (.im (.bool (!decide (x=z)))):=rfl
def Y7(q:List (Str×Str)):List (Str×aB):=q.map λp=>(p.1,.str p.2)
theorem HJ:∀l:List Int,iW (l.map Hz)=aq
 |[]=>rfl
 |x::l=>by
  show(aq&&iW _)=aq
  rw[HJ l];rfl
theorem aq3(a c:Nat)(h:i<n):a+c*(n-i)=a+c*(n-(i+1))+c:=by
 rw[show n-i=(n-(i+1))+1 by lia,Nat.mul_add,Nat.mul_one,Nat.add_assoc]
theorem ap8(a:Nat)(h:i<n):a+(n-i)=a+(n-(i+1))+1:=aD
section
variable{X:Cx}
end
def Q8(i:Nat)(f:FB):FS:=λaj C=>if xH aj[i]? then match f aj C with
  |some (.list ys,e1,C1)=>match e1[i]? with
   |some (some (.ow (.list ds)))=>if ds.length+ys.length<=eE then aa (.nx,e1.set i (aa (.ow (.list (ds++ys)))),C1) else ao
   |_=>ao
  |_=>ao
 else ao
theorem ap9(A:PE X o (jx i))(G:PE X e (fM X.K f))
  (p:lG (.Call (.Attribute o "extend" apos) [e] [] cpos) ao pos.line X.env=pure aH:=by rfl)
  (d:sE o "extend" X.env (eval o X.env)=eval o X.env:=by rfl)
  (h:((eN cpos (bI [e] X.env)).all (λx=>!x.1)&&(pN cpos (pL [] X.env)).all (λx=>x.1.isSome)
   &&decide (([e]:List Expr).length+([]:List pP).length+(if([]:List pP).isEmpty then 0 else 1)<30))=aq:=by rfl)
  (g:(apos.endLine==cpos.line)=aq:=by rfl)(u:bI [e] X.env=006::bI [] X.env:=by rfl)(hplain:(eN cpos (bI [] X.env)).any (·.1)=aH:=by rfl):
  PS X (.Expr (.Call (.Attribute o "extend" apos) [e] [] cpos) pos) (tS X.K (Q8 i f)):=
 (Aq (Ew Kz ain PySem.F.type_list_extend (uO.r akV) A (pO G pR u) d h g u hplain) p).weak λD σ H aV=>by
  obtain⟨Z,Θ,aj,C,J,bw,C',S,c,q⟩:=aV
  unfold Q8 at c;split at c
  .rename_i s
   obtain⟨L,s⟩:=acQ s
   obtain⟨K,n,a,rfl,F,r,M⟩:=S.slot i _ s
   split at c
   .rename_i ys e1 C1 h1;split at c
    .rename_i ds hi;split at c
     .rename_i E;cases(c)
      refine#[_,n,.inl #[rfl,F,b7.of r],Z,Θ,aj,C,.list ys,e1,C',S,h1,λv H1 k f l B=>?_]
      obtain⟨b,ws,rfl,z,y⟩:=B
      obtain⟨O,j,N,I,vs,m,t⟩:=l.slot i _ hi
      subst I;rw[n] at j;cases(j)
      refine#[a,b,vs,ws,rfl,rfl,m,gW z,by rw[jL t,jL y,iw];unfold eE at E;lia,?_]
      have w:fH X.K Z Θ e1 σ H1 Θ (e1.set i (aa (.ow (.list (ds++ys))))) C' σ (upd H1 a (.lst (vs++ws))):=l.write hi n #[_,fK,yG t y];exact q Θ σ _ ((fH.qO k f l).trans w)
     .cases(c)
    .cases(c)
   .cases(c)
  .cases(c)
theorem ali(h:(gV P w).is k u=aq):RelV (kV k) u:=by
 rcases qt h with⟨i,t,rfl,rfl⟩|⟨x,t,rfl,rfl⟩<;>exact#[t,rfl]
def Bl(L:Nat)(C:Ce)(b k:Nat):Prop:=C.length=L/\∃x y z:Int,C[b]?=aa (inC [x,y,z])/\0<=x/\0<=z/\z+k<=900000
theorem Bl.mono(h:Bl L C b k)(d:j<=k):Bl L C b j:=by
 obtain⟨l,x,y,z,h1,h2,a,c⟩:=h
 exact#[l,x,y,z,h1,h2,a,aD]
theorem Bl.eq(h:Bl L C b k)(h':Bl L C' b' k'):C'.length=C.length:=h'.1.trans h.1.symm
theorem X5(C:Ce)(a:0<=x):Bl (C.length+1) (C++[inC [x,y,0]]) C.length 800000:=by
 refine#[bH,x,y,0,?_,a,Ud _,aD]
 rw[gh (bQ _),pK];rfl
def n1(f s:Int)(k:Nat):Str:=#[#v[97+((f+s*k)%26).toNat]]
def v2(f s:Int)(k:Nat):Int:=(f+s*k)%676
def two(v:Int):Str:=(#[#v[97+(v / 26).toNat]]:Str)++(#[#v[97+(v%26).toNat]]:Str)
def n2(hd tl:Str)(f s:Int)(q:Nat->Int)(k:Nat):Str:=hd++two (v2 f s k)++Txt.slice tl ao (aa (q k))
def sl(z:Str)(n k:Nat):Str:=Txt.slice z (aa (k:Int)) (aa ((k:Int)+(n:Int)))
def sb(z:Str)(n:Nat):List Str:=(gj (8-n)).map (sl z (n+1))
end L2
namespace L2
section
variable{β:Type}[DecidableEq β]{ws:List (Int×β×β)}{s:β}
end
end L2
namespace L2
open PySem PySem.Spec PyProof.Rows PySem.W
def aq4(i j k:Nat)(ta:TA):TS:=λD σ H=>ta σ H λvs H1=>vs.length=3/\(∀v w z,vs=[v,w,z]->D.nx (((σ.set i (aa v)).set j (aa w)).set k (aa z)) H1)
theorem aon{kt k2 qg}(N:011)(m:017)(hi:X.N[i]?=aa x)(P:X.N[j]?=aa y)(C:X.N[k]?=aa z)(p:i≠j)(n:i≠k)(g:j≠k)
  (A:X.env.scope.names.lookup x=aa .local)(r:X.env.scope.names.lookup y=aa .local)(hz:X.env.scope.names.lookup z=aa .local)(F:PA X [a,b,c] ta)
  (Q:z9 [.Tuple [.Name x px,.Name y py,.Name z pz] kt pt] (.Tuple [a,b,c] k2 qg) X.env=pure (aa [x,y,z]))
  (G:z8 [.Tuple [.Name x px,.Name y py,.Name z pz] kt pt] (.Tuple [a,b,c] k2 qg) pos.line X.env=pure aH:=by rfl):
  PS X (.Assign [.Tuple [.Name x px,.Name y py,.Name z pz] kt pt] (.Tuple [a,b,c] k2 qg) pos) (aq4 i j k ta):=by
 intro aA s σ H D I h;rw[exec_Assign_arm];refine aJ (u6 ?_);rw[G];refine aJ (bu ?_);rw[bK aP];refine aJ (Tuple_ (bY (F _ aA s σ H _ I h) λus s1 S=>?_));refine hide λV O=>?_
 obtain⟨vs,H1,J,d,f,R⟩:=S
 cases d with
 |nil=>cases f
 |cons rv d=>
 cases d with
 |nil=>cases f
 |cons rw' d=>
 cases d with
 |nil=>cases f
 |cons rz d=>
 cases d with
 |cons _ _=>cases f
 |nil=>
 rename_i v t w u Y B;refine O (nF ?_ (by show 3<=cz;decide));have E:Inv X aA σ H1 {s1 with heap:=s1.heap.push {cls:=.type "tuple",data:=.seq [t,u,B].toArray}}:=J.kept (t':=s1.toks) λb o e=>cX _ e
 rw[Q];refine aJ (bu ?_);refine aJ (uf (aJ (unpackItems_tuple (items:=#v[t,u,B]) (I.ok.hd N) (IsTup.new s1.heap _) λh' l=>?_)));have L:=E.kept (h':=h') (t':=s1.toks) λb o e=>l b o (fW (cY e)) e
 refine aJ (assignInOrder_cons (Lg (vh L m C (.inl hz) rz (λT M=>?_) (.inr hz))));refine assignInOrder_cons (Lg (vh M m P (.inl r) rw' (λW K=>(assignInOrder_cons (Lg (vh K m hi (.inl A) rv (λU q=>assignInOrder_nil (bu ?_)) (.inr A))))) (.inr r)));rw[Tr _ _ (jK p),Tr _ _ (jK n),Tr _ _ (jK g)] at q
 exact#[_,H1,q,R _ _ _ rfl]
theorem ad2{kt k2 qg}(I:011)(G:017)(hi:X.N[i]?=aa x)(K:X.N[j]?=aa y)(s:X.N[k]?=aa z)(l:i≠j)(h:i≠k)(f:j≠k)
  (L:X.env.scope.names.lookup x=aa .local)(E:X.env.scope.names.lookup y=aa .local)(hz:X.env.scope.names.lookup z=aa .local)(u:PA X [a,b,c] (CP X.K g))
  (M:z9 [.Tuple [.Name x px,.Name y py,.Name z pz] kt pt] (.Tuple [a,b,c] k2 qg) X.env=pure (aa [x,y,z]))
  (A:z8 [.Tuple [.Name x px,.Name y py,.Name z pz] kt pt] (.Tuple [a,b,c] k2 qg) pos.line X.env=pure aH:=by rfl):
  PS X (.Assign [.Tuple [.Name x px,.Name y py,.Name z pz] kt pt] (.Tuple [a,b,c] k2 qg) pos) (tS X.K (p8 [i,j,k] g)):=(aon I G hi K s l h f L E hz u M A).weak λD σ H aV=>by
 refine hide λP J=>?_
 obtain⟨Z,Θ,aj,C,N,bw,C',S,d,q⟩:=aV
 unfold p8 at d;split at d
 case h_2=>cases(d)
 rename_i xs e1 C1 h1;split at d
 case isFalse=>cases(d)
 rename_i n;cases(d);refine J (#[Z,Θ,_,C,xs,e1,C',S,h1,λvs O H1 B p n1 t o=>#[by rw[adP o,<-n.1];rfl,λv w Q e=>?_]])
 obtain⟨r,F⟩:=adO o n.1 (cT.refl _) t
 subst e;refine q Θ _ H1 #[jh.refl _ _,o8 B,λb m=>?_,r];rcases F b m with m|m
 .exact .inl (p.own.subset m)
 .exact .inr (n1 b m)
theorem amI(b:KV au vs):∀{us:014},us.length=vs.length->(∀(i:Nat)(v:aG),us[i]?=aa v->∃k x,vs[i]?=aa (k,x)/\(gV P w).is k v=aq)->Vals (au.map λc=>kV c.1) us:=by
 induction b with
 |nil=>
  intro us h2 a;cases us with
  |nil=>exact .nil
  |cons _ _=>trivial
 |@cons p w ps ws hp _ ih=>
  intro us h2 a;cases us with
  |nil=>trivial
  |cons u us=>
   refine .cons ?_ (ih (ajN h2) λi v e=>a (i+1) v e)
   obtain⟨k,x,e1,e2⟩:=a 0 u rfl
   have d:k=p.1:=by grind
   subst d;exact ali e2
theorem aji(O:011):gF X (.builtin "sorted") (λxs H Q=>∃(d:az)(au:List (Key×V))(ns:009),xs=[.ref d]/\vU H d au/\au.map (·.1)=ns.map .inr/\ns.length<64/\∀(l:az)(ns':009),H l=ao->ns'.Perm ns->sortedS ns'=aq->Q (.ref l) (upd H l (.lst (ns'.map V.str)))):=by
 intro aA s σ H xs us Q I r h;refine hide λY S=>?_
 obtain⟨d,au,ns,rfl,U,p,T,q⟩:=h
 obtain⟨u,rfl,R⟩:=vals1 r
 cases R
 obtain⟨z,lo,vs,f,L⟩:=xr I.hok U
 obtain⟨ep,J⟩:=L.dictAt
 have W:vs.length=au.length:=(Paired.length f).symm;refine S (ZW kind_sorted plain_sorted entry_sorted (args_sorted1 _) ?_);unfold rA.«sorted»;refine aJ (m:=checkCount "sorted" 1 1 _) (bu (aJ (abm (A:=X.A.in1) (kdl_dict (knd:=gV X.prog X.w) (ep:=ep) lo) (I.ok.hd O) J (by rw[W];exact z) λh1 N aM g E a=>?_)));have t:=amI (P:=X.prog) (w:=X.w) f (us:=aM.toList) (by rw[n6];exact a.1) λi v e=>let ⟨k,x,h⟩:=a.2 i v (by rw[<-Gr];exact e);#[k,x,h]
 have t:Vals (ns.map V.str) aM.toList:=by
  rwa [show ns.map V.str=(ns.map ju).map kV by rw[eZ];rfl,<-p,eZ]
 have n:StrsAre aM.toList ns:=Mi t;have lu:aM.toList.length=ns.length:=by rw[<-t.length,bC]
 refine aJ (Lr ?_ (by rw[iw];lia));have B:(h1.push (seqObj "list" aM.toList.toArray 0)).get? h1.objs.size=aa (seqObj "list" aM.toList.toArray 0):=fV _ rfl;refine aJ (pJ (mO slot_list_sort #[_,B,rfl] entry_list_sort (list_sort_treeK strKind_oneLt B n.keysOf (λZ v2 rest e=>keyKind_strs (by rw[<-e];exact n)) aD λst y j=>#[_,rfl,?_]) (args_list_sort _)))
 obtain⟨ns',F,D,G⟩:=sorted_out_str n y j
 obtain⟨c,K⟩:=sortedHeap_at (out:=(arrOf st).map (·.2)) B
 have M:∀b o,s.heap.get? b=aa o->(sortedHeap (h1.push (seqObj "list" aM.toList.toArray 0)) h1.objs.size aM.toList ((arrOf st).map (·.2))).get? b=aa o:=λb o e=>by
  have C:b<h1.objs.size:=cY (E b o e);rw[sortedHeap_old (fW C) (by rw[u5];exact yj C)];exact cX _ (E b o e)
 exact bu #[_,rfl,.ref h1.objs.size,_,I.laid (o:=.lst (ns'.map V.str)) (t':=N) M g #[by rw[bC,D.length_eq,iw];lia,((arrOf st).map (·.2)).toList,c,UW F,by rw[Array.toArray_toList];exact K],rfl,q _ ns' (I.hok.fresh g) D G]
theorem Vb:∀{au:List (aB×aB)}{ns:009},strsOf (au.map (·.1))=aa ns->cj fL au=aa (ns.map .inr)
 |[],ns,h=>by cases h;rfl
 |(.str z,v)::au,ns,h=>by
  obtain⟨ns',h1,rfl⟩:∃ns',strsOf (au.map (·.1))=aa ns'/\ns=z::ns':=by
   have h:(strsOf (fP z::au.map _))=aa ns:=h;unfold strsOf at h
   grind
  unfold cj;rw[Vb h1];rfl
 |(.none,v)::au,ns,h=>by cases h
 |(.bool _,v)::au,ns,h=>by cases h
 |(.int _,v)::au,ns,h=>by cases h
 |(.list _,v)::au,ns,h=>by cases h
 |(.tuple _,v)::au,ns,h=>by cases h
 |(.dict _,v)::au,ns,h=>by cases h
inductive lM(K:aU)(x:Str)(st:dF):Prop
 |mk {f:az} {oc:aG} {od an:Option az} {osl:Array (Option aG)} {kV doc pm cdv ct:aG} (a:nG K iu x=aa (aa (.ref f))) (l:K.lookup f=aa #[oc,od,.func (wH x x (yF st) (sU st) (cO st) .none kV doc pm an cdv ct),osl]) (c:Lh K cdv x=aq) (k:yq K (.ref f)=aq):lM K x st
abbrev ae4(x:Str)(st:dF)(ps:List Str):Prop:=∀(kV doc pm:aG)(an:Option az)(cdv ct:aG)(us:List aG),us.length=ps.length->Vs (wH x x (yF st) (sU st) (cO st) .none kV doc pm an cdv ct) #[us,[]]=pure (ps.zip us)
section
variable{P:dB}{w:cG}{K:aU}{x:Str}{st:dF}{k:Nat}{ps:List Str}{sp:Sp}
theorem lM.has(d:lM K x st)(X:K.In h)(G:h.Ns iu mg)(o:∀f fd,f9 K x x st f fd->dG P w K mg base dJ k f fd ps sp)(b:ae4 x st ps):jQ P w K mg base x k ps sp:=by
 obtain⟨a,l,c,kp⟩:=d
 have F:=Oc l c kp
 exact#[_,_,aa2 X G a,kp,F.binds b,o _ _ F]
theorem lM.law{y:Str}(d:lM K x st)(X:K.In h)(G:h.Ns iu mg)(b:mg x=aa (.ref fa))(o:∀base f fd,f9 K x x st f fd->dG P w K mg base dJ k f fd [y] sp)(g:ae4 x st [y]):
  ∃fd:o5,(∀(s:aR)(v:aG),DY s fd #[[v],[]] [(y,v)])/\∀base:cg,K.In base->base.Ns iu mg->dG P w K mg base dJ k fa fd [y] sp:=by
 refine hide λj i=>?_
 obtain⟨a,l,c,kp⟩:=d
 have e:=b.symm.trans (aa2 X G a);cases e;exact i (#[_,λs v=>.of_eq (g _ _ _ _ _ _ _ rfl),λbase _ _=>o _ _ _ (Oc l c kp)])
theorem jq{B:List aG->Prop}(h:B []):∀us:List aG,us.length=0->B us
 |[],_=>h
theorem cP{B:List aG->Prop}(h:∀a,∀us:List aG,us.length=n->B (a::us)):∀us:List aG,us.length=n+1->B us
 |a::us,e=>h a us (ajN e)
end
section
open PySem.SeqAt
open PySem.AutoSeq1 (wpAny_loadPart')
open PySem.MeetsSeq PySem.MeetsSeq2 PySem.MeetsSeq3
theorem ad3{xs:Array aG}(h:xs.toList.drop i=x::r):xs[i]?=aa x/\xs.toList.drop (i+1)=r:=by
 have h1:=by
  have:=congrArg (·[0]?) h;simpa using this
 refine#[by grind,?_]
 rw[<-List.tail_drop,h,List.tail_cons]
end
theorem V7:∀{ns:List Key}{xs:014}{j:Nat}{v:aG},Vals (ns.map kV) xs->xs[j]?=aa v->∃x,ns[j]?=aa x/\RelV (kV x) v
 |[],_,j,v,.nil,h=>by cases h
 |n::ns,_::xs,0,v,.cons r _,h=>#[n,rfl,by grind]
 |n::ns,_::xs,j+1,v,.cons _ t,h=>V7 (ns:=ns) t 002
theorem alj{ns ms:List Key}(o:s.heap.IsList l items)(m:s.heap.IsList b items2)(h1:Vals (ns.map kV) items.toList)(h2:Vals (ms.map kV) items2.toList)(f:ns.map dz=ms.map dz)(n:l=b->ns=ms)(k:A.units<fD):wJ A s (.ref l) (.ref b) (decide (ns=ms)):=by
 by_cases e:l=b
 .subst e;rw[gq (n rfl)];exact SX _
 .have q:=by have:=h1.length;simpa using this
  have r:=by have:=h2.length;simpa using this
  have t:=by have:=congrArg ue f;simpa using this
  have d:∀j (c:j<items.size)(a:j<items2.size),∃x y,ns[j]?=aa x/\ms[j]?=aa y/\wJ A.in1 s _ _ _:=λj c a=>by
   obtain⟨x,e1,p⟩:=V7 h1 (j:=j) (v:=items[j]) (by simp[c])
   obtain⟨y,e2,g⟩:=V7 h2 (j:=j) (v:=items2[j]) (by simp[a])
   refine#[x,y,e1,e2,Vz _ _ p g ?_]
   have:=congrArg (·[j]?) f
   grind
  refine KR e ?_;have:=SeqAt.RcAt.lists (e:=λj=>decide (ns[j]?=ms[j]?)) o m aD k (λj c a=>by
   obtain⟨x,y,e1,e2,h⟩:=d j c a
   rw[e1,e2];simpa using h)
  have eq:(gj items.size).all (λj=>decide (ns[j]?=ms[j]?))=decide (ns=ms):=by
   rw[wC,jT,decide_eq_true_iff]
   refine#[λh=>Sx λi=>?_,λh j _=>by lia]
   grind
  rwa [<-eq]
theorem ajj(aK:014):UL aK.toArray ao ao (aa (-1))=aK.reverse.toArray:=by
 unfold UL
 show((Ml ((aK.toArray.size:Int)-1) (-1) (-1)).filterMap (aK.toArray[·]?)).toArray=_
 have e:Ml ((aK.toArray.size:Int)-1) (-1) (-1)=(gj aK.toArray.size).map λ(k:Nat)=>((aK.toArray.size:Int)-1+(k:Int)*(-1)).toNat:=by
  unfold Ml;have:(if(-1:Int)>0 then(if(aK.toArray.size:Int)-1< -1 then(-1-((aK.toArray.size:Int)-1)+-1-1) / -1 else 0) else(if(aK.toArray.size:Int)-1>-1 then((aK.toArray.size:Int)-1- -1- -1-1) / (- -1) else 0)).toNat=aK.toArray.size:=by
   rw[bK aP];split
   .rw[show(- -1:Int)=1 from rfl,abd];lia
   .lia
  simp only[this];refine yg λk _=>?_
  rw[Int.mul_comm]
 rw[e,List.filterMap_map];exact HT.ak4 aK.toArray
def aqa(K:aU)(te ts:TE):TE:=λσ H Q=>te σ H λx H1=>ts σ H1 λy H2=>y=.int (-1)/\∃a xs,x=.ref a/\b7 K H2 a xs/\∀p,H2 p=ao->Q (.ref p) (upd H2 p (.lst xs.reverse))
section
variable{X:Cx}{e es:Expr}{p2 pos:Pos}
theorem amJ(B:PE X e te)(n:PE X es ts):PE X (.Subscript e (.Slice ao ao (aa es) p2) pos) (aqa X.K te ts):=by
 intro aA s σ H Q I h;refine Subscript_ (bY (B aA s σ H _ I h) λv s1 g=>?_)
 obtain⟨x,H1,p,u,C⟩:=g
 refine wpAny_Slice ?_;rw[evalPart_none];refine bu (bu ?_);rw[evalPart_some];refine bY (n aA s1 σ H1 _ p C) λvs c g=>?_
 obtain⟨y,w,t,l,rfl,a,xs,rfl,A,q⟩:=g
 obtain⟨f,rfl⟩:=l
 cases u;have d:Inv X aA σ w {c with heap:=c.heap.push {cls:=.type "slice",data:=.fields #v[.none,.none,.int (-1) f]}}:=t.kept (t':=c.toks) λb k q=>cX _ q
 obtain⟨D,r,j,m⟩:=d.list A
 have i:=r.length;have z:bf (model X.prog X.w) X.A (yD (.ref a) (.ref c.heap.objs.size)) (EP X aA σ Q) X.xe {c with heap:=c.heap.push {cls:=.type "slice",data:=.fields #v[.none,.none,.int (-1) f]}}:=by
  refine ahB j.isList (ail ..) .none .none (.int _ _) aP ?_ (by rw[oX]<;>lia);rw[ajj]
  refine#[.ref _,_,d.laid (t':=c.toks) (o:=.lst xs.reverse) (λb k q=>cX _ q) (bQ _) ?_,rfl,q _ (d.hok.fresh (bQ _))]
  exact#[by simpa using m,_,0,r.reverse,fV _ rfl]
 show bf 05 X.A (subscriptTail e (.Slice ao ao (aa es) p2) (.ref a) (.ref c.heap.objs.size)) (EP X aA σ Q) X.xe {c with heap:=c.heap.push {cls:=.type "slice",data:=.fields #v[.none,.none,.int (-1) f]}};exact tail_any (ops:=[.ref a,.ref c.heap.objs.size]) j.isList.typeIs slot_list_getitem.lookup z 008
def JK(f g:FB):FE:=λaj C=>match f aj C with
 |some (.list ds,e1,C1)=>match g e1 C1 with
  |some (.int k,e2,C2)=>if k=-1 then aa (.ow (.list ds.reverse),e2,C2) else ao
  |_=>ao
 |_=>ao
theorem aoo{f g:FB}(B:PE X e (fM X.K f))(x:PE X es (fM X.K g)):PE X (.Subscript e (.Slice ao ao (aa es) p2) pos) (tE X.K (JK f g)):=(amJ B x).weak λσ H Q aV=>by
 obtain⟨Z,Θ,aj,C,r,bw,C',S,b,q⟩:=aV
 unfold JK at b;split at b
 case h_2=>cases(b)
 rename_i ds e1 C1 h1;split at b
 case h_2=>cases(b)
 rename_i k e2 C2 h2;split at b
 case isFalse=>cases(b)
 rename_i s;cases(b);subst s
 refine#[Z,Θ,aj,C,_,e1,C1,S,h1,λv H1 z l c m=>#[Z,Θ,e1,C1,_,bw,C',c,h2,λw H2 j d o y=>?_]]
 have h:=z.trans j;have t:=m.go c j d
 obtain⟨a,vs,rfl,u,n⟩:=t.lst
 refine#[y.int,a,vs,rfl,b7.of u,λp i=>?_]
 have A:bh Θ H2 (upd H2 p (.lst vs.reverse)):=bh.upd i;exact q _ _ (h.trans A) (l.trans d) ((o7 o (ad1 n) i).from h)
def Jp:aB->aB->Option Vl
 |.bool a,.bool b=>aa (.im (.bool (a != b)))
 |_,_=>ao
theorem aop{K:aU}:jb K (λx y H Q=>∃a b,x=.bl a/\y=.bl b/\Q (.bl (a != b)) H) Jp:=by
 intro Z Θ aj C σ H x y dx f res S d c e Q q;unfold Jp at e;split at e
 .cases e
  exact#[_,_,d,c,q _ _ 003 (iQ S rfl rfl)]
 .cases e
end
def pairsOf:List aB->Option (List (aB×aB))
 |[]=>aa []
 |.tuple [k,v]::r=>(pairsOf r).map λt=>(k,v)::t
 |_=>ao
theorem Qg(d:aB):BV (.im d)=aH:=rfl
theorem Qh(d:aB):BV (.ow d)=aH:=rfl
theorem Qi(n:Nat):BV (.ce n)=aH:=rfl
end L2
namespace HT
open PySem PySem.Spec PyProof.Rows
open Sem (wp)
open Builtin
end HT
namespace L2
open PySem PySem.Spec PyProof.Rows PySem.W
section
variable{X:Cx}
end
theorem amK(h:∀d∈ds,tV e B d)(b:ds.length<=C):tV (e+1) (C*(B+2)+3) (.list ds):=by
 obtain⟨h1,h2,c⟩:=WT h
 refine#[by simpa[aaK] using h1,by simp[Ac];lia,?_]
 simp only[Dm];have:=listText_len_le (G5 ds);have a:(G5 ds).length=ds.length:=ahM ds;rw[a] at this;have f:ds.length*B<=C*B:=ahY B b;rw[Nat.mul_add];lia
end L2
namespace HT
open PySem PySem.Spec PyProof.Rows
open Sem (wp)
open Builtin
end HT
namespace L2
open PySem PySem.Spec PyProof.Rows PySem.W
section
variable{X:Cx}
abbrev Pr:=az×Int×List V
end
def pairD:aB->Option (Int×List aB)
 |.tuple (.int k::r)=>aa (k,r)
 |_=>ao
theorem dZ.ae5(r:dZ k A):A.units+4<fD:=by have:=r.un;lia
def JL:aB->aB->Option Vl
 |.bool a,.bool b=>aa (.im (.bool (a==b)))
 |_,_=>ao
theorem aqb{K:aU}:jb K (λx y H Q=>∃a b,x=.bl a/\y=.bl b/\Q (.bl (a==b)) H) JL:=by
 intro Z Θ aj C σ H x y dx f res S d c e Q q;unfold JL at e;split at e
 case h_2=>cases e
 cases e
 exact#[_,_,d,c,q _ _ 003 (iQ S rfl rfl)]
section
open PySem.Builtin PySem.Builtin.Str
end
def sp:Str:=aO " "
def nl:Str:=aO ""
inductive oO(X:Cx)(pos:Pos):List (Option Expr)->List Expr->List (Str×FE)->List (TE×TE)->Prop
 |nil:oO X pos [] [] [] []
 |cons {k v:Expr} {ks:List (Option Expr)} {vs:List Expr} {z:Str} {f:FE} {l:List (Str×FE)} {nZ:List (TE×TE)}:PE X k (tC (.str z))->PE X v (tE X.K f)->oO X pos ks vs l nZ->oO X pos (aa k::ks) (v::vs) ((z,f)::l) ((tC (.str z),tE X.K f)::nZ)
theorem oO.pps(h:oO X pos ks vs l nZ):Kc X pos ks vs nZ:=by
 induction h with
 |nil=>exact anT
 |cons a b _ ih=>exact al7 a b ih
theorem oO.len(h:oO X pos ks vs l nZ):ks.all (·.isSome)=aq/\ks.length=vs.length:=by
 induction h with
 |nil=>exact#[rfl,rfl]
 |cons _ _ _ ih=>exact#[by rw[Dl,ih.1];rfl,by rw[iM,iM,ih.2]]
theorem aoq{k:Key}(h:k∉au.map (·.1)):putK au k v=au++[(k,v)]:=by
 unfold putK;rw[bK];intro c
 obtain⟨x,a,e⟩:=SM.mp c
 exact h (by rw[<-of_decide_eq_true e];exact aie a)
theorem ab6:∀{more au:List (Key×V)},((au++more).map (·.1)).Nodup->yN au more=au++more
 |[],au,_=>(jt _).symm
 |p::more,au,h=>by
  have h1:p.1∉au.map (·.1):=λm=>by
   rw[jH,lX] at h;exact h.2.2 _ m _ (aie cR) rfl
  show yN (putK au p.1 p.2) more=_;rw[aoq h1,ab6 (by rw[iK];exact h),iK];rfl
theorem acW:∀(a:List (Str×aB)),cj fL (a.map λp=>(fP p.1,p.2))=aa (a.map λp=>(ju p.1:Key))
 |[]=>rfl
 |p::r=>by
  rw[cM,cM];unfold cj;rw[acW r];rfl
inductive Bi where
 |dat (d:aB)
 |lst (ds:016)
 |b8 (au:List (aB×aB))
abbrev vY:=List (Str×Bi)
def vZ(H H':Hp):Prop:=∀a vs,H a=aa (.tup vs)->H' a=aa (.tup vs)
theorem vZ.upd(h:NT (H a)):vZ H (upd H a o):=λb vs e=>by
 rw[c7]
 .exact e
 .intro z;subst z
  obtain⟨u,c,n⟩:=h
  rw[e] at c;cases c;exact n vs rfl
mutual
theorem RZ.uC(k:vZ H H'):∀{d:aB}{v:V},fU d=aq->RZ H d v->RZ H' d v
 |.none,_,_,h=>h
 |.bool _,_,_,h=>h
 |.int _,_,_,h=>h
 |.str _,_,_,h=>h
 |.list ds,_,n,h=>by cases n
 |.tuple ds,_,n,h=>by
  obtain⟨a,vs,e,q,r⟩:=h
  exact#[a,vs,e,k _ _ q,cF.uC k n r]
 |.dict au,_,n,h=>by cases n
theorem cF.uC(k:vZ H H'):∀{ds:016}{vs:012},iW ds=aq->cF H ds vs->cF H' ds vs
 |[],_,_,h=>h
 |d::ds,vs,n,h=>by
  obtain⟨v,r,e,q,t⟩:=h
  have a:fU d=aq/\iW ds=aq:=by rw[iW,jc] at n;exact n
  exact#[v,r,e,RZ.uC k a.1 q,cF.uC k a.2 t]
end
theorem iZ.uC(k:vZ H H'):∀{ds:List (aB×aB)}{vs:012},vO ds=aq->iZ H ds vs->iZ H' ds vs
 |[],_,_,h=>h
 |(x,d)::ds,vs,n,h=>by
  obtain⟨v,r,e,q,t⟩:=h
  have a:L2.fU d=aq/\L2.vO ds=aq:=by
   rw[vO,jc] at n;exact n
  exact#[v,r,e,RZ.uC k a.1 (show RZ H d v from q),iZ.uC k a.2 t]
def tM(H:Hp):Bi->V->List az->Prop
 |.dat d,v,as=>as=[]/\fU d=aq/\RZ H d v
 |.lst ds,v,as=>∃a vs,v=.ref a/\as=[a]/\H a=aa (.lst vs)/\iW ds=aq/\cF H ds vs
 |.b8 au,v,as=>∃a vs,v=.ref a/\as=[a]/\rT H a au vs/\vO au=aq/\iZ H au vs
def uI(H:Hp):vY->List V->List az->Prop
 |[],vs,as=>vs=[]/\as=[]
 |p::r,vs,as=>∃v t a1 a2,vs=v::t/\as=a1++a2/\tM H p.2 v a1/\uI H r t a2
theorem rT.keep(e:∀o,H a=aa o->H' a=aa o)(h:rT H a au vs):rT H' a au vs:=by
 rcases h with⟨ks,k,ep,h⟩|⟨ks,k,ep,h⟩
 .exact .inl #[ks,k,ep,e _ h]
 .exact .inr #[ks,k,ep,e _ h]
theorem tM.keep(k:vZ H H')(e:∀a∈as,∀o,H a=aa o->H' a=aa o)(h:tM H x v as):tM H' x v as:=by
 cases x with
 |dat d=>exact#[h.1,h.2.1,RZ.uC k h.2.1 h.2.2]
 |lst ds=>
  obtain⟨a,vs,e1,rfl,q,n,r⟩:=h
  exact#[a,vs,e1,rfl,e a cR _ q,n,cF.uC k n r]
 |b8 au=>
  obtain⟨a,vs,e1,rfl,q,n,r⟩:=h
  exact#[a,vs,e1,rfl,q.keep (e a cR),n,iZ.uC k n r]
theorem uI.keep(k:vZ H H'):∀{b:vY}{vs:012}{c:015},(∀a∈c,∀o,H a=aa o->H' a=aa o)->uI H b vs c->uI H' b vs c
 |[],_,_,_,h=>h
 |p::r,vs,c,e,h=>by
  obtain⟨v,t,d,f,rfl,rfl,h1,h2⟩:=h
  exact#[v,t,d,f,rfl,rfl,h1.keep k λa m=>e a (jG _ m),uI.keep k (λa m=>e a (fJ _ m)) h2]
def shV:Vl->Bool
 |.im d=>fU d
 |.ow (.list ds)=>iW ds
 |.ow (.dict au)=>vO au
 |.ce _=>aq
 |_=>aH
def zN:Vl->Option Bi
 |.im d=>if fU d=aq then aa (.dat d) else ao
 |.ow (.list ds)=>if iW ds=aq then aa (.lst ds) else ao
 |.ow (.dict au)=>if vO au=aq then aa (.b8 au) else ao
 |_=>ao
theorem uI.len:∀{b:vY}{vs:012}{bs:015},uI H b vs bs->vs.length=b.length
 |[],vs,bs,h=>by rw[h.1];rfl
 |p::r,vs,bs,h=>by
  obtain⟨v,t,a,c,rfl,rfl,h1,h2⟩:=h
  rw[iM,iM,h2.len]
def Q9:List (Str×FE)->En->Ce->Option (vY×En×Ce)
 |[],aj,C=>aa ([],aj,C)
 |(k,f)::r,aj,C=>(f aj C).bind λp=>(zN p.1).bind λx=>(Q9 r p.2.1 p.2.2).bind λq=>aa ((k,x)::q.1,q.2)
section
variable{K:aU}{aj:En}{C:Ce}{σ:St}
theorem ae6{r:Vl}{v:V}{x:Bi}(h:zN r=aa x)(R:Res K Z Θ aj C σ H H' r v):∃b,tM H' x v b/\(∀a∈b,H a=ao)/\Sm K (b++Z) Θ aj C σ H':=by
 refine hide λj f=>?_
 cases r with
 |im d=>
  unfold zN at h;dsimp only at h;split at h
  .rename_i n;cases h;exact f (#[[],#[rfl,n,R.2.same (sZ _ _)],λ_ m=>(nomatch m),R.1])
  .cases h
 |ow d=>
  obtain⟨a,rfl,g,S,i⟩:=R
  cases d<;>first|cases h|skip
  .unfold zN at h;dsimp only at h;split at h
   .rename_i n;cases h
    obtain⟨vs,e,q⟩:=i
    exact f (#[[a],#[a,vs,rfl,rfl,e,n,q.same (sZ _ _)],λc m=>by rw[gB.mp m];exact g,S])
   .cases h
  .unfold zN at h;dsimp only at h;split at h
   .rename_i n;cases h
    obtain⟨vs,e,q⟩:=i
    exact f (#[[a],#[a,vs,rfl,rfl,e,n,q.same (sZ _ _)],λc m=>by rw[gB.mp m];exact g,S])
   .cases h
 |ce n=>cases h
 |sc ns=>cases h
 |ks ns=>cases h
 |tp=>cases h
theorem ad4(S:09)(k:bh Θ H H'):vZ H H':=λa vs e=>k.keep _ _ e λm=>by
 obtain⟨u,b,n⟩:=S.cell.dom a m
 rw[e] at b;cases b;exact n vs rfl
theorem Sm.arF{p:az}{o:HO}(S:09)(b:p∈Z)(no:∀vs,o≠.tup vs):Sm K Z Θ aj C σ (upd H p o):=by
 have k:p∈bF Z Θ aj σ:=jG _ b;have e:er (bF Z Θ aj σ) (upd H p o)=er (bF Z Θ aj σ) H:=Oj k;have c:=S.nd;rw[lX] at c;have up:∀a,a∈Θ++cB aj σ->upd H p o a=H a:=λa m=>c7 λz=>c.2.2 p b a m z.symm
 refine⟨S.len,S.nd,λa m=>?_,λi x h=>?_,S.cell.keep (λa vs e=>vZ.upd (S.dom p b) a vs e) λa m o' g=>by
  rw[up a (jG _ m)];exact g⟩
 .by_cases z:a=p
  .subst z;exact#[o,fK,no]
  .rw[c7 z];exact S.dom a m
 .obtain⟨v,e1,r⟩:=S.slot i x h
  rw[e]
  refine#[v,e1,r.same (cT.refl _) λd a ex j u f=>?_]
  subst ex j;rw[up a (fJ _ (mV.mpr #[i,d,h,e1]))];exact f
end
theorem oO.arG(h:oO X pos ks vs l nZ):∀{Z:015}{aj bw:En}{C C':Ce}{H:Hp}{b:vY}{Q:List (V×V)->Hp->Prop},Sm X.K Z Θ aj C σ H->Q9 l aj C=aa (b,bw,C')->
  (∀ws d H',bh Θ H H'->Fz aj bw->Sm X.K (d++Z) Θ bw C' σ H'->uI H' b ws d->(∀a∈d,H a=ao)->Q ((b.map (λp=>V.str p.1)).zip ws) H')->Oa nZ σ H Q:=by
 induction h with
 |nil=>
  intro Z aj bw C C' H b Q S j q;cases(j);exact q [] [] H 003 010 S #[rfl,rfl] λ_ m=>nomatch m
 |@cons k v ks vs z f l nZ a b _ ih=>
  intro Z aj bw C C' H b Q S j q
  obtain⟨⟨r,e1,C1⟩,h1,w⟩:=bW j
  obtain⟨x,h2,F⟩:=bW w
  obtain⟨⟨K,e2,C2⟩,G,A⟩:=bW F
  cases(A)
  refine#[Z,Θ,aj,C,r,e1,C1,S,h1,λu H1 t i R=>?_]
  obtain⟨s,y,J,e⟩:=ae6 h2 R
  refine ih e G λws d H' n g B E D=>?_
  have I:∀c∈s,c∉Θ:=λc m=>e.cQ.2.2.2 c (jG _ m)
  refine q (u::ws) (s++d) H' (t.trans n) (i.trans g) (B.perm ?_) #[u,ws,s,d,rfl,rfl,y.keep (ad4 e n) λc m o h=>n.keep _ _ h (I c m),E] λc m=>?_
  .rw[<-iK];exact ahL _ List.perm_append_comm
  .rcases dU.mp m with m|m
   .exact J c m
   .exact t.none (D c m)
theorem acX:∀(b:vY)(ws:012),(b.map (λp=>V.str p.1)).zip ws=((b.map λp=>(ju p.1:Key)).zip ws).map λa=>(kV a.1,a.2)
 |[],_=>rfl
 |_::_,[]=>rfl
 |p::r,w::ws=>by
  rw[cM,cM,yh,yh,cM,acX r ws];rfl
theorem alk{α β:Type}{R:α->β->Prop}{a:List α}{bs:List β}(h:Paired R a bs):∀(i:Nat)(q:β),bs[i]?=aa q->∃p,a[i]?=aa p/\R p q:=by
 induction h with
 |nil=>intro i q e;simp at e
 |@cons p q' ps qs hr t ih=>
  intro i q e;cases i with
  |zero=>
   simp at e;subst e
   exact#[p,rfl,hr]
  |succ i=>
   obtain⟨x,b,c⟩:=ih i q (by simpa using e)
   exact#[x,by simpa using b,c]
abbrev cI(n:Int):FB:=aX (bN (.int n))
abbrev cS(s:String):FB:=aX (bN (.str (aO s)))
theorem ad5{α:Type}{D:α->aB}{R:Nat->α->Prop}:∀{ys:016}{k:Nat},(∀i y,ys[i]?=aa y->∃r,y=D r/\R (k+i) r)->∃l:List α,ys=l.map D/\∀i r,l[i]?=aa r->R (k+i) r
 |[],k,_=>#[[],rfl,λi r e=>by simp at e]
 |y::ys,k,h=>by
  obtain⟨r,rfl,c⟩:=h 0 y rfl
  obtain⟨l,rfl,b⟩:=ad5 (ys:=ys) (k:=k+1) λi z a=>by
   rw[show k+1+i=k+(i+1) by lia];exact h (i+1) z (by simpa using a)
  refine#[r::l,rfl,λi z a=>?_]
  cases i with
  |zero=>cases a;exact c
  |succ i=>
   rw[show k+(i+1)=k+1+i by lia];exact b i z (by simpa using a)
structure ye(e:Nat)(d:aB):Prop where
 lay:d.canLay0=aq
 dep:d.depth<=e
 nd:jX d=aq
theorem aqc(h:iI z=aq):ye 0 (.str z):=#[by simpa[Lj] using h,by simp[Ac],rfl]
theorem ae7:∀{ds:016},(∀d∈ds,ye e d)->GD ds=aq/\yo ds<=e/\qG ds=aq
 |[],_=>#[by simp[GD],by simp[yo],rfl]
 |d::ds,h=>by
  obtain⟨h1,h2,a⟩:=ae7 λx b=>h x (dI _ b)
  have g:=h d cR
  refine#[by simp[GD,g.lay,h1],?_,?_]
  .simp only[yo];have:=g.dep;lia
  .show(jX d&&qG ds)=aq
   rw[g.nd,a];rfl
theorem ae8(h:∀d∈ds,ye e d):ye (e+1) (.list ds):=by
 obtain⟨h1,h2,a⟩:=ae7 h
 exact#[by simpa[Lj] using h1,by simp[Ac];lia,a]
theorem ye.shaped(h:ye e d)(a:e<=64):jZ d=aq:=by
 unfold jZ;rw[h.lay,gq (jl h.dep a)];rfl
theorem alm(h:ye e d)(a:e<=64)(b:mX d=aH):tK d d=aa (.im (.bool aq)):=by
 have s:=h.shaped a;have n:=h.nd;have e1:xZ d d=aa aq:=by
  have:xZ d d=if jX d&&jX d&&(jZ d&&jZ d) then aa (Ds d d) else ao:=by
   cases d<;>first|rfl|cases b
  rw[this,n,s,PySem.SeqAt.eqv_refl d h.lay];rfl
 unfold tK;rw[e1];rfl
def Qj(H:Hp):List Bi->List V->List az->Prop
 |[],vs,as=>vs=[]/\as=[]
 |x::r,vs,as=>∃v t a1 a2,vs=v::t/\as=a1++a2/\tM H x v a1/\Qj H r t a2
def mG:List Bi->Ce->List Ci×Ce
 |[],C=>([],C)
 |.dat d::r,C=>(.dat d::(mG r C).1,(mG r C).2)
 |.lst ds::r,C=>(.cD C.length::(mG r (C++[.lst (ds.map .dat)])).1,(mG r (C++[.lst (ds.map .dat)])).2)
 |.b8 au::r,C=>(.cD C.length::(mG r (C++[.b8 (au.map λp=>(p.1,.dat p.2))])).1,(mG r (C++[.b8 (au.map λp=>(p.1,.dat p.2))])).2)
theorem ad6:∀{ds:016}{vs:012},iW ds=aq->cF H ds vs->gm Θ H (ds.map .dat) vs
 |[],_,_,h=>h
 |d::ds,vs,n,h=>by
  obtain⟨v,r,e,q,t⟩:=h
  have a:fU d=aq/\iW ds=aq:=by rwa [iW,jc] at n
  exact#[v,r,e,#[a.1,q],ad6 a.2 t]
theorem acY:∀{au:List (aB×aB)}{vs:012},vO au=aq->iZ H au vs->gm Θ H ((au.map λp=>(p.1,Ci.dat p.2)).map (·.2)) vs
 |[],_,_,h=>h
 |(k,d)::au,vs,n,h=>by
  obtain⟨v,r,e,q,t⟩:=h
  have a:L2.fU d=aq/\L2.vO au=aq:=by
   rwa [vO,jc] at n
  exact#[v,r,e,#[a.1,q],acY a.2 t]
theorem Vc{f:aB->Option κ}:∀au:List (aB×aB),cj f ((au.map λp=>(p.1,Ci.dat p.2)).map λp=>(p.1,j4))=cj f au
 |[]=>rfl
 |p::au=>by
  have:=Vc (f:=f) au;rw[cM,cM];unfold cj
  lia
theorem tM.cat(h:tM H (.lst ds) v [a]):v=.ref a/\lR Θ H a (.lst (ds.map .dat)):=by
 refine hide λd c=>?_
 obtain⟨b,vs,e,e1,q,n,r⟩:=h
 cases e1;exact c (#[e,vs,q,ad6 n r])
theorem tM.arH(h:tM H (.b8 au) v [a]):v=.ref a/\lR Θ H a (.b8 (au.map λp=>(p.1,.dat p.2))):=by
 obtain⟨b,vs,e,e1,q,n,r⟩:=h
 cases e1
 refine#[e,vs,?_,acY n r]
 rcases q with⟨ks,k,ep,q⟩|⟨ks,k,ep,q⟩
 .exact .inl #[ks,by rwa [Vc],ep,q]
 .refine .inr #[ks,#[?_,by rw[Vc];lia],ep,q];simp_all
theorem tM.one(h:tM H x v as):(∃d,x=.dat d/\as=[])\/∃a,as=[a]:=by
 cases x with
 |dat d=>exact .inl #[d,rfl,h.1]
 |lst ds=>obtain⟨a,vs,_,e,_⟩:=h;grind
 |b8 au=>obtain⟨a,vs,_,e,_⟩:=h;grind
section
variable{K:aU}{σ:St}{H:Hp}
theorem Dz:∀{b:List Bi}{vs:012}{as Θ:015}{C:Ce},Sm K (as++Z) Θ aj C σ H->Qj H b vs as->Sm K Z (Θ++as) aj (mG b C).2 σ H/\gm (Θ++as) H (mG b C).1 vs
 |[],vs,as,Θ,C,S,h=>by
  rw[h.2,jt];rw[h.2] at S
  exact#[S,h.1]
 |x::b,vs,as,Θ,C,S,h=>by
  obtain⟨v,t,j,k,rfl,rfl,h1,h2⟩:=h
  rcases h1.one with⟨d,rfl,rfl⟩|⟨a,rfl⟩
  .obtain⟨f,g⟩:=Dz S h2
   exact#[f,v,t,rfl,#[h1.2.1,h1.2.2],g]
  .have i:=S;cases x with
   |dat d=>obtain⟨e,_⟩:=h1;cases e
   |lst ds=>
    obtain⟨rfl,c⟩:=h1.cat
    have cl:=S.cell.len
    obtain⟨f,g⟩:=Dz (i.vC c) h2
    rw[iK] at f g
    exact#[f,_,t,rfl,#[a,rfl,by grind],g]
   |b8 au=>
    obtain⟨rfl,c⟩:=h1.arH
    have cl:=S.cell.len
    obtain⟨f,g⟩:=Dz (i.vC c) h2
    rw[iK] at f g
    exact#[f,_,t,rfl,#[a,rfl,by grind],g]
end
theorem gm.app:∀{xs ys:List Ci}{vs ws:012},gm Θ H xs vs->gm Θ H ys ws->gm Θ H (xs++ys) (vs++ws)
 |[],_,_,_,h,g=>by rwa [show _=[] from h]
 |x::xs,_,_,_,h,g=>by
  obtain⟨v,r,rfl,q,s⟩:=h
  exact#[v,_,rfl,q,s.app g]
def Bu(i:Nat)(f:FE):FS:=λaj C=>match aj[i]? with
 |some (some (.ce n))=>(kW C[n]?).bind λ_=>(f aj C).bind λp=>(zN p.1).bind λx=>(kW p.2.2[n]?).bind λxs=>if xs.length<eE then aa (.nx,p.2.1,(mG [x] p.2.2).2.set n (.lst (xs++(mG [x] p.2.2).1))) else ao
 |_=>ao
section
variable{K:aU}{C:Ce}{σ:St}{H:Hp}
theorem Sm.X6{n:Nat}{xs:List Ci}(S:09)(b:Θ[n]?=aa a)(aK:gm Θ H xs vs):Sm K Z Θ aj (C.set n (.lst xs)) σ (upd H a (.lst vs)):=
 S.go (bh.cell (jY b)) (S.cell.write S.cQ.2.1 b λH' d c=>#[_,c,aK.keep d λ_ _ h=>h])
end
section
variable{pos:Pos}
theorem ad7(M:PE X o (jx i))(Q:PE X e (tE X.K f))
  (s:lG (.Call (.Attribute o "append" apos) [e] [] cpos) ao pos.line X.env=pure aH:=by rfl)
  (g:sE o "append" X.env (eval o X.env)=eval o X.env:=by rfl)
  (l:((eN cpos (bI [e] X.env)).all (λx=>!x.1)&&(pN cpos (pL [] X.env)).all (λx=>x.1.isSome)
   &&decide (([e]:List Expr).length+([]:List pP).length+(if([]:List pP).isEmpty then 0 else 1)<30))=aq:=by rfl)
  (j:(apos.endLine==cpos.line)=aq:=by rfl)(y:bI [e] X.env=006::bI [] X.env:=by rfl)(hplain:(eN cpos (bI [] X.env)).any (·.1)=aH:=by rfl):
  PS X (.Expr (.Call (.Attribute o "append" apos) [e] [] cpos) pos) (tS X.K (Bu i f)):=
 (Aq (Ew Kz KZ RQ (uO.r HD) M (pO Q pR y) g l j y hplain) s).weak λD σ H aV=>by
  obtain⟨Z,Θ,aj,C,T,bw,C',S,c,q⟩:=aV
  unfold Bu at c;split at c
  case h_2=>cases(c)
  rename_i n J
  obtain⟨O,u,c⟩:=bW c
  obtain⟨⟨r,e1,C1⟩,h1,c⟩:=bW c
  obtain⟨x,P,c⟩:=bW c
  obtain⟨xs,z,c⟩:=bW c
  dsimp only at c z;split at c
  case isFalse=>cases(c)
  rename_i lt;cases(c)
  obtain⟨U,L,a,rfl,d⟩:=S.slot i _ J
  obtain⟨V,t,_⟩:=S.cell.at_ n a _ d (wR u)
  refine#[_,L,.inl #[rfl,_,b7.of t],Z,Θ,_,C,r,_,C1,S,h1,λv H1 k f R=>?_]
  obtain⟨A,B,N,w⟩:=ae6 P R
  obtain⟨vs,K,p⟩:=w.cell.at_ n a _ d (wR z)
  obtain⟨F,I⟩:=Dz (b:=[x]) w #[v,[],A,[],rfl,(jt _).symm,B,rfl,rfl]
  refine#[a,vs,v,rfl,rfl,K,by rw[p.len,iw];unfold eE at lt;lia,?_]
  have G:=jY d;have E:=F.X6 (rD n a d) ((p.keep (λ_ _ h=>h) rD).app I);exact q _ σ _ #[#[A,rfl,N],o8 (k.trans (bh.cell G)),λb m=>.inl (f.own.subset m),E]
end
abbrev zO:=List Vl->Ce->Option (Nat×Ce)
def vP(K:aU)(f:zO):Sp:=λvs H Q _=>∃Z Θ C xs m C',Sm K Z Θ [] C [] H/\rC K (er (bF Z Θ [] []) H) Θ xs vs/\f xs C=aa (m,C')/\
 ∀v H' L',jh Θ L' H->bh Θ H H'->Sm K Z L' [] C' [] H'->(∃a,v=.ref a/\L'[m]?=aa a)->Q v H'
def CQ(k n:Nat)(body:FS):zO:=λxs C=>if xs.length=k then match body (xs.map aa++cH (n-xs.length) ao) C with
  |some (.rt (.ce m),_,C')=>aa (m,C')
  |_=>ao
 else ao
theorem ae9{P:dB}{w:cG}{K:aU}{base:cg}{x qual:Str}{st:dF}{f:az}{fd:o5}{k:Nat}{body:FS}{i k2:Nat}(F:f9 K x qual st f fd)(S:gO N ps (cO st))
  (j:∀(b:aG)(A:dN)(outer:List Env)(s:aR)(H:Hp)(E:XK),dZ k (A.deeper (envOfC qual (cO st) s.heap.objs.size f b))->jD (xP dJ P w K mg base N qual (cO st) f b A outer s H E).Cu (sU st) (tS K body))
  (e1:i=ps.length:=by rfl)(e2:k2=N.length:=by rfl):dG P w K mg base dJ (k+1) f fd ps (vP K (CQ i k2 body)):=by
 subst e1 e2;refine F.ok S (λvs H Q E h=>?_) (λb A outer s H vs Q E r h=>#[_,j _ A _ s H E r,?_])
 .obtain⟨Z,Θ,C,xs,m,C',e,a,c,_⟩:=h
  unfold CQ at c;split at c
  .rename_i o;rw[Al a,o]
  trivial
 .obtain⟨Z,Θ,C,xs,m,C',e,a,c,q⟩:=h
  unfold CQ at c;split at c
  case isFalse=>lia
  have t:=Al a
  obtain⟨g,no⟩:=e.start (n:=N.length-vs.length) a
  rw[t] at g no;have l:start N vs=vs.map aa++cH (N.length-xs.length) ao:=by unfold start;lia
  rw[l];split at c
  case h_2=>trivial
  rename_i p C1 d;cases(c)
  refine#[Z,Θ,_,C,_,p,C',g,d,λL' v H' R=>?_]
  have kp:=R.kp;rw[no,jt] at kp;exact q v H' L' R.th kp R.ok.1 R.ok.2
section
variable{K:aU}{aj:En}{σ:St}{H H':Hp}
theorem Sm.YB(S:09)(k:bh Θ H H')(t:jh Θ L' H)(f:Sm K (Z++cB aj σ) L' [] C' [] H'):Sm K Z L' aj C' σ H':=by
 obtain⟨Δ,e,n⟩:=t.ex
 subst e;have p:∀a,a∈bF Z _ _ σ->a∈bF Z Θ aj σ\/H a=lZ:=λa m=>by
  rcases iy.mp m with m|m|m
  .exact .inl (iy.mpr (.inl m))
  .rcases dU.mp m with m|m
   .exact .inl (iy.mpr (.inr (.inl m)))
   .exact .inr (n a m)
  .exact .inl (iy.mpr (.inr (.inr m)))
 refine#[S.len,?_,λb m=>f.dom b (jG _ m),λi x e=>?_,f.cell]
 .have h:=f.nd
  grind
 .obtain⟨v,e1,r⟩:=S.slot i x e
  refine#[v,e1,?_]
  have c:=r.same (jN k S.qN p) λd a ex l o j=>k.keep _ _ j (by
   subst ex l
   exact(S.nM (mV.mpr ⟨i,d,e,e1⟩)).2)
  cases x with
  |ce m=>obtain⟨b,g,q⟩:=c;exact#[b,g,rD _ _ q]
  |im d=>exact c
  |ow d=>exact c
  |sc ns=>exact c
  |ks ns=>exact c
  |tp=>exact c
end
def JM(i:Nat)(f:zO)(g:FA):FS:=λaj C=>(g aj C).bind λa=>(f a.1 a.2.2).bind λr=>aa (.nx,a.2.1.set i (aa (.ce r.1)),r.2)
theorem aln{K:aU}{g:FA}:∀D σ H,tS K (JM i f g) D σ H->zm (Jx (vP K f) [] E0 (nC K g)) (vH i) D σ H:=by
 rintro D σ H ⟨Z,Θ,aj,C,fl,bw,C',S,c,q⟩
 obtain⟨⟨xs,e1,C1⟩,h1,c⟩:=bW c
 obtain⟨⟨m,C2⟩,h2,c⟩:=bW c
 cases(c)
 refine#[Z,Θ,_,C,xs,e1,C1,S,h1,λvs H1 j l h k=>?_]
 rw[jt];have e2:er _ H1=er (bF Z Θ e1 σ) H1:=pU Av;rw[<-e2] at k
 refine#[_,Θ,C1,xs,m,_,h.bare,k,h2,λv H2 L' t k2 S2 ha=>?_]
 obtain⟨a,rfl,d⟩:=ha
 have o:=h.YB k2 t S2;have p:=o.rK (i:=i) (x:=.ce m) (λ_ z=>nomatch z) #[a,rfl,d]
 obtain⟨Δ,e,n⟩:=t.ex
 refine q L' _ H2 #[#[Δ,e,λb mb=>j.none (n b mb)],o8 (j.trans k2),λb mb=>.inl (l.own.subset ?_),p];rcases sV mb with mb|⟨⟨_,z⟩,_⟩
 .trivial
 trivial
theorem aor{X:Cx}{f:zO}{g:FA}{p pos1 pos pos':Pos}(l:017)(hi:X.N[i]?=aa z)(n:Loc X.env.scope z)(F:jQ X.prog X.w X.K X.mg X.base x k ps (vP X.K f))(j:dZ k X.A)(m:Gl X x)(c:PA X (e::es) (nC X.K g))(b:(x==("__debug__":Str))=aH:=by decide)
  (o:bI (e::es) X.env=006::bI es X.env:=by rfl)(a:(eN pos1 (bI es X.env)).any (·.1)=aH:=by rfl)(d:lG (.Call (.Name x p) (e::es) [] pos1) (aa (.Name z pos')) pos.line X.env=pure aH:=by rfl)(h:X.fn z=aq\/X.env.scope.names.lookup z=aa .local:=by first|exact .inl rfl|exact .inr rfl|assumption):
  PS X (.Assign [.Name z pos'] (.Call (.Name x p) (e::es) [] pos1) pos) (tS X.K (JM i f g)):=(Az l hi n (Pa F j m c b o a) d h).weak aln
def ZM(look:Nat->Option aB):Ci->Option aB
 |.dat d=>aa d
 |.cD m=>look m
def rM(look:Nat->Option aB):List Ci->Option (List aB)
 |[]=>aa []
 |x::xs=>(ZM look x).bind λd=>(rM look xs).bind λds=>aa (d::ds)
def YC(look:Nat->Option aB):List (aB×Ci)->Option (List (aB×aB))
 |[]=>aa []
 |p::xs=>(ZM look p.2).bind λd=>(YC look xs).bind λds=>aa ((p.1,d)::ds)
def clL(look:Nat->Option aB):Cl->Option aB
 |.lst xs=>(rM look xs).map .list
 |.b8 au=>(YC look au).map .dict
 |.uR=>ao
 |.obj _ _ _=>ao
def oJ(C:Ce)(lo:Nat):Nat->Nat->Option aB
 |0,_=>ao
 |f+1,n=>if lo<=n then(C[n]?).bind (clL (oJ C lo f)) else ao
theorem afa(c:∀a vs,H a=aa (.tup vs)->E a=aa (.tup vs))(f:∀m b d,Θ[m]?=aa b->look m=aa d->RZ E d (.ref b))(h:ni Θ H x v)(e:ZM look x=aa d):RZ E d v:=by
 cases x with
 |dat d'=>cases e;exact RZ.fU c h.1 h.2
 |cD m=>obtain⟨b,rfl,g⟩:=h;exact f m b d g e
theorem ad8(c:∀a vs,H a=aa (.tup vs)->E a=aa (.tup vs))(f:∀m b d,Θ[m]?=aa b->look m=aa d->RZ E d (.ref b)):∀{xs:List Ci}{vs:012}{ds:016},gm Θ H xs vs->rM look xs=aa ds->cF E ds vs
 |[],_,_,h,e=>by cases e;exact h
 |x::xs,vs,ds,h,e=>by
  obtain⟨v,r,rfl,q,s⟩:=h
  obtain⟨d,h1,e⟩:=bW e
  obtain⟨g,h2,e⟩:=bW e
  cases e
  exact#[v,r,rfl,afa c f q h1,ad8 c f s h2]
theorem acZ(f:∀a vs,H a=aa (.tup vs)->E a=aa (.tup vs))(c:∀m b d,Θ[m]?=aa b->look m=aa d->RZ E d (.ref b)):∀{xs:List (aB×Ci)}{vs:012}{ds:List (aB×aB)},gm Θ H (xs.map (·.2)) vs->YC look xs=aa ds->iZ E ds vs/\ds.map (·.1)=xs.map (·.1)
 |[],_,_,h,e=>by cases e;trivial
 |x::xs,vs,ds,h,e=>by
  obtain⟨v,r,rfl,q,s⟩:=h
  obtain⟨d,h1,e⟩:=bW e
  obtain⟨i,h2,e⟩:=bW e
  cases e
  obtain⟨g,j⟩:=acZ f c s h2
  exact#[#[v,r,rfl,afa f c q h1,g],by grind]
theorem Vd{f:aB->Option κ}:∀{a k2:List (aB×aB)},a.map (·.1)=k2.map (·.1)->cj f a=cj f k2
 |[],[],_=>rfl
 |p::a,q::k2,h=>by
  rw[cM] at h;injection h with h1 h2
  unfold cj;rw[h1,Vd h2]
 |[],_::_,h=>by cases h
 |_::_,[],h=>by cases h
theorem WW(c:gP Θ C H)(j:∀a vs,H a=aa (.tup vs)->E a=aa (.tup vs)){lo:Nat}(l:∀m a,lo<=m->Θ[m]?=aa a->∀o,H a=aa o->E a=aa o):∀(f:Nat)(m:Nat)(b:az)(d:aB),Θ[m]?=aa b->oJ C lo f m=aa d->RZ E d (.ref b)
 |0,_,_,_,_,e=>by cases e
 |f+1,m,b,d,hb,e=>by
  unfold oJ at e;split at e
  case isFalse=>cases e
  rename_i h
  obtain⟨cl,r,e⟩:=bW e
  have n:=WW c j l f;have at_:=c.at_ m b cl hb r;have g:=l m b h hb;cases cl with
  |lst xs=>
   obtain⟨ds,h1,rfl⟩:=lW.mp e
   obtain⟨vs,h2,i⟩:=at_
   exact#[b,vs,rfl,g _ h2,ad8 j n i h1]
  |b8 au=>
   obtain⟨ds,h1,rfl⟩:=lW.mp e
   obtain⟨vs,h2,i⟩:=at_
   obtain⟨q,s⟩:=acZ j n i h1
   have t:∀{κ:Type}{f:aB->Option κ},cj f ds=cj f (au.map λp=>(p.1,j4)):=λ{κ f}=>Vd (by simp_all)
   refine#[b,vs,rfl,?_,q]
   rcases h2 with⟨ks,k,ep,h2⟩|⟨ks,k,ep,h2⟩
   .exact .inl #[ks,by grind,ep,g _ h2]
   .refine .inr #[ks,#[?_,by grind],ep,g _ h2];intro z;simp_all
  |uR=>cases e
  |obj=>cases e
def frC(C:Ce):Option Vl->Option Vl
 |some (.ce n)=>(oJ C 0 4 n).map .im
 |x=>x
def agv:Option Vl->Bool
 |some (.ce _)=>aq
 |_=>aH
def JZ:En->En->En
 |x::e,y::f=>(bif agv x then x else y)::JZ e f
 |_,_=>[]
def tD(f:FE):FE:=λaj C=>(f (aj.map (frC C)) []).bind λp=>if shV p.1=aq/\p.2.2=[] then aa (p.1,JZ aj p.2.1,C) else ao
theorem Ow(C:Ce):∀(aj:En)(σ:St),cB (aj.map (frC C)) σ=cB aj σ
 |[],_=>rfl
 |x::e,[]=>rfl
 |x::e,v::s=>by
  rw[cM,cB,Ow C e s];congr 1;cases x with
  |none=>rfl
  |some y=>
   cases y with
   |ce n=>
    show own1 ((oJ C 0 4 n).map _) v=_;cases oJ C 0 4 n<;>(rfl)
   |_=>rfl
theorem ad9:∀{aj e1:En},Fz (aj.map (frC C)) e1->Fz aj (JZ aj e1)
 |[],[],_=>trivial
 |[],_::_,h=>nomatch h
 |_::_,[],h=>nomatch h
 |x::e,y::f,h=>by
  refine#[?_,ad9 h.2]
  cases hx:agv x with
  |true=>exact .inl rfl
  |false=>
   have e1:frC C x=x:=by
    cases x with
    |none=>rfl
    |some z=>cases z<;>(trivial)
   have:=h.1
   grind
theorem Sm.view{K:aU}{C:Ce}{σ:St}{H:Hp}(S:09):Sm K Z [] (aj.map (frC C)) [] σ H:=by
 have cQ:=S.cQ;have k:∀a,a∈bF Z [] (aj.map (frC C)) σ->a∈bF Z Θ _ σ:=λa m=>by
  rcases iy.mp m with m|m|m
  .grind
  .nomatch m
  .rw[Ow] at m;exact iy.mpr (.inr (.inr m))
 have sm:cT (er _ H) _:=uo k
 refine#[by rw[bC];exact S.len,?_,S.dom,λi x e=>?_,#[rfl,λn a c e _=>by grind]]
 .show(Z++([]++cB _ σ)).Nodup
  rw[Ow];have h:=S.nd
  grind
 .rw[jr] at e
  obtain⟨y,l,e⟩:=lW.mp e
  cases y with
  |none=>cases e
  |some z=>
   obtain⟨v,e1,r⟩:=S.slot i z l
   refine#[v,e1,?_]
   cases z with
   |ce n=>
    obtain⟨d,p,rfl⟩:=lW.mp e
    obtain⟨a,rfl,j⟩:=r
    refine WW S.cell (λb vs g=>wU (λc m=>S.oN c (k c m)) g) (λs b _ f o g=>?_) 4 n a d j p;unfold er;rw[bK]
    .exact g
    .intro m;have mb:=jY f;rcases iy.mp m with m|m|m
     .grind
     .nomatch m
     .rw[Ow] at m
      exact(S.nM m).2 mb
   |im d=>cases e;exact RZ.same sm r
   |ow d=>cases e;obtain⟨a,e,q⟩:=r;exact#[a,e,q.same sm λ_ h=>h]
   |sc ns=>cases e;obtain⟨a,e,q⟩:=r;exact#[a,e,sm.seq q]
   |ks ns=>cases e;obtain⟨a,e,q⟩:=r;exact#[a,e,sm.Fx q]
   |tp=>trivial
theorem alo{K:aU}:∀σ H Q,tE K (tD f) σ H Q->tE K f σ H Q:=by
 rintro σ H Q ⟨Z,Θ,aj,C,res,bw,C',S,i,q⟩
 obtain⟨⟨r,e1,C1⟩,h1,i⟩:=bW i
 dsimp only at i;split at i
 case isFalse=>lia
 rename_i x;cases(i)
 obtain⟨t,rfl⟩:=x
 refine#[Z,[],_,[],_,e1,[],S.view,h1,λv H1 k f R=>?_]
 have fz:=ad9 f;have p:=S.fz fz;have j:bh Θ H H1:=#[λa o e n=>k.keep a o e (λm=>nomatch m),k.dom]
 have s:=S.cell.keep (λa vs e=>k.keep _ _ e λm=>nomatch m) λa m o e=>k.keep _ _ e λm=>nomatch m
 have u:=p.go j s;refine q v H1 j fz ?_;cases res with
 |im d=>
  obtain⟨y,rz⟩:=R
  exact#[u,RZ.fU (λb vs h=>wU u.oN (gW h)) t rz]
 |ow d=>
  obtain⟨a,rfl,l,y,w⟩:=R
  cases d<;>first|trivial|skip
  .obtain⟨vs,c,rz⟩:=w
   have g:=p.Br l j #[_,c,λ_ z=>nomatch z] s
   exact#[a,rfl,l,g,vs,c,cF.fU (λb ws h=>wU g.oN (gW h)) t rz]
  .obtain⟨vs,c,rz⟩:=w
   have nt:NT (H1 a):=by
    rcases c with⟨ks,k,ep,c⟩|⟨ks,k,ep,c⟩
    .exact#[_,c,λ_ z=>nomatch z]
    .exact#[_,c,λ_ z=>nomatch z]
   have g:=p.Br l j nt s
   exact#[a,rfl,l,g,vs,c,iZ.uC (λb ws h=>wU g.oN (gW h)) t rz]
 |ce n=>obtain⟨_,a,_,e⟩:=R;trivial
 |sc ns=>trivial
 |ks ns=>trivial
 |tp=>trivial
theorem aea{X:Cx}{f:FE}{e:Expr}(h:PE X e (tE X.K f)):PE X e (tE X.K (tD f)):=h.weak alo
def CT:Ci->Vl
 |.dat d=>.im d
 |.cD m=>.ce m
def Bv(n j:Nat)(body:FS):Nat->Nat->FS
 |0,_=>λ_ _=>ao
 |f+1,i=>λaj C=>(kW C[n]?).bind λxs=>match xs[i]? with
  |none=>aa (.nx,aj,C)
  |some x=>match body (aj.set j (aa (CT x))) C with
   |some (.nx,e,C1)=>Bv n j body f (i+1) e C1
   |some (.ct,e,C1)=>Bv n j body f (i+1) e C1
   |some (.bk,e,C1)=>aa (.nx,e,C1)
   |some (.rt r,e,C1)=>aa (.rt r,e,C1)
   |none=>ao
def JN(i j:Nat)(body:FS):FS:=λaj C=>match aj[i]? with
 |some (some (.ce n))=>Bv n j body 100000 0 aj C
 |_=>ao
section
variable{K:aU}{C C':Ce}{σ F':St}{H H':Hp}
theorem jh.at{n:Nat}(t:jh Θ L' H)(h:Θ[n]?=aa a):L'[n]?=aa a:=by
 obtain⟨Δ,e,_⟩:=t.ex
 grind
theorem Sm.aq5(S:09){x:Ci}(h:ni Θ H x v):Sm K Z Θ (aj.set j (aa (CT x))) C (σ.set j (aa v)) H:=by
 cases x with
 |dat d=>exact S.rK (λ_ z=>nomatch z) (RZ.fU (λb vs a=>wU S.oN a) h.1 h.2)
 |cD m=>exact S.rK (λ_ z=>nomatch z) h
theorem aqd(m:b∈cB (aj.set j (aa (CT x))) (σ.set j (aa v))):b∈cB aj σ:=by
 rcases sV m with m|⟨⟨d,z⟩,_⟩
 .exact m
 .cases x<;>cases z
end
theorem alp{K:aU}:∀D σ H,tS K (JN i j body) D σ H->YX (afx K (jx i)) (vH j) (tS K body) D σ H:=by
 rintro D σ H ⟨Z,Θ,aj,C,fl,bw,C',S,hf,q⟩;unfold JN at hf;split at hf
 case h_2=>cases(hf)
 rename_i n E
 obtain⟨v,F,a,rfl,g⟩:=S.slot i _ E
 have I:∃xs,kW C[n]?=aa xs:=by
  obtain⟨xs,x,_⟩:=bW hf
  exact#[xs,x]
 obtain⟨G,p⟩:=I
 obtain⟨J,u,_⟩:=S.cell.at_ n a _ g (wR p)
 refine#[_,F,a,rfl,#[_,b7.of u],λk m F2 H2=>∃Θ2 e2 C2,fH K Z Θ _ σ H Θ2 e2 C2 F2 H2/\Bv n j _ m k e2 C2=aa _,#[_,Θ,_,C,fH.same S,hf],?_]
 rintro k m F2 H2 ⟨Θ2,e2,C2,p2,c⟩;cases m with
 |zero=>cases(c)
 |succ m=>
 obtain⟨xs,x,c⟩:=bW c
 have s:=p2.th.at g
 obtain⟨vs,t,z⟩:=p2.sm.cell.at_ n a _ s (wR x)
 split at c
 .rename_i r;cases(c);refine .inl #[#[vs,b7.of t,?_],q Θ2 F2 H2 p2];rw[z.len];exact RM.mp r
 .rename_i r
  obtain⟨v,A,hi⟩:=z.at r
  refine .inr #[#[vs,v,b7.of t,A],_,λF' H' h=>#[m,zW m,h],λy L w=>?_]
  obtain⟨rfl,w⟩:=w
  have B:=w vs (b7.of t);rw[A] at B;cases(B);have l:=p2.sm.aq5 (j:=j) hi;have o:=p2.trans #[jh.refl _ _,bh.refl _ _,λb m=>.inl (aqd m),l];split at c
  .rename_i f e d
   exact#[Z,Θ2,_,C2,_,f,e,l,d,λL5 F5 H5 p5=>#[L5,f,e,o.trans p5,c]]
  .rename_i f e d
   exact#[Z,Θ2,_,C2,_,f,e,l,d,λL5 F5 H5 p5=>#[L5,f,e,o.trans p5,c]]
  .rename_i e d;cases(c)
   exact#[Z,Θ2,_,C2,_,_,C',l,d,λL5 F5 H5 p5=>q L5 F5 H5 (o.trans p5)]
  .rename_i f e d;cases(c)
   exact#[Z,Θ2,_,C2,_,_,C',l,d,λL5 v H5 p5=>q L5 v H5 (o.ret p5)]
  .cases(c)
theorem aos{X:Cx}{f:FS}{x:Str}{e pos:Pos}(b:PassesOwn 05 X.A X.env X.xe)(m:011)(a:017)(g:X.N[j]?=aa x)(h:Loc X.env.scope x)(d:PE X o (jx i))(l:jD X body (tS X.K f))
  (k:X.fn x=aq\/X.env.scope.names.lookup x=aa .local:=by first|exact .inl rfl|exact .inr rfl|assumption)(c:∀x,qm o X.env x=pure x:=by intro _;rfl):PS X (.For (.Name x e) o body [] pos) (tS X.K (JN i j f)):=
 (aeu b m (Il d) (gM a g h k) l c).weak alp
def Fg(f:zO)(g:FA):FE:=λaj C=>(g aj C).bind λa=>(f a.1 a.2.2).bind λr=>(oJ r.2 a.2.2.length 4 r.1).bind λd=>aa (.im d,rst (.im d) aj a.2.1,qe a.2.2.length r.2)
theorem alq{K:aU}:∀σ H Q,tE K (Fg f g) σ H Q->Jx (vP K f) [] E0 (nC K g) σ H Q:=by
 rintro σ H Q ⟨Z,Θ,aj,C,res,bw,C',S,c,q⟩
 obtain⟨⟨xs,e1,C1⟩,h1,c⟩:=bW c
 obtain⟨⟨m,C2⟩,h2,c⟩:=bW c
 obtain⟨d,u,c⟩:=bW c
 dsimp only at c u;cases(c)
 refine#[Z,Θ,aj,C,xs,e1,C1,S,h1,λvs H1 p x k w=>?_]
 show vP K f (vs++[]) H1 Q E0;rw[jt];have e2:er (bF (Z++cB e1 σ) Θ [] []) H1=er (bF Z Θ e1 σ) H1:=pU Av;rw[<-e2] at w
 refine#[Z++cB e1 σ,Θ,C1,xs,m,C2,k.bare,w,h2,λv H2 L' t k2 S2 ha=>?_]
 obtain⟨a,rfl,r⟩:=ha
 have cl:=k.cell.len
 obtain⟨Δ,e,n⟩:=t.ex
 subst e;have cQ:=S2.cQ;have y:gP Θ (qe C1.length C2) H2:=by
  rw[cl];exact S2.cell.cut
 have s:Sm K Z Θ e1 (qe C1.length C2) σ H2:=k.go k2 y;have rz:RZ (er (bF Z Θ e1 σ) H2) d (.ref a):=WW S2.cell (λb ws l=>wU s.oN l) (λz b lo j o l=>by
  have i:b∈Δ:=by
   rw[gh (by rw[<-cl];exact lo)] at j;exact jY j
  unfold er;rw[bK]
  .exact l
  .intro h;rcases iy.mp h with h|h|h
   .exact cQ.2.2.2 b (jG _ h) (fJ _ i)
   .exact(lX.mp cQ.2.1).2.2 b h b i rfl
   .exact cQ.2.2.2 b (fJ _ h) (fJ _ i)) 4 m a d r u
 have R:Res K Z Θ e1 (qe C1.length C2) σ H1 H2 (.im d) (.ref a):=#[s,rz]
 exact q _ H2 (p.trans k2) (x.rst _) ((R.from p).rst S (p.trans k2))
theorem aot{X:Cx}{f:zO}{g:FA}{p pos:Pos}(F:jQ X.prog X.w X.K X.mg X.base x k ps (vP X.K f))(i:dZ k X.A)(c:Gl X x)(h:PA X (e::es) (nC X.K g))(a:(x==("__debug__":Str))=aH:=by decide)
  (d:bI (e::es) X.env=006::bI es X.env:=by rfl)(b:(eN pos (bI es X.env)).any (·.1)=aH:=by rfl):PE X (.Call (.Name x p) (e::es) [] pos) (tE X.K (Fg f g)):=(Pa F i c h a d b).weak alq
section
variable{prog:dB}{w:cG}{K:Type}[DecidableEq K]{knd:HeapKind prog w K}{A:dN}{E:aG->aR->Prop}{s:aR}
end
def arJ:HO->Nat->V->V->Hp->Prop
 |.dK au _,i,x,y,_=>∃kv,au[i]?=aa kv/\x=kV kv.1/\y=kv.2
 |.dT au _,i,x,y,H=>∃kv b,au[i]?=aa kv/\x=.ref b/\jO H b kv.1/\y=kv.2
 |_,_,_,_,_=>False
def agw:HO->Nat
 |.dK au _=>au.length
 |.dT au _=>au.length
 |_=>0
def dEp:HO->Nat
 |.dK _ ep=>ep
 |.dT _ ep=>ep
 |_=>0
def Zc:HO->Prop
 |.dK _ _=>True
 |.dT _ _=>True
 |_=>False
theorem amL:∀{l:List UT}{vs:List (Key×aG)}{au:List (Key×V)},Pairs (gV P w) l vs->KV au vs->∀(i:Nat)(e:UT),l[i]?=aa e->∃c,au[i]?=aa c/\RelV (kV c.1) e.key/\RelV c.2 e.val:=by
 intro l vs au p;induction p generalizing au with
 |nil=>intro _ i e h;simp at h
 |cons h1 h2 h3 ih=>
  intro r i e h;cases r with
  |@cons a b as bs hr t=>
   cases i with
   |zero=>
    simp at h;subst h
    refine#[a,rfl,?_,?_]
    .rw[hr.1];rcases qt h1 with⟨i,t,e3,e4⟩|⟨y,t,e3,e4⟩
     .rw[e3,e4];exact#[t,rfl]
     .rw[e3,e4];exact#[t,rfl]
    .first|exact h2▸hr.2|(rw[h2];exact hr.2)|(rw[<-h2];exact hr.2)
   |succ i=>
    obtain⟨c,d,f⟩:=ih t i e (by simpa using h)
    exact#[c,by simpa using d,f]
theorem aqe{X:Cx}{σ:St}{H:Hp}{o:HO}(I:06)(h:H a=aa o)(d:Zc o):
  (a==oY)=aH/\∃es,pB s.heap a es (dEp o)/\es.size=agw o/\∀(i:Nat)(e:UT),es[i]?=aa e->∃x y,arJ o i x y H/\RelV x e.key/\RelV y e.val:=by
 cases o<;>first|exact d.elim|skip
 .rename_i au ep
  obtain⟨z,lo,vs,b,o,es,h1,h2,k,l,n,u⟩:=(show kO X.prog X.w H s.heap a (.dK au ep) from I.hok a _ h)
  have p:=n.length;have j:=Paired.length b
  refine#[lo,es,#[o,h1,h2,k],by rw[<-n6,p,<-j];rfl,λi e c=>?_]
  obtain⟨m,g,f,r⟩:=amL n b i e (by rw[Gr];exact c)
  exact#[_,_,#[m,g,rfl,rfl],f,r]
 .rename_i au ep
  obtain⟨z,lo,xs,b,o,es,h1,h2,k,l,n⟩:=(show kO X.prog X.w H s.heap a (.dT au ep) from I.hok a _ h)
  have j:=Paired.length b
  refine#[lo,es,#[o,h1,h2,k],by rw[<-n6,l,bC,<-j];rfl,λi e c=>?_]
  have c:es.toList[i]?=aa e:=by rw[Gr];exact c
  rw[l,jr] at c
  obtain⟨q,t,rfl⟩:=lW.mp c
  obtain⟨m,g,f⟩:=alk b i q t
  exact#[_,_,#[m,q.2.1,g,rfl,f.2.1,rfl],rfl,f.2.2]
end L2
namespace L2
end L2
namespace L2
open PySem
section
variable{α β:Type}[DecidableEq α]{D:α->aB}{K:α->TK}{F:α×β->aB}
end
theorem qZ(D:α->aB)(g:α->aB){l:List α}(h:∀a∈l,∃ts,yc T (D a)=aa ts/\ft (cW ts++fs) C=aa (aq,C)/\∃x e,fe (cW ts++fs) C=aa (x,e,C)/\still x=.im (g a)):gQ T ft fe fs (l.map D) C=aa (l.map g,C):=by
 have:=Ah (T:=T) (ft:=ft) (fe:=fe) (fs:=fs) (C:=C) D (λ_=>aq) g (l:=l) λa m=>by
  obtain⟨ts,h1,h2,b⟩:=h a m
  exact#[ts,h1,h2,λ_=>b]
 rwa [List.filter_eq_self.mpr λ_ _=>rfl] at this
theorem wV(h1:g d aj=aa e1)(h2:body e1 C=aa (.nx,e2,C2)):mZ g body (d::r) aj C=mZ g body r e2 C2:=by
 show(match g d aj with|some e1=>_|none=>_)=_
 rw[h1]
 show(match body e1 C with|some (.nx,e2,C2)=>_|some (.ct,e2,C2)=>_|some (.bk,e2,C2)=>_|some (.rt v,e2,C2)=>_|none=>_)=_
 rw[h2]
section
variable{α β:Type}[DecidableEq α]{D:α->aB}{K:α->TK}{F:α×β->aB}
end
end L2
namespace L2
open PySem PySem.Spec PyProof.Rows PySem.W
section
variable{P:dB}{w:cG}{T:Type}[DecidableEq T]{kd:HeapKind P w T}{A:dN}{E:aG->aR->Prop}{s:aR}
theorem aow(n:kd.room A)(g:kd.is s.heap k a)(r:s.heap.DictOfH kd d xs)(hz:xs.length<=cz)
  (h1:∀p,uy xs k=aa p->Q p.2 {s with toks:=s.toks+kd.draws k})
  (h2:uy xs k=ao->∀h',h'.DictOfH kd d (storedH xs k a u)->qW d s.heap h'->Q u {s with heap:=h',toks:=s.toks+kd.draws k}):
  bf (model P w) A (dictSetDefault d (.ref a) u) Q E s:=by
 obtain⟨o,es,ep,c,z,b,f,hi,h⟩:=r
 refine pJ (aJ (kd.pyHash n g (aJ (wpAny_dictFind_heap n g c b f hi h (λno=>?_) λj p q=>?_))))
 .have l:=atKey_none_of_get no;have v:=not_mem_keys_of_get no;have B:es.size<=cz:=by rwa [size_of_entries f]
  refine aJ (uf (aJ (wpAny_updateDictKeys (hz:=B) c b (bu (h2 l _ ?_ (oU ..))))))
  refine#[_,_,ep+1,zR _ c (Obj.isFreed_of_dict (ahZ b _)),z.mapDictKeys _,ahZ b _,?_,?_,?_]<;>rw[storedH_new l]
  .simp[f,entryOfKey]
  .intro x i;rcases dU.mp i with m|m
   .exact kd.keeps (hi x m) c b (oU ..)
   .cases gB.mp m;exact kd.keeps g c b (oU ..)
  .rw[jH,lX]
   exact#[h,bH,λx i y t e=>v (by rwa [e,gB.mp t] at i)]
 .refine aJ (Df c b ?_);rw[entry_at f j,q];exact aJ (uf (bu (h1 p (atKey_of_get h q))))
theorem alr(i:(d==oY)=aH)(u:aG):MeetsIn P w (rA.«dict.setdefault» ⟨[.ref d,.ref a,u],[]⟩) (λA R s=>kd.room A.in1/\∃k xs,kd.is s.heap k a/\s.heap.DictOfH kd d xs/\xs.length<=cz/\
   (∀p,uy xs k=aa p->R (.ok (.ret p.2)) {s with toks:=s.toks+kd.draws k})/\
   (uy xs k=ao->∀h',h'.DictOfH kd d (storedH xs k a u)->qW d s.heap h'->R (.ok (.ret u)) {s with heap:=h',toks:=s.toks+kd.draws k})):=
 .of_wp λA R s ⟨f,k,xs,c,b,h,h1,h2⟩=>by
  refine aJ (aJ (Z9 b.typeIs ?_));refine bu ?_;show bf _ _ (if(d==oY)=aq then _ else(dictSetDefault d _ u >>= _)) _ _ s;rw[i];exact aJ (aow f c b h (λp e=>bu #[_,rfl,h1 p e]) λn h' g sb=>bu #[u,rfl,h2 n h' g sb])
end
section
variable{X:Cx}{σ:St}{H:Hp}{a b:az}{A:dN}
theorem afV{k:TK}{ep:Nat}{v:V}(t:A.units+2<fD)(I:06)(e:H a=aa (.dT au ep))(l:jO H b k)(L:au.length<cz)(o:RelV v r)
  (h1:∀u,iC au k=aa u->∀i s',Inv X aA σ H s'->RelV u i->Q i s')(h2:iC au k=ao->∀e s',Inv X aA σ (upd H a (.dT (au++[(k,v)]) e)) s'->Q r s'):
  bf 05 A (call (.builtin "dict.setdefault") [.ref a,.ref b,r]) Q E s:=by
 obtain⟨z,n,xs,g,j⟩:=afD I.hok e
 have x:xs.length<=cz:=by rwa [<-Paired.length g]
 have f:=g.val k;refine call_meetsIn ahx j.typeIs PySem.F.entry_dict_setdefault (PySem.F.args_dict_setdefault_3 _ _ _) (alr n r) #[Ii t,k,xs,Eo I.hok l,j,x,λp D=>?_,λno h' C B=>?_]
 .rw[D] at f;cases d:iC _ k with
  |none=>rw[d] at f;exact f.elim
  |some u=>rw[d] at f;exact h1 u d _ _ (I.tok _) f
 .have d:iC au k=ao:=by
   rw[no] at f;cases d:iC _ k with
   |none=>rfl
   |some u=>rw[d] at f;exact f.elim
  obtain⟨q,es,h,m,G,w,y,_,K⟩:=C
  refine h2 d h _ ?_;have J:=al6 v d;have len:(au++[(k,v)]).length<=cz:=by rwa [eG]
  refine Ar I (by rw[e];exact ug) B #[q,m] #[len,n,_,?_,q,es,m,G,w,y,K];rw[<-J]
  refine(g.put k l o).keeps λc ys F=>?_
  rwa [c7 (Jw F e (λz=>nomatch z))]
def arK(a:az)(y v:V)(H:Hp)(Q:VK):Prop:=∃b k,y=.ref b/\jO H b k/\((∃au ep,H a=aa (.dT au ep)/\au.length<cz/\((∃u,iC au k=aa u/\Q u H)\/(iC au k=ao/\∀e,Q v (upd H a (.dT (au++[(k,v)]) e)))))\/∃ep,H a=aa (.dK [] ep)/\∀e,Q v (upd H a (.dT [(k,v)] e)))
def arL(td ty tx:TE):TE:=λσ H Q=>td σ H λx H1=>∃a,x=.ref a/\IsD H1 a/\ty σ H1 λy H2=>tx σ H2 λz H3=>arK a y z H3 Q
theorem aqg(p:X.A.units+2<fD)(E:PE X o td)(J:PE X e ty)(F:PE X f tx)(m:M2 X o "setdefault" apos e f cpos):PE X (.Call (.Attribute o "setdefault" apos) [e,f] [] cpos) (arL td ty tx):=by
 intro aA s σ H Q I h;refine aiK m.base m.few m.line ahF ahx PySem.F.type_dict_setdefault (bY (E _ s σ H _ I h) λu s1 N=>?_)
 obtain⟨x,H1,r,rx,a,ex,d,M⟩:=N
 subst ex;obtain rfl:u=fj a:=rx
 obtain⟨O,K,_⟩:=apI r d
 refine#[O,K,?_]
 rw[m.trees];refine ahI rfl (ahV (KY (bY (J _ s1 σ H1 _ r M) λC B ⟨y,H2,A,G,D⟩=>
  KY (bY (F _ B σ H2 _ A D) λR S ⟨z,w,v,rz,g⟩=>Ss ?_))))
 obtain⟨b,k,L,q,g⟩:=g
 subst L;obtain rfl:C=fj b:=G;rcases g with⟨au,ep,ha,hl,g⟩|⟨ep,ha,g⟩
 .refine afV p v ha q hl rz (λu i P t j n=>?_) λi e t j=>?_
  .rcases g with⟨u',e',g⟩|⟨e',_⟩
   .rw[i] at e';cases e';exact#[_,w,j,n,g]
   .rw[i] at e';cases e'
  .rcases g with⟨u',e',_⟩|⟨_,g⟩
   .rw[i] at e';cases e'
   .exact#[_,_,j,rz,g e]
 .have l:jO (upd w a (.dT [] ep)) b k:=q.mono λc xs e=>by rwa [c7 (Jw e ha (λz=>nomatch z))]
  refine afV p (v.Kf ha) fK l (by exact Nat.le_of_ble_eq_true rfl) rz (λu i=>nomatch i) λi e t j=>#[_,_,?_,rz,g e]
  rwa [Wk] at j
end
def Qk(f:Str):List Str->List Ci->Option Ci
 |n::ns,x::xs=>if f=n then aa x else Qk f ns xs
 |_,_=>ao
theorem ac0:∀{ns:009}{xs:List Ci}{vs:012}{x:Ci},gm Θ H xs vs->Qk f ns xs=aa x->∃v,(ns.zip vs).lookup f=aa v/\ni Θ H x v
 |[],_,_,_,_,e=>by cases e
 |_::_,[],_,_,_,e=>by cases e
 |n::ns,y::xs,vs,x,h,e=>by
  obtain⟨v,r,rfl,q,s⟩:=h
  unfold Qk at e;rw[yh,GK];by_cases c:f=n
  .rw[bG c] at e;subst c;cases e
   exact#[v,by rw[beq_self_eq_true],q]
  .rw[bK c] at e;rw[beq_false_of_ne c];exact ac0 s e
theorem V8:∀{ns:009}{vs:012},f∉ns->(ns.zip vs).lookup f=ao
 |[],_,_=>rfl
 |_::_,[],_=>rfl
 |n::ns,v::vs,h=>by
  rw[yh,GK,beq_false_of_ne (show f≠n from λz=>h (by rw[z];exact cR))];exact V8 λm=>h (dI _ m)
def Gb(c0:az):Option Cl->Option (List Str×List Ci)
 |some (.obj c ns xs)=>if c=c0 then aa (ns,xs) else ao
 |_=>ao
theorem WX(h:Gb c0 o=aa p):o=aa (.obj c0 p.1 p.2):=by
 unfold Gb at h;split at h
 .split at h
  .rename_i e;subst e;cases h;rfl
  .cases h
 .cases h
theorem Sm.afW{K:aU}{aj:En}{C:Ce}{σ:St}{x:Ci}{v:V}(S:Sm K Z Θ aj C σ H')(h:ni Θ H' x v):Res K Z Θ aj C σ H H' (CT x) v:=by
 cases x with
 |dat d=>exact#[S,RZ.fU (λb vs a=>wU S.oN a) h.1 h.2]
 |cD m=>exact#[S,h]
def xK(c0:az)(f:Str)(g:FE):FE:=λaj C=>(g aj C).bind λp=>match p.1 with
 |.ce n=>(Gb c0 p.2.2[n]?).bind λo=>(Qk f o.1 o.2).bind λx=>aa (CT x,p.2.1,p.2.2)
 |_=>ao
theorem WY{X:Cx}{c0:az}{e:Expr}{f:Str}{g:FE}{pos:Pos}(cl:mH X.K c0)(t:wX X.K c0 f)(h:PE X e (tE X.K g))(m:sE e f X.env (eval e X.env)=eval e X.env:=by rfl):
  PE X (.Attribute e f pos) (tE X.K (xK c0 f g)):=(apw h m).weak λσ H Q aV=>by
 obtain⟨Z,Θ,aj,C,r,bw,C',S,b,q⟩:=aV
 obtain⟨⟨w,e1,C1⟩,h1,b⟩:=bW b
 dsimp only at b;split at b
 case h_2=>cases(b)
 rename_i n
 obtain⟨o,h2,b⟩:=bW b
 obtain⟨x,s,b⟩:=bW b
 cases(b)
 refine#[Z,Θ,_,C,_,_,_,S,h1,λv H1 k i R=>?_]
 obtain⟨d,a,rfl,c⟩:=R
 obtain⟨dx,vs,p,u,j⟩:=d.cell.at_ n a _ c (WX h2)
 obtain⟨v,l,it⟩:=ac0 j s
 exact#[a,c0,dx,_,v,rfl,p,cl,t,l,q v H1 k i (d.afW it)]
def cZ(c0:az)(m:Str)(i:Nat)(f:FN)(g:FA):FE:=λaj C=>match aj[i]? with
 |some (some (.ce n))=>(Gb c0 C[n]?).bind λo=>if m∈o.1 then ao else(g aj C).bind λp=>(f (.ce n::p.1) p.2.2).bind λr=>if BV r.1 then ao else aa (r.1,rst r.1 aj p.2.1,r.2)
 |_=>ao
theorem ac1{K:aU}{i:Nat}{f:FN}{g:FA}:∀σ H Q,tE K (cZ c0 m i f g) σ H Q->O8 c0 m (spT K f) [] E0 (jx i) (nC K g) σ H Q:=by
 rintro σ H Q ⟨Z,Θ,aj,C,res,bw,C',S,b,q⟩;unfold cZ at b;split at b
 case h_2=>cases(b)
 rename_i n l
 obtain⟨o,h2,b⟩:=bW b
 split at b
 .cases(b)
 rename_i u
 obtain⟨⟨xs,e1,C1⟩,h1,b⟩:=bW b
 obtain⟨⟨r,C2⟩,t,b⟩:=bW b
 dsimp only at b;split at b
 .cases(b)
 rename_i nt;cases(b)
 obtain⟨y,s,a,rfl,c⟩:=S.slot i _ l
 obtain⟨dx,z,p,x,w⟩:=S.cell.at_ n a _ c (WX h2)
 refine#[_,s,a,dx,_,rfl,p,V8 u,Z,Θ,_,C,xs,e1,C1,S,h1,λvs H1 d k h j=>?_]
 rw[jt];have e2:er _ H1=er (bF Z Θ e1 σ) H1:=pU Av;rw[<-e2] at j
 exact#[_,Θ,C1,.ce n::xs,_,_,h.bare,.cons #[a,rfl,c] j,t,λv H2 e R=>q v H2 (d.trans e) (k.rst _) (((Res.back h e (R.res (aiI.mpr nt))).from d).rst S (d.trans e))]
theorem aqh{X:Cx}{c0 d:az}{m:Str}{i k n:Nat}{o e:Expr}{ps:009}{f:FN}{g:FA}{apos pos:Pos}{pl:Sem Bool}(p:PE X o (jx i))(c:mH X.K c0)(h:Meth X.K c0 m d)(F:dG X.prog X.w X.K X.mg X.base dJ k d fd ps (spT X.K f))(q:dZ k X.A)
  (l:Binds X.K fd ps [])(s:Passes dJ X E0)(j:PA X (e::es) (nC X.K g))
  (b:bI (e::es) X.env=006::bI es X.env:=by rfl)(a:(eN pos (bI es X.env)).any (·.1)=aH:=by rfl)
  (r:eval (.Call (.Attribute o m apos) (e::es) [] pos) X.env=(do
   let ov <-eval o X.env
   nJ apos.atName
   let (f,first) <-mW [ov] (wL ov m pl)
   yw pos f first (eN pos (bI (e::es) X.env)) (pN pos (pL [] X.env))):=by rfl):
  PE X (.Call (.Attribute o m apos) (e::es) [] pos) (tE X.K (cZ c0 m i f g)):=(adt p c h F q l .nil s j b a r).weak ac1
theorem aox{X:Cx}{c0 b:az}{m:Str}{i k n:Nat}{o:Expr}{f:FN}{pl:Sem Bool}(p:PE X o (jx i))(c:mH X.K c0)(d:Meth X.K c0 m b)(F:dG X.prog X.w X.K X.mg X.base dJ k b fd ps (spT X.K f))(s:dZ k X.A)
  (j:Binds X.K fd ps [])(u:Passes dJ X E0)
  (t:eval (.Call (.Attribute o m apos) [] [] pos) X.env=(do
   let ov <-eval o X.env
   nJ apos.atName
   let (f,first) <-mW [ov] (wL ov m pl)
   yw pos f first (eN pos (bI [] X.env)) (pN pos (pL [] X.env))):=by rfl):
  PE X (.Call (.Attribute o m apos) [] [] pos) (tE X.K (cZ c0 m i f aQ)):=(al0 p c d F s j .nil u t).weak λσ H Q h=>by
 obtain⟨x,ex,a,dx,fs,e,g,l,q⟩:=ac1 σ H Q h
 refine#[x,ex,a,dx,fs,e,g,l,?_]
 obtain⟨Z,Θ,aj,C,xs,bw,C',S,r,q⟩:=q
 cases(r);exact q [] H 003 010 S .nil
def Gd(k:Key):List (aB×Ci)->Option Ci
 |[]=>ao
 |p::r=>if fL p.1=aa k then aa p.2 else Gd k r
theorem aec:∀{au:List (aB×Ci)}{ks:List Key}{vs:012}{x:Ci},cj fL (au.map λp=>(p.1,j4))=aa ks->gm Θ H (au.map (·.2)) vs->Gd k au=aa x->∃v,iC (ks.zip vs) k=aa v/\ni Θ H x v
 |[],_,_,_,_,_,e=>by cases e
 |p::r,ks,vs,x,a,h,e=>by
  obtain⟨v,t,rfl,q,s⟩:=h
  rw[cM] at a;unfold cj at a;split at a
  case h_2=>cases a
  rename_i b d e1 e2;cases a;unfold Gd at e;rw[yh];by_cases c:b=k
  .rw[bG (by rw[<-c];exact e1)] at e;cases e
   refine#[v,?_,q]
   unfold iC;rw[ahN (by simpa using c)];rfl
  .rw[bK λz=>c (lY (e1.symm.trans z))] at e
   obtain⟨w,h1,h2⟩:=aec e2 s e
   refine#[w,?_,h2]
   unfold iC at h1⊢;rw[ahO (by simpa using c)];exact h1
def Gm:Cl->aB->Option Ci
 |.lst xs,.int i=>fG xs i
 |.b8 au,.str z=>if(cj fL (au.map λp=>(p.1,j4))).isSome then Gd (.inr z) au else ao
 |_,_=>ao
theorem aoy(r:gm Θ H xs vs)(e:fG xs i=aa x):∃v,fG vs i=aa v/\ni Θ H x v:=by
 unfold fG at e⊢;rw[r.len];cases h:nu _ i with
 |none=>rw[h] at e;cases e
 |some j=>
  rw[h] at e;exact r.at e
def qJ(g:FE)(h:FB):FE:=λaj C=>(g aj C).bind λp=>match p.1 with
 |.ce n=>(h p.2.1 p.2.2).bind λq=>(q.2.2[n]?).bind λc=>(Gm c q.1).bind λx=>aa (CT x,q.2.1,q.2.2)
 |_=>ao
theorem Ox{X:Cx}{a b:Expr}{g:FE}{h:FB}{pos:Pos}{n:Nat}(T:dZ n X.A)(j:PE X a (tE X.K g))(L:PE X b (fM X.K h))(t:Im b:=by exact λ_ _=>rfl):PE X (.Subscript a b pos) (tE X.K (qJ g h)):=(O9 (nO T.iT) j L t).weak λσ H Q aV=>by
 obtain⟨Z,Θ,aj,C,r,bw,C',S,F,q⟩:=aV
 obtain⟨⟨V,e1,C1⟩,h1,l⟩:=bW F
 clear F;dsimp only at l;split at l
 case h_2=>cases(l)
 rename_i m
 obtain⟨⟨d,e2,C2⟩,h2,I⟩:=bW l
 obtain⟨c,G,D⟩:=bW I
 obtain⟨x,f,N⟩:=bW D
 clear l I D;cases(N)
 refine#[Z,Θ,_,C,_,_,_,S,h1,λv H1 P J R=>?_]
 obtain⟨K,a,rfl,u⟩:=R
 refine#[Z,Θ,_,_,d,_,_,K,h2,λy H2 U M B E=>?_]
 have at_:=B.cell.at_ m a _ u G;dsimp only at G f q;have o:∀w,ni Θ H2 x w->Q w H2:=λw it=>q w H2 (P.trans U) (J.trans M) (B.afW it)
 unfold Gm at f;split at f
 .rename_i xs i
  obtain⟨vs,j,p⟩:=at_
  obtain⟨w,e,it⟩:=aoy p f
  have A:y=.int i:=E;exact .inl (.inl #[a,vs,i,w,rfl,A,b7.of j,e,o w it])
 .rename_i au z;split at f
  case isFalse=>cases(f)
  rename_i t
  obtain⟨ks,s⟩:=uY.mp t
  obtain⟨vs,O,p⟩:=at_
  obtain⟨w,e,it⟩:=aec s p f
  have A:y=.str z:=E;subst A;rcases O with⟨ks',h5,ep,j⟩|⟨ks',⟨ne,h6⟩,ep,j⟩
  .rw[s] at h5;cases(h5);exact .inr #[a,w,rfl,by rw[<-e];exact m8.k (k:=.inr z) j,o w it]
  .exact absurd (vp s h6) ne
 .cases(f)
def arM:Vl->Bool
 |.im _=>aq
 |.ce _=>aq
 |_=>aH
def arN(Z Θ:015)(H:Hp):Vl->V->Prop
 |.im d,v=>RZ (er (bF Z Θ [] []) H) d v
 |.ce n,v=>∃a,v=.ref a/\Θ[n]?=aa a
 |_,_=>False
def nY(K:aU)(f:FN):Sp:=λvs H Q _=>∃Z Θ C xs r C',Sm K Z Θ [] C [] H/\rC K (er (bF Z Θ [] []) H) Θ xs vs/\f xs C=aa (r,C')/\
 ∀v H' L',jh Θ L' H->bh Θ H H'->Sm K Z L' [] C' [] H'->arN Z L' H' r v->Q v H'
def wg(k n:Nat)(body:FS):FN:=λxs C=>if xs.length=k then match body (xs.map aa++cH (n-xs.length) ao) C with
  |some (.rt r,_,C')=>if arM r=aq then aa (r,C') else ao
  |some (.nx,_,C')=>aa (.im .none,C')
  |_=>ao
 else ao
theorem Jr{P:dB}{w:cG}{K:aU}{base:cg}{x qual:Str}{st:dF}{f:az}{fd:o5}{k:Nat}{body:FS}{p k2:Nat}(F:f9 K x qual st f fd)(S:gO N ps (cO st))
  (y:∀(j:aG)(A:dN)(outer:List Env)(s:aR)(H:Hp)(E:XK),dZ k (A.deeper (envOfC qual (cO st) s.heap.objs.size f j))->jD (xP dJ P w K mg base N qual (cO st) f j A outer s H E).Cu (sU st) (tS K body))
  (e1:p=ps.length:=by rfl)(e2:k2=N.length:=by rfl):dG P w K mg base dJ (k+1) f fd ps (nY K (wg p k2 body)):=by
 subst e1 e2;refine F.ok S (λvs H Q E h=>?_) (λj A outer s H vs Q E D h=>#[_,y _ A _ s H E D,?_])
 .obtain⟨Z,Θ,C,xs,r,C',o,a,e,_⟩:=h
  unfold wg at e;split at e
  .rename_i B;rw[Al a,B]
  .cases(e)
 .obtain⟨Z,Θ,C,xs,r,C',o,a,e,q⟩:=h
  unfold wg at e;split at e
  case isFalse=>cases(e)
  have u:=Al a
  obtain⟨l,no⟩:=o.start (n:=N.length-vs.length) a
  rw[u] at l no;have z:start N vs=vs.map aa++cH (N.length-xs.length) ao:=by unfold start;rw[u]
  rw[z];refine hide λG t=>?_
  split at e
  .rename_i m C1 i;split at e
   case isFalse=>cases(e)
   rename_i g;cases(e);refine t (#[Z,Θ,_,C,_,m,C',l,i,λL' v H' R=>?_]);have kp:=R.kp;rw[no,jt] at kp;have ok:=R.ok;cases r with
   |im d=>exact q v H' L' R.th kp ok.1 ok.2
   |ce n=>exact q v H' L' R.th kp ok.1 ok.2
   |ow d=>cases(g)
   |sc ns=>cases(g)
   |ks ds=>cases(g)
   |tp a b c=>cases(g)
  .rename_i m C1 i;cases(e);refine t (#[Z,Θ,_,C,_,m,C',l,i,λL' F' H' R=>?_]);have kp:=R.kp;rw[no,jt] at kp;exact q _ H' L' R.th kp R.sm.none rfl
  .cases(e)
def m6(c0:az)(m:Str)(i:Nat)(f:FN)(g:FA):FS:=λaj C=>match aj[i]? with
 |some (some (.ce n))=>(Gb c0 C[n]?).bind λo=>if m∈o.1 then ao else(g aj C).bind λp=>(f (.ce n::p.1) p.2.2).bind λr=>aa (.nx,p.2.1,r.2)
 |_=>ao
theorem als{K:aU}{i:Nat}{f:FN}{g:FA}:∀D σ H,tS K (m6 c0 m i f g) D σ H->O8 c0 m (nY K f) [] E0 (jx i) (nC K g) σ H λ_ H'=>D.nx σ H':=by
 rintro D σ H ⟨Z,Θ,aj,C,fl,bw,C',S,c,q⟩;unfold m6 at c;split at c
 case h_2=>cases(c)
 rename_i n s
 obtain⟨o,h2,c⟩:=bW c
 split at c
 .cases(c)
 rename_i y
 obtain⟨⟨xs,e1,C1⟩,h1,c⟩:=bW c
 obtain⟨⟨r,C2⟩,x,c⟩:=bW c
 cases(c)
 obtain⟨B,w,a,rfl,d⟩:=S.slot i _ s
 obtain⟨dx,E,u,A,z⟩:=S.cell.at_ n a _ d (WX h2)
 refine#[_,w,a,dx,_,rfl,u,V8 y,Z,Θ,_,C,xs,e1,C1,S,h1,λvs H1 j l h k=>?_]
 rw[jt];have e2:er _ H1=er (bF Z Θ e1 σ) H1:=pU Av;rw[<-e2] at k
 refine#[_,Θ,C1,.ce n::xs,_,_,h.bare,.cons #[a,rfl,d] k,x,λv H2 L' t k2 S2 _=>?_]
 have p:=h.YB k2 t S2
 obtain⟨Δ,e,n⟩:=t.ex
 exact q L' _ H2 #[#[Δ,e,λb mb=>j.none (n b mb)],o8 (j.trans k2),λb mb=>.inl (l.own.subset mb),p]
theorem aoz{X:Cx}{c0 h:az}{m:Str}{i k:Nat}{o e:Expr}{ps:009}{f:FN}{g:FA}{apos cpos pos:Pos}{pl:Sem Bool}(p:PE X o (jx i))(c:mH X.K c0)(j:Meth X.K c0 m h)(F:dG X.prog X.w X.K X.mg X.base dJ k h fd ps (nY X.K f))(q:dZ k X.A)
  (n:Binds X.K fd ps [])(s:Passes dJ X E0)(l:PA X (e::es) (nC X.K g))
  (b:lG (.Call (.Attribute o m apos) (e::es) [] cpos) ao pos.line X.env=pure aH:=by rfl)
  (d:bI (e::es) X.env=006::bI es X.env:=by rfl)(a:(eN cpos (bI es X.env)).any (·.1)=aH:=by rfl)
  (r:eval (.Call (.Attribute o m apos) (e::es) [] cpos) X.env=(do
   let ov <-eval o X.env
   nJ apos.atName
   let (f,first) <-mW [ov] (wL ov m pl)
   yw cpos f first (eN cpos (bI (e::es) X.env)) (pN cpos (pL [] X.env))):=by rfl):
  PS X (.Expr (.Call (.Attribute o m apos) (e::es) [] cpos) pos) (tS X.K (m6 c0 m i f g)):=(Aq (adt p c j F q n .nil s l d a r) b).weak als
def afX:List V->Hp->VK->Prop:=λxs H Q=>∃d au ep,xs=[.ref d]/\H d=aa (.dK au ep)/\∀D e,H D=ao->Q (.ref D) (upd H D (.dK au e))
theorem akB:gF X (.type "dict") afX:=by
 intro aA s σ H xs us Q I r h
 obtain⟨d,au,ep,rfl,l,q⟩:=h
 obtain⟨u,rfl,k⟩:=vals1 r
 cases k
 obtain⟨z,lo,vs,a,g⟩:=Yp I.hok l
 have m:=Paired.length a;refine kt_call_dict lo g aD λh' j sb=>?_
 obtain⟨c,f⟩:=j.dictAt
 have i:∀b o,s.heap.get? b=aa o->h'.get? b=aa o:=λb o e=>(sb.2 b (fW (cY e))).trans (cX _ e)
 exact#[.ref s.heap.objs.size,_,I.laid (t':=s.toks) i (bQ _) (N8 z (beq_eq_false_iff_ne.mpr (jK (fW I.big))) a f),rfl,q _ c (I.hok.fresh (bQ _))]
def Ca:Option Cl->Option (List (aB×Ci))
 |some (.b8 au)=>if(cj fL (au.map λp=>(p.1,j4))).isSome then aa au else ao
 |_=>ao
theorem NK(h:Ca o=aa au):o=aa (.b8 au)/\∃ks,cj fL (au.map λp=>(p.1,j4))=aa ks:=by
 unfold Ca at h;split at h
 .split at h
  .rename_i a;cases h
   exact#[rfl,uY.mp a]
  .cases h
 .cases h
theorem lR.Rb(h:lR Θ H a (.b8 au))(b:cj fL (au.map λp=>(p.1,j4))=aa ks):∃vs ep,H a=aa (.dK (ks.zip vs) ep)/\gm Θ H (au.map (·.2)) vs:=by
 obtain⟨vs,c,d⟩:=h
 rcases c with⟨ks',h5,ep,ha⟩|⟨ks',⟨ne,h6⟩,ep,ha⟩
 .rw[b] at h5;cases h5
  exact#[vs,ep,ha,d]
 .exact absurd (vp b h6) ne
theorem abp{K:aU}{C:Ce}{σ:St}{H d:Hp}{p:az}{o:HO}{c:Cl}{i:Nat}(S:Sm K Z L1 aj C σ H)(g:H p=ao)(nt:∀vs,o≠.tup vs)(q:lR (L1++[p]) (upd H p o) p c)(t:jh Θ L1 d)(k:bh Θ d H)(f:Fz env0 aj):
  fH K Z Θ env0 σ d (L1++[p]) (aj.set i (aa (.ce C.length))) (C++[c]) (σ.set i (aa (.ref p))) (upd H p o):=by
 have l:Sm K _ L1 _ C σ (upd H p o):=S.push g _ nt;have cl:=S.cell.len;have j:=l.vC q;have h:Sm K Z _ (aj.set i (aa (.ce C.length))) _ _ _:=j.rK (λ_ z=>nomatch z) #[p,rfl,by grind]
 obtain⟨Δ,e,n⟩:=t.ex
 refine#[#[_,by rw[e,iK],λa m=>?_],o8 (k.trans (bh.upd g)),λb m=>.inl (f.own.subset ?_),h]
 .rcases dU.mp m with m|m
  .exact n a m
  .rw[gB.mp m];exact k.none g
 .rcases sV m with m|⟨⟨_,z⟩,_⟩
  .exact m
  .cases z
def zb(i:Nat)(g:FE):FS:=λaj C=>(g aj C).bind λp=>match p.1 with
 |.ce n=>(Ca p.2.2[n]?).bind λau=>aa (.nx,p.2.1.set i (aa (.ce p.2.2.length)),p.2.2++[.b8 au])
 |_=>ao
theorem alu{K:aU}:∀D σ H,tS K (zb i g) D σ H->zm (Rn afX (O7 (tE K g) BJ)) (vH i) D σ H:=by
 rintro D σ H ⟨Z,Θ,aj,C,fl,bw,C',S,hf,q⟩
 obtain⟨⟨t,e1,C1⟩,h1,b⟩:=bW hf
 clear hf;dsimp only at b;split at b
 case h_2=>cases(b)
 rename_i m
 obtain⟨au,h2,s⟩:=bW b
 clear b;cases(s)
 obtain⟨r,ks,d⟩:=NK h2
 refine#[Z,Θ,_,C,_,_,_,S,h1,λv H1 o k R=>?_]
 obtain⟨f,a,rfl,c⟩:=R
 obtain⟨vs,ep,n,l⟩:=(f.cell.at_ m a _ c r).Rb d
 refine#[a,_,ep,rfl,n,λp e j=>?_]
 exact q _ _ _ (abp f j (λ_ z=>nomatch z) #[vs,.inl #[ks,d,e,fK],l.keep (λ_ _ h=>cT.upd j _ _ h) rD] (jh.refl _ _) o k)
theorem aed{X:Cx}{i:Nat}{g:FE}{p pos1 pos pos':Pos}(c:017)(hi:X.N[i]?=aa x)(f:Loc X.env.scope x)(h:PE X e (tE X.K g))(j:Gl X "dict")(m:X.mg "dict"=ao)(k:uc "dict"=aa (.type "dict"))
  (a:bI [e] X.env=006::bI [] X.env:=by rfl)(b:(eN pos1 (bI [] X.env)).any (·.1)=aH:=by rfl)(d:lG (.Call (.Name "dict" p) [e] [] pos1) (aa (.Name x pos')) pos.line X.env=pure aH:=by rfl)(l:X.fn x=aq\/X.env.scope.names.lookup x=aa .local:=by first|exact .inl rfl|exact .inr rfl|assumption):
  PS X (.Assign [.Name x pos'] (.Call (.Name "dict" p) [e] [] pos1) pos) (tS X.K (zb i g)):=(Az c hi f (abQ akB j m k (pO h pR a) aP aP a b) d l).weak alu
def zP:Vl->Option Ci
 |.im d=>if fU d=aq then aa (.dat d) else ao
 |.ce m=>aa (.cD m)
 |_=>ao
def xM(z:Str)(x:Ci)(au:List (aB×Ci)):List (aB×Ci):=
 if(au.any λp=>decide (fL p.1=aa (.inr z)))=aq then au.map (λp=>if fL p.1=aa (.inr z) then(p.1,x) else p) else au++[(.str z,x)]
theorem YD(i:ni Θ H x v):∀{au:List (aB×Ci)}{ks:List Key}{vs:012},cj fL (au.map λp=>(p.1,j4))=aa ks->gm Θ H (au.map (·.2)) vs->
  (∃b,(ks.zip vs).map (λd=>if d.1=k then(d.1,v) else d)=ks.zip b/\gm Θ H ((au.map λp=>if fL p.1=aa k then(p.1,x) else p).map (·.2)) b)/\
  ((au.map λp=>if fL p.1=aa k then(p.1,x) else p).map λp=>(p.1,j4))=(au.map λp=>(p.1,j4))/\
  ((ks.zip vs).any λd=>decide (d.1=k))=(au.any λp=>decide (fL p.1=aa k))
 |[],ks,vs,a,h=>by
  cases a
  cases(show vs=[] from h)
  exact#[#[[],rfl,rfl],rfl,rfl]
 |p::r,ks,vs,a,h=>by
  obtain⟨u,t,rfl,q,s⟩:=h
  rw[cM] at a;unfold cj at a;split at a
  case h_2=>cases a
  rename_i e n e1 e2;cases a
  obtain⟨⟨b,j,g⟩,l,m⟩:=YD i e2 s
  have e1:fL p.1=aa e:=e1;rw[yh,yt,yt,m,cM,cM,cM,cM,cM,j,l,e1];by_cases c:e=k
  .subst c
   refine#[#[v::b,?_,v,b,rfl,?_,g],?_,?_]
   .rw[bG rfl];rfl
   .rw[bG rfl];exact i
   .rw[bG rfl]
   .simp
  .have f:¬(aa e=aa k):=λz=>c (lY z)
   refine#[#[u::b,?_,u,b,rfl,?_,g],?_,?_]
   .rw[bK c];rfl
   .rw[bK f];exact q
   .rw[bK f]
   .simp[c]
theorem ab7:∀{l:List (aB×aB)}{ks:List Key},cj fL l=aa ks->cj fL (l++[(.str z,.none)])=aa (ks++[.inr z])
 |[],ks,h=>by cases h;rfl
 |p::l,ks,h=>by
  unfold cj at h;split at h
  case h_2=>cases h
  rename_i k t e1 e2;cases h;rw[j9];unfold cj;rw[e1,ab7 e2];rfl
theorem amM(e:ni Θ H x v)(c:cj fL (au.map λp=>(p.1,j4))=aa ks)(h:gm Θ H (au.map (·.2)) vs):
  ∃b a,putK (ks.zip vs) (.inr z) v=b.zip a/\cj fL ((xM z x au).map λp=>(p.1,j4))=aa b/\gm Θ H ((xM z x au).map (·.2)) a:=by
 obtain⟨⟨a,g,l⟩,i,j⟩:=YD (k:=.inr z) e c h
 unfold putK xM;rw[j];split
 .exact#[ks,a,g,by rw[i];exact c,l]
 .have d:=sS c;have f:=h.len;rw[bC] at d f
  refine#[ks++[.inr z],vs++[v],?_,?_,?_]
  .rw[ai8 (by rw[d,f])];rfl
  .rw[jH];exact ab7 c
  .rw[jH];exact h.app #[v,[],rfl,e,rfl]
theorem X7{K:aU}{aj:En}{C:Ce}{σ:St}{r:Vl}{x:Ci}{v:V}(e:zP r=aa x)(R:Res K Z Θ aj C σ H H' r v):Sm K Z Θ aj C σ H'/\ni Θ H' x v:=by
 cases r with
 |im d=>
  have e:(if fU d=aq then aa (Ci.dat d) else ao)=aa x:=e;split at e
  case isFalse=>cases e
  rename_i n;cases e
  exact#[R.1,n,R.2.same (sZ _ _)]
 |ce m=>cases e;exact R
 |ow d=>cases e
 |sc ns=>cases e
 |ks ds=>cases e
 |tp a b c=>cases e
def Bw(i:Nat)(fk:FB)(fe:FE):FS:=λaj C=>(fe aj C).bind λp=>(zP p.1).bind λx=>match p.2.1[i]? with
 |some (some (.ce n))=>(fk p.2.1 p.2.2).bind λq=>match q.1 with
  |.str z=>(Ca q.2.2[n]?).bind λau=>if au.length<eE then aa (.nx,q.2.1,q.2.2.set n (.b8 (xM z x au))) else ao
  |_=>ao
 |_=>ao
theorem aee{X:Cx}{o k e:Expr}{i:Nat}{fk:FB}{fe:FE}{p pos:Pos}(hu:X.A.units+2<fD)(ho:PE X o (jx i))(f:PE X k (fM X.K fk))(P:PE X e (tE X.K fe))
  (B:∀v,assign (.Subscript o k p) X.env v=(do
   let ov <-mW [v] (eval o X.env)
   let iv <-mW [v,ov] (eval k X.env)
   nJ p
   mW [v,ov,iv] (Nj ov iv v)
   release [v,ov,iv] []):=by intro _;rfl)
  (hs:z8 [.Subscript o k p] e pos.line X.env=pure aH:=by rfl)(V:z9 [.Subscript o k p] e X.env=pure ao:=by rfl)(h1:(vg [.Subscript o k p] X.env).map (·.2)=[assign (.Subscript o k p) X.env]:=by rfl):
  PS X (.Assign [.Subscript o k p] e pos) (tS X.K (Bw i fk fe)):=(Xw P (aet (t:=Fb) ho f (adS hu) B) hs V h1).weak λD σ H aV=>by
 obtain⟨Z,Θ,aj,C,fl,bw,C',S,K,q⟩:=aV
 obtain⟨⟨r,e1,C1⟩,h1,g⟩:=bW K
 clear K
 obtain⟨x,J,c⟩:=bW g
 clear g;dsimp only at c J;split at c
 case h_2=>cases(c)
 rename_i n Y
 obtain⟨⟨dk,e2,C2⟩,h2,d⟩:=bW c
 clear c;dsimp only at d;split at d
 case h_2=>cases(d)
 rename_i z
 obtain⟨au,W,m⟩:=bW d
 clear d;split at m
 case isFalse=>cases(m)
 rename_i lt;cases(m)
 obtain⟨h3,ks,f⟩:=NK W
 refine#[Z,Θ,_,C,_,_,_,S,h1,λv H1 N Q T=>?_]
 obtain⟨A,it⟩:=X7 J T
 obtain⟨u,O,a,rfl,b⟩:=A.slot i _ Y
 refine#[_,O,Z,Θ,_,_,_,_,_,A,h2,λw H2 G M j b2=>?_]
 have ew:w=.str z:=b2;subst ew
 obtain⟨vs,ep,B,I⟩:=(j.cell.at_ n a _ b h3).Rb f
 have U:ni Θ H2 x v:=it.keep (ad4 A G) λ_ _ h=>h
 obtain⟨y,s,g,c,d⟩:=amM U f I
 have F:=sS f;have L:=I.len;rw[bC] at F L;have E:=jY b;refine .inl (.inr #[a,_,rfl,tH.k (k:=.inr z) B (by rw[G4,F,L,ajL,iw];unfold eE at lt;lia),λe=>?_]);exact q Θ σ _ (fH.qO ((N.trans G).trans (bh.cell E)) (Q.trans M) (j.go (bh.cell E) (j.cell.write j.cQ.2.1 b λH' R l=>#[s,.inl #[y,c,e,by rw[<-g];exact l],d.keep R λ_ _ h=>h])))
def Ql(g fe:FE):FS:=λaj C=>(g aj C).bind λp=>match p.1 with
 |.ce m=>(kW p.2.2[m]?).bind λ_=>(fe p.2.1 p.2.2).bind λq=>(zP q.1).bind λx=>(kW q.2.2[m]?).bind λxs=>if xs.length<eE then aa (.nx,q.2.1,q.2.2.set m (.lst (xs++[x]))) else ao
 |_=>ao
theorem aoA{X:Cx}{o e:Expr}{g fe:FE}{apos cpos pos:Pos}(K:PE X o (tE X.K g))(P:PE X e (tE X.K fe))
  (j:lG (.Call (.Attribute o "append" apos) [e] [] cpos) ao pos.line X.env=pure aH:=by rfl)
  (c:sE o "append" X.env (eval o X.env)=eval o X.env:=by rfl)
  (h:((eN cpos (bI [e] X.env)).all (λx=>!x.1)&&(pN cpos (pL [] X.env)).all (λx=>x.1.isSome)
   &&decide (([e]:List Expr).length+([]:List pP).length+(if([]:List pP).isEmpty then 0 else 1)<30))=aq:=by rfl)
  (d:(apos.endLine==cpos.line)=aq:=by rfl)(y:bI [e] X.env=006::bI [] X.env:=by rfl)(hplain:(eN cpos (bI [] X.env)).any (·.1)=aH:=by rfl):
  PS X (.Expr (.Call (.Attribute o "append" apos) [e] [] cpos) pos) (tS X.K (Ql g fe)):=
 (Aq (Ew Kz KZ RQ (uO.r HD) K (pO P pR y) c h d y hplain) j).weak λD σ H aV=>by
  obtain⟨Z,Θ,aj,C,R,bw,C',S,z,q⟩:=aV
  obtain⟨⟨r,e1,C1⟩,h1,f⟩:=bW z
  clear z;dsimp only at f;split at f
  case h_2=>cases(f)
  rename_i m
  obtain⟨O,l,B⟩:=bW f
  clear f
  obtain⟨⟨Q,e2,C2⟩,h2,t⟩:=bW B
  clear B
  obtain⟨x,E,u⟩:=bW t
  clear t
  obtain⟨xs,A,i⟩:=bW u
  clear u;dsimp only at i E A;split at i
  case isFalse=>cases(i)
  rename_i lt;cases(i)
  refine#[Z,Θ,_,C,_,_,_,S,h1,λv H1 L F M=>?_]
  obtain⟨s,a,rfl,b⟩:=M
  obtain⟨T,k,_⟩:=s.cell.at_ m a _ b (wR l)
  refine#[.inl #[rfl,_,b7.of k],Z,Θ,_,_,_,_,_,s,h2,λw H2 N J R2=>?_]
  obtain⟨n,it⟩:=X7 E R2
  obtain⟨vs,I,p⟩:=n.cell.at_ m a _ b (wR A)
  refine#[a,vs,w,rfl,rfl,I,by rw[p.len,iw];unfold eE at lt;lia,?_]
  have G:=jY b;exact q Θ σ _ (fH.qO ((L.trans N).trans (bh.cell G)) (F.trans J) (n.X6 b (p.app #[w,[],rfl,it,rfl])))
theorem uI.bis:∀{b:vY}{vs:012}{a:015},uI H b vs a->Qj H (b.map (·.2)) vs a
 |[],_,_,h=>h
 |p::r,vs,a,h=>by
  obtain⟨v,t,c,d,e1,e2,h1,h2⟩:=h
  exact#[v,t,c,d,e1,e2,h1,h2.bis]
def objE(c0:az):Option Cl->Bool
 |some (.obj c [] [])=>decide (c=c0)
 |_=>aH
theorem aoB(h:objE c0 o=aq):o=aa (.obj c0 [] []):=by
 unfold objE at h;split at h
 .rw[of_decide_eq_true h]
 .cases h
def Cd(b:vY)(C:Ce):List Ci×Ce:=mG (b.map λp=>p.2) C
def Qm(c0:az)(n:Nat)(f:Str)(b:vY)(C:Ce):Ce:=Am ((Cd b C).2++[Cl.b8 ((b.map λp=>fP p.1).zip (Cd b C).1)]++[Cl.lst [Ci.cD (Cd b C).2.length]]) n (Cl.obj c0 [f] [Ci.cD ((Cd b C).2.length+1)])
def Qn(c0:az)(i:Nat)(f:Str)(l:List (Str×FE)):FS:=λaj C=>match aj[i]? with
 |some (some (.ce n))=>if objE c0 C[n]?=aq then(Q9 l aj C).bind λq=>if((q.1.map (·.1)).Nodup/\q.1.length<=15)/\objE c0 (Cd q.1 q.2.2).2[n]?=aq then aa (.nx,q.2.1,Qm c0 n f q.1 q.2.2) else ao else ao
 |_=>ao
theorem aoC{X:Cx}{c0:az}{o:Expr}{i:Nat}{f:Str}{ks:List (Option Expr)}{vs:List Expr}{l:List (Str×FE)}{nZ:List (TE×TE)}{p1 p2 pos pos':Pos}(cl:mH X.K c0)(F:wX X.K c0 f)(ho:PE X o (jx i))(D:oO X p1 ks vs l nZ)(h0:ks≠[]:=by simp)(G:ks.length<=15:=by decide)
  (N:bI [.Dict ks vs p1] X.env=(aH,eval (.Dict ks vs p1) X.env)::bI [] X.env:=by rfl)
  (hs:lG (.List [.Dict ks vs p1] p2) (aa (.Attribute o f pos')) pos.line X.env=pure aH:=by rfl):
  PS X (.Assign [.Attribute o f pos'] (.List [.Dict ks vs p1] p2) pos) (tS X.K (Qn c0 i f l)):=
 (apx ho (XC (pO (anU D.pps D.len.1 D.len.2 h0 G) pR N)) hs).weak λEn σ H aV=>by
 obtain⟨Z,Θ,aj,C,fl,bw,C',S,r,q⟩:=aV
 unfold Qn at r;split at r
 case h_2=>cases(r)
 rename_i n R;split at r
 case isFalse=>cases(r)
 rename_i hoe
 obtain⟨⟨b,e1,C1⟩,h1,E⟩:=bW r
 clear r;dsimp only at E;split at E
 case isFalse=>cases(E)
 rename_i Q;cases(E)
 obtain⟨v0,qi,a,rfl,u⟩:=S.slot i _ R
 intro p s;refine D.arG (S.push s (.dK [] 0) (λ_ z=>nomatch z)) h1 λws t H2 k2 f2 J Y fr=>?_
 have w:bh Θ H H2:=(bh.upd s).trans k2;have np:p∉Θ:=J.cQ.2.2.2 p (fJ _ cR);have y:H2 p=aa (.dK [] 0):=k2.keep _ _ fK np;have W:=Y.len;have nd:(((b.map λp=>(ju p.1:Key)).zip ws).map (·.1)).Nodup:=by
  rw[SJ (by rw[bC,W];exact bQ _)];have e:(b.map λp=>(ju p.1:Key))=(b.map (·.1)).map λz=>(ju z:Key):=by rw[eZ];rfl
  rw[e];exact K7.mpr (Q.1.1.imp λh e=>h (LR e))
 refine#[y,(b.map λp=>(ju p.1:Key)).zip ws,acX b ws,by rw[G4,bC];have:=Q.1.2;lia,λep=>?_]
 rw[show yN [] ((b.map λp=>(ju p.1:Key)).zip ws)=(b.map λp=>(ju p.1:Key)).zip ws from ab6 (au:=[]) nd];have zn:=J.cQ.1;rw[lX] at zn;have pa:p∉t:=λm=>zn.2.2 p m p cR rfl
 have M:NT (H2 p):=#[_,y,λ_ z=>nomatch z]
 generalize hH:upd H2 p (.dK ((b.map λp=>(ju p.1:Key)).zip ws) ep)=v;have S3:Sm X.K (t++p::Z) Θ bw C1 σ v:=by
  rw[<-hH];exact J.arF (fJ _ cR) λ_ z=>nomatch z
 have O:v p=aa (.dK ((b.map λp=>(ju p.1:Key)).zip ws) ep):=by rw[<-hH,fK]
 have T:uI v b ws t:=by
  rw[<-hH];refine Y.keep (vZ.upd M) λc m o h=>?_
  rw[c7 λz=>pa (by rw[<-z];exact m)];exact h
 have kf:bh Θ H v:=⟨λa o k F=>by
  rw[<-hH,c7 (sI k s)];exact w.keep _ _ k F,λa k=>by
  rw[<-hH];by_cases z:a=p
  .exact absurd (z▸s) k
  .rw[c7 z];exact w.2 a k⟩
 obtain⟨L,P⟩:=Dz S3 T.bis
 generalize A:mG (b.map (·.2)) C1=d at L P;have A:Cd b C1=d:=A;have V:d.1.length=b.length:=by rw[<-P.len,W]
 have S6:=L.vC (c:=.b8 ((b.map λp=>fP p.1).zip d.1)) ⟨ws,.inl ⟨b.map λp=>(ju p.1:Key),by
   refine(Vd (k2:=(b.map λp=>(p.1,j4)).map λp=>(fP p.1,p.2)) ?_).trans ((acW _).trans ?_)
   .rw[eZ,eZ,eZ]
    show((b.map λp=>fP p.1).zip d.1).map (λp=>p.1)=_
    rw[SJ (by rw[bC,V];exact bQ _)];rfl
   .rw[eZ];rfl,ep,O⟩,by
   rw[aay (by rw[bC,V];exact bQ _)];exact P.keep (λ_ _ h=>h) rD⟩
 refine#[by show 1<=_;rw[iw];lia,λp2 j=>#[_,qi,?_]]
 have S7:=S6.push j (.lst [.ref p]) λ_ z=>nomatch z
 have x:=L.cell.len;have B:=S7.vC (c:=.lst [.cD d.2.length]) #[[.ref p],fK,_,[],rfl,#[p,rfl,by rw[x];grind],rfl];have U:(((Θ++t)++[p])++[p2])[n]?=aa a:=rD n a (rD n a (rD n a u));have I:((d.2++[.b8 ((b.map λp=>fP p.1).zip d.1)])++[.lst [.cD d.2.length]])[n]?=aa (.obj c0 [] []):=by
  have g:=aoB Q.2;rw[A] at g;have lt:=(jk.mp g).1;rw[gK (by rw[eG];lia),gK lt];exact g
 obtain⟨dx,rQ,k,hl,_⟩:=B.cell.at_ n a _ U I
 refine#[a,c0,dx,[],rfl,k,cl,F,aP,?_]
 have am:=jY U;have S9:=B.go (bh.cell (o:=.ins c0 dx [(f,.ref p2)]) am) (B.cell.write B.cQ.2.1 U (c:=.obj c0 [f] [.cD (d.2.length+1)]) λH' kt K=>#[dx,[.ref p2],K,rfl,_,[],rfl,#[p2,rfl,by rw[x];grind],rfl]);have qq:=q ((((Θ++t)++[p])++[p2])) σ (upd (upd v p2 (.lst [.ref p])) a (.ins c0 dx [(f,.ref p2)])) #[#[t++[p]++[p2],bH,λc m=>?_],o8 ((kf.trans (bh.upd j)).trans (bh.cell (jY u))),λc m=>.inl (f2.own.subset m),?_]
 .exact qq
 .rcases dU.mp m with m|m
  .rcases dU.mp m with m|m
   .exact(bh.upd (Θ:=Θ) (o:=.dK [] 0) s).none (fr c m)
   .rw[gB.mp m];exact s
  .rw[gB.mp m];exact kf.none j
 .unfold Qm;rw[A];exact S9
def Fj(c0:az)(i:Nat)(f:FN):FS:=λaj C=>(f [.ce C.length] (C++[.obj c0 [] []])).bind λr=>match r.1 with
 |.im .none=>aa (.nx,aj.set i (aa (.ce C.length)),r.2)
 |_=>ao
theorem alv{K:aU}{f:FN}:∀D σ H,tS K (Fj c0 i f) D σ H->zm (afA c0 (nY K f) [] E0 BJ) (vH i) D σ H:=by
 rintro D σ H ⟨Z,Θ,aj,C,fl,bw,C',S,hf,q⟩
 obtain⟨⟨r,C2⟩,h1,d⟩:=bW hf
 clear hf;dsimp only at d;split at d
 case h_2=>cases(d)
 cases(d);intro x dx j m ne;have a:upd H dx (.own x) x=ao:=by rw[c7 (jK ne)];exact j
 have u:=(S.push m (.own x) λ_ z=>nomatch z).pop;have p:=u.push a (.ins c0 dx []) λ_ z=>nomatch z
 have cl:=S.cell.len;have k:=p.vC (c:=.obj c0 [] []) #[dx,[],fK,rfl,rfl];have h:bh Θ H (upd (upd H dx (.own x)) x (.ins c0 dx [])):=(bh.upd m).trans (bh.upd a)
 refine#[_,Θ++[x],_,[.ce C.length],_,_,k.bare,.cons #[x,rfl,by grind] .nil,h1,λv H2 L' t k2 S4 rr=>#[rr,?_]]
 have y:=k.YB k2 t S4;have s:=y.rK (i:=i) (x:=.ce C.length) (v:=.ref x) (λ_ z=>nomatch z) #[x,rfl,t.at 002]
 obtain⟨Δ,e,n⟩:=t.ex
 refine q L' _ H2 #[#[[x]++Δ,by rw[e,iK],λb mb=>?_],o8 ?_,λb mb=>?_,s]
 .rcases dU.mp mb with mb|mb
  .rw[gB.mp mb];exact j
  .exact h.none (n b mb)
 .refine#[λb o g l=>?_,λb w=>k2.dom b (h.dom b w)]
  refine k2.keep b o (h.keep b o g l) λmb=>?_
  rcases dU.mp mb with mb|mb
  .exact l mb
  .rw[gB.mp mb,j] at g;cases(g)
 .rcases sV mb with mb|⟨⟨_,z⟩,_⟩
  .exact .inl mb
  .cases(z)
theorem aoD{X:Cx}{c0 b:az}{y cls:Str}{i k:Nat}{f:FN}{p pos1 pos pos':Pos}(j:017)(hi:X.N[i]?=aa y)(n:Loc X.env.scope y)(M:Mk X.K c0 b)(F:dG X.prog X.w X.K X.mg X.base dJ k b fd ps (nY X.K f))(h:dZ (k+1) X.A)(m:Gl X cls)(c:X.mg cls=aa (.ref c0))
  (d:Binds X.K fd ps [])(l:Passes dJ X E0)(a:(cls==("__debug__":Str))=aH:=by decide)
  (e:lG (.Call (.Name cls p) [] [] pos1) (aa (.Name y pos')) pos.line X.env=pure aH:=by rfl)(g:X.fn y=aq\/X.env.scope.names.lookup y=aa .local:=by first|exact .inl rfl|exact .inr rfl|assumption):
  PS X (.Assign [.Name y pos'] (.Call (.Name cls p) [] [] pos1) pos) (tS X.K (Fj c0 i f)):=(Az j hi n (al2 M F h m c d .nil l a) e g).weak alv
theorem aoE{k:Key}:(iC l k).isSome=l.any λa=>decide (a.1=k):=by
 unfold iC;rw[Su];induction l with
 |nil=>rfl
 |cons p l ih=>
  rw[yt];by_cases c:p.1=k
  .rw[ahN (by simpa using c),gq c];rfl
  .rw[ahO (by simpa using c),m7 c,ih];rfl
def Qo(z:Str)(au:List (aB×Ci)):Bool:=au.any λp=>decide (fL p.1=aa (.inr z))
def zF(fk:FB)(g:FE):FT:=λaj C=>(fk aj C).bind λp=>match p.1 with
 |.str z=>(g p.2.1 p.2.2).bind λq=>match q.1 with
  |.ce n=>(Ca q.2.2[n]?).bind λau=>aa (Qo z au,q.2.2)
  |_=>ao
 |_=>ao
theorem aef{K:aU}{g:FE}{σ:St}{H:Hp}(h:eY K (zF fk g) σ H Q):fM K fk σ H λx H1=>tE K g σ H1 λy H2=>∃a o,y=.ref a/\m8 H2 a x o/\Q o.isSome H2:=by
 obtain⟨Z,Θ,aj,C,b,C',S,m,q⟩:=h
 obtain⟨⟨d,e1,C1⟩,h1,c⟩:=bW m
 clear m;dsimp only at c;split at c
 case h_2=>cases(c)
 rename_i z
 obtain⟨⟨r,e2,C2⟩,h2,e⟩:=bW c
 clear c;dsimp only at e;split at e
 case h_2=>cases(e)
 rename_i n
 obtain⟨au,B,w⟩:=bW e
 clear e;cases(w)
 obtain⟨D,ks,j⟩:=NK B
 refine#[Z,Θ,_,C,_,_,_,S,h1,λx H1 l E t A=>#[Z,Θ,_,_,_,_,_,t,h2,λy H2 p F R=>?_]]
 have ex:x=.str z:=A;subst ex
 obtain⟨i,a,rfl,f⟩:=R
 obtain⟨vs,ep,u,s⟩:=(i.cell.at_ n a _ f D).Rb j
 refine#[a,_,rfl,m8.k (k:=.inr z) u,?_]
 rw[aoE,(YD (k:=.inr z) (x:=.dat .none) (v:=.non) #[rfl,rfl] j s).2.2];exact q H2 (l.trans p) (S.go (l.trans p) i.cell)
theorem aqi(e:X.A.units+2<fD)(l:PE X a (fM X.K fk))(m:PE X b (tE X.K g))(j:Aa .In b=aH:=by rfl):PT X (.Compare a [.In] [b] pos) (eY X.K (zF fk g)):=
 (Wn (Og e) l m j).weak λσ H Q h=>by
  have g:=aef h
  obtain⟨Z,Θ,aj,C,d,e1,C1,S,c,q⟩:=g
  refine#[Z,Θ,_,C,_,_,_,S,c,λx H1 k f i n=>?_]
  obtain⟨Z,Θ,aj,C,r,e2,C2,S,c,q⟩:=q x H1 k f i n
  refine#[Z,Θ,_,C,_,_,_,S,c,λy H2 k f R=>?_]
  obtain⟨a,o,e1,e2,q⟩:=q y H2 k f R
  exact .inr #[a,o,e1,.inl e2,_,rfl,q]
def Fo(fk:FB)(g:FE):FT:=jW (zF fk g)
theorem aoF(e:X.A.units+2<fD)(l:PE X a (fM X.K fk))(m:PE X b (tE X.K g))(j:Aa .NotIn b=aH:=by rfl):PT X (.Compare a [.NotIn] [b] pos) (eY X.K (Fo fk g)):=
 (Wn (ab0 e) l m j).weak λσ H Q h=>by
  obtain⟨Z,Θ,aj,C,b,C',S,c,q⟩:=h
  unfold Fo jW at c;split at c
  case h_2=>cases(c)
  rename_i p C1 h1;cases(c)
  obtain⟨Z,Θ,aj,C,d,e1,C1,S,c,q⟩:=aef (Q:=λb H'=>Q (!b) H') #[Z,Θ,aj,C,p,_,S,h1,λH' k s=>q H' k s]
  refine#[Z,Θ,_,C,_,_,_,S,c,λx H1 k f i n=>?_]
  obtain⟨Z,Θ,aj,C,r,e2,C2,S,c,q⟩:=q x H1 k f i n
  refine#[Z,Θ,_,C,_,_,_,S,c,λy H2 k f R=>?_]
  obtain⟨a,o,e1,e2,q⟩:=q y H2 k f R
  exact .inr #[a,o,e1,.inl e2,_,rfl,q]
def X8(g:FE):FE:=λaj C=>(g aj C).bind λp=>match p.1 with
 |.ce n=>(Ca p.2.2[n]?).bind λau=>(strsOf (au.map (·.1))).bind λns=>if ns.length<64 then aa (.ow (.list ((dW strLt ns).map .str)),p.2.1,p.2.2) else ao
 |_=>ao
theorem amN{g:FE}{p pos:Pos}(G:011)(J:PE X e (tE X.K g))(I:Gl X "sorted")(A:X.mg "sorted"=ao)(y:uc "sorted"=aa (.builtin "sorted"))
  (c:bI [e] X.env=006::bI [] X.env:=by rfl)(d:(eN pos (bI [] X.env)).any (·.1)=aH:=by rfl):PE X (.Call (.Name "sorted" p) [e] [] pos) (tE X.K (X8 g)):=
 (Mw (aji G) I A y (pO J pR c) aP aP c d).weak λσ H Q aV=>by
  obtain⟨Z,Θ,aj,C,r,bw,C',S,o,q⟩:=aV
  obtain⟨⟨K,e1,C1⟩,h1,b⟩:=bW o
  clear o;dsimp only at b;split at b
  case h_2=>cases(b)
  rename_i m
  obtain⟨au,h2,s⟩:=bW b
  clear b
  obtain⟨ns,E,f⟩:=bW s
  clear s;split at f
  case isFalse=>cases(f)
  rename_i i;cases(f)
  obtain⟨F,_⟩:=NK h2
  have j:cj fL (au.map λp=>(p.1,j4))=aa (ns.map .inr):=Vb (by rw[eZ];exact E)
  refine#[Z,Θ,_,C,_,_,_,S,h1,λv H1 n u R=>?_]
  obtain⟨k,a,rfl,h⟩:=R
  obtain⟨vs,ep,B,w⟩:=(k.cell.at_ m a _ h F).Rb j
  have x:=sS j;have z:=w.len;simp only[bC] at x z
  refine#[a,_,ns,rfl,Rt #[ep,B],by rw[SJ (by rw[bC];lia)],i,λl ns' t p D=>?_]
  rw[aeW p D];exact q _ _ (n.trans (bh.upd t)) u ((o7 k (Mz _) t).from n)
def zG:FS:=λ_ _=>ao
theorem Qp{st:dF}:PS X st (tS X.K zG):=by
 intro aA s σ H D I h
 obtain⟨Z,Θ,aj,C,b,bw,C',S,a,q⟩:=h
 cases a
structure jz(P:dB)(w:cG)(K:aU)(mg:Str->Option aG)(base:cg)(c0:az)(m:Str)(k:Nat)(ps:List Str)(sp:Sp):Prop where
 ex:∃(f:az)(fd:o5),Meth K c0 m f/\Binds K fd ps []/\dG P w K mg base dJ k f fd ps sp
structure Ze(P:dB)(w:cG)(K:aU)(mg:Str->Option aG)(base:cg)(c0:az)(k:Nat)(ps:List Str)(sp:Sp):Prop where
 ex:∃(f:az)(fd:o5),Mk K c0 f/\Binds K fd ps []/\dG P w K mg base dJ k f fd ps sp
section
variable{X:Cx}{c0:az}{m:Str}{i k:Nat}{o e:Expr}{f:FN}{g:FA}{apos cpos pos:Pos}{pl:Sem Bool}
theorem pQ(h:PE X o (jx i))(c:mH X.K c0)(F:jz X.prog X.w X.K X.mg X.base c0 m k ps (spT X.K f))(q:dZ k X.A)(p:PA X (e::es) (nC X.K g))
  (a:bI (e::es) X.env=006::bI es X.env:=by rfl)(b:(eN pos (bI es X.env)).any (·.1)=aH:=by rfl)
  (d:eval (.Call (.Attribute o m apos) (e::es) [] pos) X.env=(do
   let ov <-eval o X.env
   nJ apos.atName
   let (f,first) <-mW [ov] (wL ov m pl)
   yw pos f first (eN pos (bI (e::es) X.env)) (pN pos (pL [] X.env))):=by rfl):
  PE X (.Call (.Attribute o m apos) (e::es) [] pos) (tE X.K (cZ c0 m i f g)):=by
 obtain⟨r,fd,l,j,G⟩:=F.ex
 exact aqh (n:=0) h c l G q j Jy p a b d
theorem M5(b:PE X o (jx i))(c:mH X.K c0)(F:jz X.prog X.w X.K X.mg X.base c0 m k ps (spT X.K f))(g:dZ k X.A)
  (a:eval (.Call (.Attribute o m apos) [] [] pos) X.env=(do
   let ov <-eval o X.env
   nJ apos.atName
   let (f,first) <-mW [ov] (wL ov m pl)
   yw pos f first (eN pos (bI [] X.env)) (pN pos (pL [] X.env))):=by rfl):
  PE X (.Call (.Attribute o m apos) [] [] pos) (tE X.K (cZ c0 m i f aQ)):=by
 obtain⟨h,fd,d,e,G⟩:=F.ex
 exact aox (n:=0) b c d G g e Jy a
theorem An(j:PE X o (jx i))(c:mH X.K c0)(F:jz X.prog X.w X.K X.mg X.base c0 m k ps (nY X.K f))(q:dZ k X.A)(p:PA X (e::es) (nC X.K g))
  (b:lG (.Call (.Attribute o m apos) (e::es) [] cpos) ao pos.line X.env=pure aH:=by rfl)
  (a:bI (e::es) X.env=006::bI es X.env:=by rfl)(d:(eN cpos (bI es X.env)).any (·.1)=aH:=by rfl)
  (h:eval (.Call (.Attribute o m apos) (e::es) [] cpos) X.env=(do
   let ov <-eval o X.env
   nJ apos.atName
   let (f,first) <-mW [ov] (wL ov m pl)
   yw cpos f first (eN cpos (bI (e::es) X.env)) (pN cpos (pL [] X.env))):=by rfl):
  PS X (.Expr (.Call (.Attribute o m apos) (e::es) [] cpos) pos) (tS X.K (m6 c0 m i f g)):=by
 obtain⟨r,fd,n,l,G⟩:=F.ex
 exact aoz j c n G q l Jy p b a d h
theorem amO{p pos1 pos pos':Pos}(h:017)(hi:X.N[i]?=aa y)(l:Loc X.env.scope y)(F:Ze X.prog X.w X.K X.mg X.base c0 k ps (nY X.K f))(g:dZ (k+1) X.A)(j:Gl X cls)(b:X.mg cls=aa (.ref c0))
  (a:(cls==("__debug__":Str))=aH:=by decide)
  (d:lG (.Call (.Name cls p) [] [] pos1) (aa (.Name y pos')) pos.line X.env=pure aH:=by rfl)(e:X.fn y=aq\/X.env.scope.names.lookup y=aa .local:=by first|exact .inl rfl|exact .inr rfl|assumption):
  PS X (.Assign [.Name y pos'] (.Call (.Name cls p) [] [] pos1) pos) (tS X.K (Fj c0 i f)):=by
 obtain⟨m,fd,M,c,G⟩:=F.ex
 exact aoD h hi l M G g j b c Jy a d e
end
def Rc(K:aU):Sp:=λvs H Q _=>∃(a:az)(ns:List Int),vs=[.ref a]/\b7 K H a (ns.map V.int)/\ns.length<=63/\Q=λv _=>v=.bl aq
theorem aoG{K:aU}(h:∀ns:List Int,ns.length<=63->∃C',f [.sc ns] []=aa (.im (.bool aq),C')):∀vs H Q E,Rc K vs H Q E->spT K f vs H Q E:=by
 rintro vs H Q E ⟨a,ns,rfl,hS,hl,rfl⟩
 obtain⟨C',b⟩:=h ns hl
 exact apZ hS b
inductive MethAt(K:aU)(C:az)(x qual:Str)(st:dF):Prop
 |mk {f:az} {oc:aG} {od an:Option az} {osl:Array (Option aG)} {kV doc pm cdv ct:aG} (a:tY K (.ref C) x=aa (aa (.ref f))) (i:TY K (.ref f)=aq) (l:K.lookup f=aa #[oc,od,.func (wH x qual (yF st) (sU st) (cO st) .none kV doc pm an cdv ct),osl]) (c:Lh K cdv qual=aq) (k:yq K (.ref f)=aq):MethAt K C x qual st
structure ClsAt(K:aU)(C:az):Prop where
 pg:K8 K C Str.empty=aq
 hd:Sh K C=aq
 po:aak K C=aq
 sa:tY K (.ref C) "__setattr__"=aa (aa (.builtin "object.__setattr__"))
 mm:aaI K C=aq
 kc:yq K (.ref C)=aq
theorem ClsAt.cls{K:aU}(c:ClsAt K C):mH K C:=#[c.pg,c.hd,c.po,c.sa]
abbrev afY(x qual:Str)(st:dF)(ps:List Str):Prop:=∀(kV doc pm:aG)(an:Option az)(cdv ct:aG)(us:List aG),us.length=ps.length->Vs (wH x qual (yF st) (sU st) (cO st) .none kV doc pm an cdv ct) #[us,[]]=pure (ps.zip us)
section
variable{P:dB}{w:cG}{K:aU}{C:az}{x qual:Str}{st:dF}{k:Nat}{ps:List Str}{sp:Sp}
theorem MethAt.has(d:MethAt K C x qual st)(o:∀f fd,f9 K x qual st f fd->dG P w K mg base dJ k f fd ps sp)(b:afY x qual st ps):jz P w K mg base C x k ps sp:=by
 obtain⟨a,i,l,c,kp⟩:=d
 have F:=Oc l c kp
 exact#[_,_,#[a,i,kp],F.binds b,o _ _ F]
theorem MethAt.arO(d:MethAt K C "__init__" qual st)(cl:ClsAt K C)(o:∀f fd,f9 K "__init__" qual st f fd->dG P w K mg base dJ k f fd ps sp)(b:afY "__init__" qual st ps):Ze P w K mg base C k ps sp:=by
 obtain⟨a,i,l,c,kp⟩:=d
 have F:=Oc l c kp
 exact#[_,_,#[cl.mm,a,i,cl.kc],F.binds b,o _ _ F]
end
def YF(K:aU)(T:gU)(ts:TT)(em:TM)(pre fs:St)(J:It)(H0:Hp)(done:Hp->Prop):Prop:=
 ∃W:Nat->Nat->Hp->Prop,(∃m,W 0 m H0)/\∀i m H,W i m H->
  (J.stop i H/\done H)\/(J.go i H/\∀x H',J.J6 i H x H'->∃vs,xX K T x H' vs/\
   ts (pre++(vs.map aa++fs)) H' λb H2=>if b=aq then em (pre++(vs.map aa++fs)) H2 λH3=>∃m',m'<m/\W (i+1) m' H3 else ∃m',m'<m/\W (i+1) m' H2)
section
variable{X:Cx}{NP NT NF:List Str}{tg iter e:Expr}{ifs:List Expr}{T:gU}{ts:TT}{em:TM}{emit:Sem Unit}{aM:aG}{fp:List az}{it:az}{J:It}{fs σp:St}
theorem aoH{H:Hp}{s:aR}{v:V}{u:aG}{vs:012}(m:nU tg NT T)(j:X.N=NP++NT++NF)(w:017)(C:011)(l:σp.length=NP.length)
  (h:∀x∈NT,Loc X.env.scope x/\(X.fn x=aq\/X.env.scope.names.lookup x=aa .local))(I:Inv X aA (σp++(cH NT.length ao++fs)) H s)(r:RelV v u)(g:xX X.K T v H vs)
  (q:∀s',Inv X aA (σp++(vs.map aa++fs)) H s'->Q () s'):bf 05 X.A (assign tg X.env u) Q E s:=by
 refine hide λK t=>?_
 cases T with
 |one=>
  obtain⟨x,⟨pos,rfl⟩,rfl⟩:=m
  have d:=g;subst d;have c:=h x cR;refine t (K3 (vh I w (i:=NP.length) (by rw[j];simp) c.1 r (λs' F=>q s' ?_) c.2));have e1:(σp++(cH [x].length ao++fs)).set NP.length (aa v)=σp++([v].map aa++fs):=adA σp ao (aa v) fs l
  rwa [e1] at F
 |many n=>
  obtain⟨es,k,pos,rfl,p,L⟩:=m
  obtain⟨a,rfl,D,f⟩:=g
  cases r
  obtain⟨G,y,B,J⟩:=I.tuple D
  have e:=Uq (aj:=X.env) p;have z:=p.length;refine t (assign_Tuple_tuple (I.ok.hd C) B (by rw[e];simp only[bC,oX];rw[<-y.length];lia) 002 λh' c=>?_);have A:=I.kept (t':=s.toks) λb o e=>c b o (fW (cY e)) e
  rw[e,eZ];exact abT p j w h l aD A 002 q
theorem alw{H:Hp}{vs:012}(a:vs.length=NT.length)(I:Inv X aA (σp++(vs.map aa++fs)) H s):Inv X aA (σp++(cH NT.length ao++fs)) H s:=
 I.weak (by simp;lia) λi v h=>by
  by_cases h1:i<σp.length
  .rw[gK h1] at h⊢;exact h
  .rw[gh aD] at h⊢;by_cases h2:i-σp.length<NT.length
   .rw[gK (by simpa using h2),Z2,bG h2] at h;cases h
   .rw[gh (by simp;lia)] at h⊢;rw[wA] at h;rw[bC,a];exact h
theorem alx{H:Hp}{s:aR}(d:Nat)(hx:X.xe=λ_ _=>False)(hT:vm e d (.ref it) aM X.env=turnOf tg iter ifs (.ref it) X.env emit (again (.compLoop e d (.ref it) aM X.env)))
  (hq:(t7 e d (.ref it) aM X.env).isFrame=aH)(Zr:(t7 e d (.ref it) aM X.env).quiet=aq)(hA:X.A.under (t7 e d (.ref it) aM X.env)=X.A)
  (D:nU tg NT T)(hN:X.N=NP++NT++NF)(hp:σp.length=NP.length)(nd:017)(y:011)(hl:∀x∈NT,Loc X.env.scope x/\(X.fn x=aq\/X.env.scope.names.lookup x=aa .local))
  (A:nA X ifs ts)(v:PM X emit em)(TT:Turn X.prog X.w X.K tg J fp it tn)(O:∀b∈fp,mF X aA H b)(I:Inv X aA (σp++(cH NT.length ao++fs)) H s)(st:tn 0 s.heap)(c:YF X.K T ts em σp fs J H done)
  (Y:∀H' s',Inv X aA (σp++(cH NT.length ao++fs)) H' s'->done H'->R (.ok .next) s'):
  lH 05 X.A (.compLoop e d (.ref it) aM X.env) R s:=by
 obtain⟨W,⟨m0,w0⟩,turn⟩:=c
 have a:∀{H':Hp},(∀b∈fp,H' b=ao)->∀b∈fp,mF X aA H' b:=λhn b c=>#[hn b c,(O b c).2]
 have L:∀{α:Type}{t:Sem α}{Q:α->aR->Prop}{E:aG->aR->Prop}{s:aR},bf _ X.A t Q (λ_ _=>False) s->bf 05 X.A t Q E s:=λh=>qY h (λ_ _ z=>z) λ_ _ z=>z.elim
 have F:∀{α:Type}{t:Sem α}{Q:α->aR->Prop}{E:aG->aR->Prop}{s:aR},bf 05 X.A t Q X.xe s->bf _ X.A t Q E s:=λh=>L (by rwa [hx] at h)
 refine codeAny_loop Zr (λn s'=>∃i H',Inv X aA (σp++(cH NT.length ao++fs)) H' s'/\tn i s'.heap/\(∀b∈fp,H' b=ao)/\W i n H') ?_ m0 #[0,H,I,st,λb c=>(O b c).1,w0];rintro n s3 ⟨i,H3,I3,st3,zK,w3⟩;rw[hA];show bf _ X.A (if(t7 e d (.ref it) aM X.env).isFrame=aq then(vm e d (.ref it) aM X.env).onRaise (leaving X.env) else(vm e d (.ref it) aM X.env).onRaise _) _ _ s3;rw[hq];refine wpAny_noted (L ?_);rw[hT];unfold turnOf;refine aJ (u6 (aJ (hide λGG q=>?_)));rcases turn i n H3 w3 with⟨stop,qn⟩|⟨go,step⟩
 .refine q (bY (TT.done X rfl rfl rfl y i aA s3 _ H3 _ I3 (a zK) st3 stop) λr P f=>?_)
  obtain⟨B,I4⟩:=f
  subst B;exact bu (Y H3 P I4 qn)
 .refine q (bY (TT.item X rfl rfl rfl y i aA s3 _ H3 _ I3 (a zK) st3 go) λr P f=>?_)
  obtain⟨u,B,h4⟩:=f
  subst B;refine aJ (bY h4 λ_ s5 f=>(hide λGG q=>?_))
  obtain⟨x,K,I5,r5,V,C,J7⟩:=f
  have J8:=I5.pinned (a J7) (TT.obj _ _ C)
  obtain⟨vs,N,q5⟩:=step x K V
  have w:=xX.len D N;refine q (aJ (aoH D hN nd y hp hl J8 r5 N λs6 I6=>(aJ (F (bY (A _ s6 _ K _ I6 q5) λb s7 f=>?_)))))
  obtain⟨Z,M,S⟩:=f
  have G:∀{g:aR}{j:Hp},Inv X _ (σp++(vs.map aa++fs)) j g->(∃l,l<n/\W (i+1) l j)->
    (t7 e d (.ref it) aM X.env=t7 e d (.ref it) aM X.env)/\∃m,m<n/\∃i H',Inv X aA (σp++(cH NT.length ao++fs)) H' g/\tn i g.heap/\(∀b∈fp,H' b=ao)/\W i m H':=λ{g j} k n8=>by
   obtain⟨l,hm,w8⟩:=n8
   refine#[rfl,l,hm,i+1,j,alw w k.HW,TT.keep _ _ _ C λb c o e=>(k.pin (b,o) (fJ _ (fJ _ (Dr c e)))).1,λb c=>?_,w8]
   obtain⟨o,e,d⟩:=TT.obj _ _ C b c
   exact(k.pin (b,o) (fJ _ (fJ _ (Dr c e)))).2.1
  cases b with
  |false=>exact bu (G M S)
  |true=>exact aJ (F (bY (v _ s7 _ Z _ M S) λ_ g ⟨j,k,U⟩=>bu (G k U)))
end
abbrev rN(jF ir ji fX:Expr)(if1 if2:List Expr):List Comprehension:=[#[jF,ir,if1,0],#[ji,fX,if2,0]]
def Qq(elt jF ir ji fX:Expr)(if1 if2:List Expr)(scope:iU)(pos:Pos)(aM:aG)(aj:Env):Sem Unit:=do
 let x <-eval fX aj
 nJ fX.pos
 let x <-qm fX aj x
 let _ <-runOwn (.compStart (.ListComp elt (rN jF ir ji fX if1 if2) scope pos) 1 (<-mW [x] (wW x)) aM aj) aj
theorem amP(elt c d e f:Expr)(a b:List Expr)(scope:iU)(pos:Pos)(it aM:aG)(aj:Env):
  vm (.ListComp elt (rN c d e f a b) scope pos) 0 it aM aj=turnOf c d a it aj (Qq elt c d e f a b scope pos aM aj) (again (.compLoop (.ListComp elt (rN c d e f a b) scope pos) 0 it aM aj)):=by
 unfold vm turnOf Qq;simp only[bind_assoc];rfl
theorem aly(elt e f c d:Expr)(b a:List Expr)(scope:iU)(pos:Pos)(it aM:aG)(aj:Env):
  vm (.ListComp elt (rN e f c d b a) scope pos) 1 it aM aj=turnOf c d a it aj (do let _ <-call (.builtin "list.append") [aM,<-eval elt aj]) (again (.compLoop (.ListComp elt (rN e f c d b a) scope pos) 1 it aM aj)):=rfl
theorem ahS
  (b:lH 000 A (.compLoop (.ListComp elt (rN jF ir ji fX if1 if2) scope pos) 1 it aM aj) R s)
  (h:bf (model prog w) A (wW it) (λa s'=>lH (model prog w) A (.compLoop (.ListComp elt (rN jF ir ji fX if1 if2) scope pos) 1 a aM aj) R s')
   (notedBy (model prog w) A aj λx s'=>R (.error x) s') s):
  lH 000 A (.compStart (.ListComp elt (rN jF ir ji fX if1 if2) scope pos) 1 it aM aj) R s:=by
 refine codeAny_of_tree ?_;show bf _ _ ((compStart (.ListComp elt (rN jF ir ji fX if1 if2) scope pos) 1 it aM aj).onRaise (λx=>do noteFrame x aj;nJ theWindowsPlace)) _ _ s;refine wpAny_notedAt ?_;unfold compStart;show bf _ _ (ask >>= _) _ _ s;refine aJ (K9 (wpAny_ite ?_));split
 .first
   |exact aJ (bu (bu (Ve rfl b)))
   |exact bu (Ve rfl b)
 .first
   |exact aJ (uf (aJ (u6 (aJ (qY h (λa s' h'=>bu (Ve rfl h')) λ_ _ x=>x)))))
   |(refine aJ (uf ?_);show bf _ _ (nJ fX.pos >>= _) _ _ s;exact aJ (u6 (aJ (qY h (λa s' h'=>bu (Ve rfl h')) λ_ _ x=>x))))
def agx(K:aU)(wi:TI)(T:gU)(ts:TT)(em:TM)(n1 n2:Nat):TM:=λσ H Q=>wi σ H λJ H1=>∃pre fs,σ=pre++(cH n2 ao++fs)/\pre.length=n1/\YF K T ts em pre fs J H1 Q
theorem aqj{NP NT NF:009}(w:X.xe=λ_ _=>False)(p:nU ji NT T)(n:X.N=NP++NT++NF)(l:017)(q:011)(m:∀x∈NT,Loc X.env.scope x/\(X.fn x=aq\/X.env.scope.names.lookup x=aa .local))
  (hi:PI X ji fX wi)(b:nA X if2 ts)(y:PE X elt te)(k:∀x,qm fX X.env x=pure x):
  PM X (Qq elt jF ir ji fX if1 if2 scope pos (.ref D) X.env) (agx X.K wi T ts (Ea D te) NP.length NT.length):=by
 intro aA s σ H Q I h;unfold Qq;refine aJ (bY (hi aA s σ H _ I h) λv s1 h1=>aJ (u6 (aJ (Uc (k v) (aJ (pJ (bY h1 λt g z=>?_)))))));refine hide λA u=>?_
 obtain⟨it,fp,tn,J,H2,e,f,TT,st2,j,c,fs,rfl,o,tb⟩:=z
 subst e;have a:lH (model X.prog X.w) X.A (.compLoop (.ListComp elt (rN jF ir ji fX if1 if2) scope pos) 1 (.ref it) (.ref D) X.env)
   (λr s'=>match r with|.ok _=>bf 05 X.A (pure ():Sem Unit) (λ_ s'=>∃H',Inv X aA (c++(cH NT.length ao++fs)) H' s'/\Q H') X.xe s'|.error e=>cameBackBy 05 X.A X.env X.xe e s') g:=
  alx 1 w (aly elt jF ir ji fX if1 if2 scope pos _ _ _) rfl rfl rfl p n o l q m b (abU y) TT j f st2 tb λH' s' i d=>bu #[H',i,d]
 exact u (aJ (wpAny_runOwn (ahS a (TT.self _ 0 _ _ _ st2 a))))
section
variable{X:Cx}{js:List Nat}{T1 T2:gU}{wi:TI}{Rv:Bk->TI}{Rw Rx:Bk->TT}{te:Bk->TE}{scope:iU}{pos:Pos}
def agy(K:aU)(wi:TI)(T1:gU)(Rw:Bk->TT)(Rv:Bk->TI)(T2:gU)(Rx:Bk->TT)(te:Bk->TE)(js:List Nat)(n1 n2:Nat):TE:=λσ H Q=>wi σ H λJ H1=>∀D,H1 D=ao->∀b,
 BL K T1 (Rw b) (agx K (Rv b) T2 (Rx b) (Ea D (te b)) n1 n2) (cH n2 ao++frees js σ) J (upd H1 D (.lst [])) (Q (.ref D))
theorem aqk(B:pX X (lU++kZ) NF js scope)(W:nU jF lU T1)(D:nU ji kZ T2)(K:011)(hi:PI X jF ir wi)
  (n:∀b,nA (X.bk ((lU++kZ)++NF) scope b) if1 (Rw b)/\PI (X.bk ((lU++kZ)++NF) scope b) ji fX (Rv b)/\nA (X.bk ((lU++kZ)++NF) scope b) if2 (Rx b)/\PE (X.bk ((lU++kZ)++NF) scope b) elt (te b))
  (P:∀x,qm ir X.env x=pure x:=by intro _;rfl)(u:∀b x,qm fX (X.bk ((lU++kZ)++NF) scope b).env x=pure x:=by intro _ _;rfl):
  PE X (.ListComp elt (rN jF ir ji fX if1 if2) scope pos) (agy X.K wi T1 Rw Rv T2 Rx te js lU.length kZ.length):=by
 intro aA s σ H Q I h
 obtain⟨cl,g,N,Z⟩:=Mh λy S e=>I.ok.has _ (B.free y S e)
 refine RP rfl P g B.kind B.names (bY (hi _ s σ H _ I h) λv s1 h1=>bY h1 λitv a aV=>?_);refine hide λGG gg=>?_
 obtain⟨it,fp,tn,J,H2,e,l,TT,st2,E,q⟩:=aV
 subst e;refine gg ?_;refine nF ?_;have q:=q _ (l.hok.fresh (bQ _));have j:Inv X aA σ (upd H2 a.heap.objs.size (.lst [])) _:=
  l.laid (t':=a.toks) (λb o e=>cX _ e) (bQ _) #[jJ _,[],0,.nil,fV _ rfl]
 have w:(a.heap.push {cls:=.type "list",dict:=ao,data:=.seq ([]:List aG).toArray}).objs.size=a.heap.objs.size+1:=u5 ..;refine Zq j B N Z λrR h₁ cb hns1 keep=>?_
 have G:∀b∈fp,b<a.heap.objs.size:=λb d=>by
  obtain⟨o,e,_⟩:=TT.obj 0 _ st2 b d
  exact cY e
 have i:∀b∈fp,mF X aA (upd H2 a.heap.objs.size (.lst [])) b:=λb d=>#[by rw[c7 (fW (G b d))];exact(E b d).1,(E b d).2]
 have A:∀b∈fp,b<(a.heap.push _).objs.size:=λb d=>by have:=G b d;rw[w];exact yj this
 have F:=j.blk (s1:={a with heap:=h₁}) B cb i A hns1 keep rfl l.bare;have L:tn 0 h₁:=TT.keep 0 _ _ st2 λb _ o e=>keep b o (cX _ e)
 obtain⟨U,i2,R,M⟩:=n #[rR,_,_,upd H2 a.heap.objs.size (.lst []),fp]
 have es:cH (lU++kZ).length (ao:Option V)++frees js σ=cH lU.length ao++(cH kZ.length ao++frees js σ):=by
  rw[eG,<-List.replicate_append_replicate,iK]
 rw[es] at F;have f:lH (model X.prog X.w) X.A (.compLoop (.ListComp elt (rN jF ir ji fX if1 if2) scope pos) 0 (.ref it) (.ref a.heap.objs.size) (Vu scope rR (a.heap.push {cls:=.type "list",dict:=ao,data:=.seq ([]:List aG).toArray}).objs.size X.env))
   (λr s'=>compPost 05 X.A X.xe ao (EP X aA σ Q) (.ref a.heap.objs.size) (a.heap.push {cls:=.type "list",dict:=ao,data:=.seq ([]:List aG).toArray}).objs.size r s') {a with heap:=h₁}:=by
  refine Vv (X:=X.blk ((lU++kZ)++NF) scope rR _ _ (upd H2 a.heap.objs.size (.lst [])) fp) (NT:=lU) (NF:=kZ++NF)
   (T:=T1) (fs:=cH kZ.length ao++frees js σ) (done:=Q (.ref a.heap.objs.size)) rfl (amP elt jF ir ji fX if1 if2 scope pos _ _ _) rfl rfl rfl W (iK ..) B.nd K (λx C=>B.loc (jG _ C)) U
   (aqj (NP:=lU) (NT:=kZ) (NF:=NF) rfl D rfl B.nd K (λx C=>B.loc (fJ _ C)) i2 R M (u #[rR,_,_,upd H2 a.heap.objs.size (.lst []),fp])) TT (λb d=>?_) F L (q _) λH' s' F' J' qd=>?_
  .exact⟨(i b d).1,fW (A b d),λt=>by
    rcases cC.mp (j.Ek b t) with z|z
    .exact(i b d).2.1 z
    .exact(i b d).2.2.1 z,.inl d,λx c e=>cb.ne (i b d) (A b d) e,λp Y=>(nomatch(show p∈([]:List (az×Obj)) from Y))⟩
  .obtain⟨m,hn,_⟩:=J'.loc
   have O:=j.Yr i J';have k:=j.Bx (H':=H') (bQ _) J'.free
   refine#[m,hn,λh' sb=>#[.ref a.heap.objs.size,H',?_,rfl,qd]]
   exact O.turned (λb o d e=>(sb.2 b d).trans e) k.1 k.2.1 k.2.2.2.1 k.2.2.2.2.1 k.2.2.2.2.2
 exact ahJ f (TT.self _ 0 _ _ _ L f)
end
def zc{α:Type}(T:gU)(ft:FT)(st:En->α->Ce->Option (α×Ce))(pre fs:En):List aB->α->Ce->Option (α×Ce)
 |[],a,C=>aa (a,C)
 |d::r,a,C=>(yc T d).bind λts=>(ft (pre++(cW ts++fs)) C).bind λp=>bif p.1 then(st (pre++(cW ts++fs)) a p.2).bind λq=>zc T ft st pre fs r q.1 q.2 else zc T ft st pre fs r a p.2
def st2(fi:FI)(T:gU)(ft:FT)(fe:FE)(n1 n2 nf:Nat):En->List aB->Ce->Option (List aB×Ce):=λaj aM C=>(fi aj C).bind λq=>if Ku T=n2/\aj.length=n1+n2+nf then zc T ft (uF fe) (aj.take n1) (aj.drop (n1+n2)) q.1 aM q.2.2 else ao
where Ku:gU->Nat
 |.one=>1
 |.many n=>n
def J0(fi:FI)(T1:gU)(Gn:FT)(CV:FI)(T2:gU)(Gp:FT)(fe:FE)(n1 n2:Nat)(js:List Nat):FE:=λaj C=>(fi aj C).bind λp=>if st2.Ku T1=n1 then(uA T1 Gn (st2 CV T2 Gp fe n1 n2 js.length) (cH n2 ao++frB js p.2.1) p.1 [] p.2.2).bind λq=>if q.1.length<=eE then aa (.ow (.list q.1),if iW q.1 then p.2.1 else jE js p.2.1,q.2) else ao else ao
theorem aoI(h:yc T d=aa ts):ts.length=st2.Ku T:=by
 cases T with
 |one=>cases h;rfl
 |many n=>
  cases d<;>first|cases h|skip
  rename_i ds;have h:(if ds.length=n then aa ds else ao)=aa ts:=h;split at h
  .cases h;assumption
  .cases h
theorem Fz.no:∀{a b:En},(∀(i:Nat)(d:aB),a[i]?≠aa (aa (.ow d)))->Fz a b->b=a
 |[],[],_,_=>rfl
 |x::r,y::t,no,h=>by
  rw[Fz.no (λi d z=>no (i+1) d (by simpa using z)) h.2];rcases h.1 with e|⟨d,e,_⟩
  .rw[e]
  .exact absurd (by rw[e];rfl) (no 0 d)
 |[],_::_,_,h=>nomatch h
 |_::_,[],_,h=>nomatch h
section
variable{K:aU}{aj:En}{σ:St}{H H':Hp}{D:az}
theorem Vf(b:D∈Z)(S:09):∀a∈D::Θ,a∈bF Z Θ aj σ:=λa m=>by
 rcases cC.mp m with rfl|m
 .exact iy.mpr (.inl b)
 .exact S.qN a m
theorem Sm.goZ(S:09)(no:∀(i:Nat)(d:aB),aj[i]?≠aa (aa (.ow d)))(b:D∈Z)(k:bh (D::Θ) H H')(nt:NT (H' D))(c:gP Θ C' H'):Sm K Z Θ aj C' σ H' where
 len:=S.len
 nd:=S.nd
 dom:=λa m=>by
  by_cases z:a=D
  .subst z;exact nt
  .obtain⟨u,e,n⟩:=S.dom a m
   have h:=S.cQ.2.2.2 a m
   exact⟨u,k.keep _ _ e λy=>by
    rcases cC.mp y with y|y
    .exact z y
    .exact h y,n⟩
 slot:=λi x e=>by
  obtain⟨v,e1,r⟩:=S.slot i x e
  refine#[v,e1,r.same (jN k (Vf b S) λa m=>.inl m) λd a ex _ _ _=>?_]
  subst ex;exact absurd e (no i d)
 cell:=c
theorem Sm.mid{A B:En}{a b:St}{n:Nat}{ts:016}(S:Sm K Z Θ (A++(cH n lZ++B)) C (a++(cH n lZ++b)) H)(q:a.length=A.length)(no:∀(i:Nat)(d:aB),(A++(cH n lZ++B))[i]?≠aa (aa (.ow d)))(r:cF (er (bF Z Θ [] []) H) ts vs)(l:ts.length=n):
  Sm K Z Θ (A++(cW ts++B)) C (a++(vs.map aa++b)) H/\∀(i:Nat)(d:aB),(A++(cW ts++B))[i]?≠aa (aa (.ow d)):=by
 have u:=jL r;have c:(cW ts).length=n:=by unfold cW;rw[bC,l]
 have g:∀(i:Nat)(d:aB),(A++(cW ts++B))[i]?≠aa (aa (.ow d)):=λi d z=>by
  by_cases h1:i<A.length
  .rw[gK h1] at z;exact no i d (by rw[gK h1];exact z)
  .rw[gh aD] at z;by_cases h2:i-A.length<n
   .rw[gK (by rw[c];exact h2)] at z;unfold cW at z;simp_all
   .rw[gh (by rw[c];lia),c] at z;exact no i d (by rw[gh aD,gh (by rw[wA];lia),wA];exact z)
 have m:=Bf (σ:=a++(cH n lZ++b)) no;have k:=Bf (σ:=a++(vs.map aa++b)) g;have o:∀{e:En}{s:St},cB e s=[]->er (bF Z Θ e s) H=er (bF Z Θ [] []) H:=λh=>pU λx=>by
  simp only[iy,h];simp[cB]
 have cQ:=S.cQ
 refine#[#[?_,?_,S.dom,λi x e=>?_,S.cell],g]
 .have:=S.len;simp only[eG,wA,bC,c] at this⊢;lia
 .have h:=S.nd
  show(Z++(Θ++cB _ _)).Nodup
  rw[k];have h:(Z++(Θ++cB _ _)).Nodup:=h
  rwa [m] at h
 .rw[o k];have sl:∀(j:Nat),(A++(cH n lZ++B))[j]?=aa (aa x)->∃v,(a++(cH n lZ++b))[j]?=aa (aa v)/\BR K (er (bF Z Θ [] []) H) H Θ x v:=λj h=>by
   have:=S.slot j x h
   rwa [o m] at this
  by_cases h1:i<A.length
  .obtain⟨v,f,r⟩:=sl i (by rw[gK h1] at e⊢;exact e)
   refine#[v,?_,r]
   rw[gK aD] at f⊢;exact f
  .rw[gh aD] at e;by_cases h2:i-A.length<n
   .rw[gK (by rw[c];exact h2)] at e;unfold cW at e;rw[jr] at e;cases ht:ts[i-A.length]? with
    |none=>rw[ht] at e;cases e
    |some t=>
     rw[ht] at e;cases e
     obtain⟨v,f,p⟩:=Ep r ht
     refine#[v,?_,p]
     rw[gh aD,gK (by rw[bC];lia),jr,q,f];rfl
   .rw[gh (by rw[c];lia),c] at e
    obtain⟨v,f,r⟩:=sl i (by rw[gh aD,gh (by rw[wA];lia),wA];exact e)
    refine#[v,?_,r]
    rw[gh aD,gh (by rw[wA];lia),wA] at f;rw[gh aD,gh (by rw[bC];lia),bC,u,l];exact f
abbrev CW(Z Θ:List az)(D:az)(aM:List aB)(H:Hp):Prop:=lO (er (bF Z Θ [] []) H) H D (.list aM)
inductive agz(Z Θ:List az)(D:az)(H1:Hp)(n:Nat)(run:Nat->List aB->Ce->Prop)(i m:Nat)(H2:Hp):Prop
 |mk (aM:016) (Ci:Ce) (hm:m=n-i) (hi:i<=n) (ki:bh (D::Θ) H1 H2) (ci:gP Θ Ci H2) (ob:CW Z Θ D aM H2) (hc:run i aM Ci):agz Z Θ D H1 n run i m H2
theorem aql{T:gU}{ft:FT}{fe:FE}{A B:En}{a b:St}{n:Nat}{J:It}{aK aM L:016}(S:Sm K Z Θ (A++(cH n ao++B)) C (a++(cH n ao++b)) H)(la:a.length=A.length)(no:∀(i:Nat)(d:aB),(A++(cH n ao++B))[i]?≠aa (aa (.ow d)))(hT:st2.Ku T=n)
  (s:D∈Z)(it:BX (bF Z Θ (A++(cH n ao++B)) (a++(cH n ao++b))) (bF Z Θ (A++(cH n ao++B)) (a++(cH n ao++b))) H J aK)(ob:CW Z Θ D aM H)
  (c:zc T ft (uF fe) A B aK aM C=aa (L,C'))(hq:∀H2,bh (D::Θ) H H2->gP Θ C' H2->CW Z Θ D L H2->Q H2):YF K T (eY K ft) (Ea D (tE K fe)) a b J H Q:=by
 have cQ:=S.cQ;have Y:D∉Θ:=cQ.2.2.2 D s;have pD:∀x∈D::Θ,x∈bF Z Θ [] []:=λx m=>by
  rcases cC.mp m with rfl|m
  .exact iy.mpr (.inl s)
  .exact iy.mpr (.inr (.inl m))
 have v:∀{aM Hx Hy},bh Θ Hx Hy->CW Z Θ D aM Hx->CW Z Θ D aM Hy:=λkk r=>r.same (jN kk (λa m=>iy.mpr (.inr (.inl m))) λa m=>.inl m) λo h=>kk.keep _ _ h Y
 have E:∀{aM Hx},CW Z Θ D aM Hx->NT (Hx D):=λr=>by obtain⟨vs,e,_⟩:=r;exact#[_,e,λ_ z=>nomatch z]
 have f:∀{Hx Hy},bh Θ Hx Hy->bh (D::Θ) Hx Hy:=λk=>#[λa o e n=>k.keep a o e λm=>n (dI _ m),k.dom]
 refine#[agz Z Θ D H aK.length (λi aM Ci=>zc T ft (uF fe) A B (aK.drop i) aM Ci=aa (L,C')),#[aK.length,#[aM,C,rfl,jJ _,bh.refl _ _,S.cell,ob,c]],λi m H2 hh=>hide λGG l=>?_]
 cases hh with
 |mk aM Ci hm hi ki ci ob c=>
 subst hm;have O:=S.goZ no s ki (E ob) ci
 obtain⟨ir,fX⟩:=it i H2 _ (jN ki (Vf s S) λa m=>.inl m) (jN ki (Vf s S) λa m=>.inl m) O.oN
 cases hd:aK[i]? with
 |none=>
  have t:=ai7 hi (RM.mp hd);rw[t,aaC] at c;cases(c);exact l (.inl #[fX t,hq H2 ki ci ob])
 |some d=>
  obtain⟨j,ed⟩:=jk.mp hd
  rw[ZX j,ed] at c
  obtain⟨go,yl⟩:=ir d hd
  refine l (.inr #[go,λx H3 y=>(hide λGG l=>?_)])
  obtain⟨I,r3⟩:=yl x H3 y
  obtain⟨ts,U,c⟩:=bW c
  obtain⟨p,ZK,c⟩:=bW c
  obtain⟨vs,tv,M⟩:=afO U r3 (sZ _ _)
  obtain⟨S4,no4⟩:=(O.Ey I).mid la no (M.same wN) ((aoI U).trans hT)
  have W:=ki.trans (bh.of I);have V:=v (bh.of I) ob;have lt:aK.length-(i+1)<aK.length-i:=aD;refine l #[vs,tv,#[Z,Θ,_,Ci,_,_,S4,ZK,λH4 u P=>?_]];cases hp:p.1 with
  |false=>
   rw[hp] at c;exact zp #[_,lt,#[aM,_,rfl,j,W.trans (f u),P.cell,v u V,c]]
  |true=>
   rw[hp] at c
   obtain⟨q,g,c⟩:=bW c
   obtain⟨w,G,g⟩:=bW g
   obtain⟨yd,F,g⟩:=bW g
   have F:=Od F;refine zq (hide λGG l=>?_);cases hlt2:decide (aM.length<eE) with
   |false=>rw[hlt2] at g;cases(g)
   |true=>
   rw[hlt2] at g;cases(g);refine l #[Z,Θ,_,p.2,w.1,_,_,P,G,λy H5 R f5 R5=>?_]
   obtain⟨S6,r6⟩:=R5.uz F
   obtain⟨Y9,N,X⟩:=v (u.trans R) V
   have tR:=of_decide_eq_true hlt2
   refine#[_,N,by rw[jL X,iw];unfold eE at tR;lia,_,lt,#[_,_,rfl,j,(W.trans (f (u.trans R))).trans (bh.cell cR),MP Y (λ_ z=>by rw[N] at z;cases(z)) S6.cell,#[_,fK,?_],c]]
   rw[Oj (pD D cR)];exact yG X #[y,[],rfl,r6.same wN,rfl]
end
theorem ac2:frB (cH n e.length++js) e=cH n ao++frB js e:=by
 unfold frB;rw[jH,aiq,Gs (bQ _)];rfl
theorem abF(h:σ.length=k):frees (cH n k++js) σ=cH n ao++frees js σ:=by
 subst h;unfold frees;rw[jH,aiq,Gs (bQ _)];rfl
theorem amQ:jE (cH n e.length++js) e=jE js e:=by
 unfold jE;refine GP bH λi h1 h2=>?_
 simp only[List.length_mapIdx] at h1 h2;simp only[List.getElem_mapIdx,dU,List.mem_replicate];have:¬(n≠0/\i=e.length):=λh=>by lia
 simp[this]
theorem amR{K:aU}{fi CV:FI}{T1 T2:gU}{fe:FE}{n1 n2:Nat}:∀σ H Q,tE K (J0 fi T1 Gn CV T2 Gp fe n1 n2 js) σ H Q->agy K (tI K aq fi) T1 (λ_=>eY K Gn) (λ_=>tI K aH CV) T2 (λ_=>eY K Gp) (λ_=>tE K fe) js n1 n2 σ H Q:=by
 rintro σ H Q ⟨Z,Θ,aj,C,res,bw,C',S,d,q⟩
 obtain⟨⟨aK,e1,C1⟩,h1,d⟩:=bW d
 dsimp only at d;split at d
 case isFalse=>cases(d)
 rename_i hT1
 obtain⟨⟨ys,C2⟩,h2,d⟩:=bW d
 dsimp only at d;split at d
 case isFalse=>cases(d)
 rename_i hl;cases(d)
 refine#[Z,Θ,aj,C,aK,e1,C1,S,h1,λJ H1 F O u it D l b=>?_]
 have U:=λm=>(u.cell.dom D m).ne l
 have L:σ.length=e1.length:=u.len;rw[<-ac2] at h2;rw[<-abF L];generalize hj:cH n2 e1.length++js=c at h2⊢;have dPB:D∈bF (uE D Z (jE c e1) σ) Θ [] []:=(sX (js:=c) rfl).mpr (.inl rfl);refine VN (js:=c) (a0:=[]) (Ob:=λaM w=>CW (uE D Z (jE c e1) σ) Θ D aM w) u it l #[[],fK,rfl] (λa w Hy V r=>r.same (jN V (λa m=>iy.mpr (.inr (.inl m))) λa m=>.inl m) λo h=>V.keep _ _ h U)
  (λa w r=>by obtain⟨vs,e,_⟩:=r;exact#[_,e,λ_ z=>nomatch z]) ?_ h2 λH2 x T r=>?_
 .intro ts aM C3 p vs H4 Q i I M r4 hQ
  obtain⟨⟨s,G,C4⟩,Y,i⟩:=bW i
  dsimp only at i;split at i
  case isFalse=>cases(i)
  rename_i j
  obtain⟨j,A⟩:=j
  have no:=Oo (js:=c) (aj:=e1) (ts:=ts)
  refine#[_,Θ,_,C3,s,G,C4,I,Y,λJ2 H5 v f5 P t=>?_]
  have ee:G=cW ts++frB c e1:=f5.no no;subst ee;have lv:=I.len;have lf:(frees c σ).length=(frB c e1).length:=by unfold frees frB;rw[bC,bC]
  rw[eG,eG,lf] at lv;have k:(vs.map aa:St).length=(cW ts).length:=aD;have f:(cW ts).length=n1:=by
   have e:(frB c e1).length=n2+js.length:=by rw[<-hj];unfold frB;simp
   rw[eG,e] at A;lia
  rw[f] at k;have y:frB c e1=cH n2 ao++frB js e1:=by rw[<-hj,ac2]
  have E:frees c σ=cH n2 ao++frees js σ:=by rw[<-hj,abF L]
  rw[y,E] at P;rw[y,E] at t;rw[y] at no i
  refine#[vs.map aa,frees js σ,by rw[E],k,?_]
  have e4:(cW ts++(cH n2 ao++frB js e1)).take n1=cW ts:=by rw[<-f];simp
  have W:(cW ts++(cH n2 ao++frB js e1)).drop (n1+n2)=frB js e1:=by
   rw[<-f,<-List.drop_drop,List.drop_left];have:n2=(cH n2 (ao:Option Vl)).length:=bH
   conv=>lhs;rw[this]
   simp
  rw[e4,W] at i;exact aql (D:=D) P (by rw[k,f]) no j cR t (r4.same (jN v (λa m=>iy.mpr (.inr (.inl m))) λa m=>.inl m) λo h=>v.keep _ _ h U) i λH6 N X o6=>hQ H6 ⟨λa o e n=>N.keep a o ((M.trans v).keep a o e n) λm=>by
   rcases cC.mp m with rfl|m
   .rw[l] at e;cases(e)
   .exact n m,λa e=>N.dom a ((M.trans v).dom a e)⟩ X o6
 .obtain⟨Y9,g,B⟩:=r
  have ef:jE c e1=jE js e1:=by rw[<-hj];exact amQ
  rw[ef] at B;refine q _ H2 (F.trans x) ?_ ?_
  .split
   .exact O
   .exact O.trans (Er js e1)
  .refine#[D,rfl,F.none l,?_]
   split
   .rename_i hn;have R:=u.Br l x #[_,g,λ_ z=>nomatch z] T
    exact#[R,_,g,B.fU (λa vs e=>Ji R (gW e)) hn]
   .refine#[(u.fz (Er js e1)).Br l x #[_,g,λ_ z=>nomatch z] T,_,g,?_]
    rwa [pU (P':=bF (D::Z) Θ _ σ) λa=>by rw[sX (js:=js) rfl];show _↔a∈D::bF Z Θ _ σ;rw[cC]] at B
section
variable{X:Cx}{js:List Nat}{T1 T2:gU}{fi CV:FI}{Gn Gp:FT}{fe:FE}{scope:iU}{pos:Pos}
theorem aqm(B:pX X (lU++kZ) NF js scope)(g:nU jF lU T1)(a:nU ji kZ T2)(f:011)(hi:PI X jF ir (tI X.K aq fi))
  (c:∀b,nA (X.bk ((lU++kZ)++NF) scope b) if1 (eY X.K Gn)/\PI (X.bk ((lU++kZ)++NF) scope b) ji fX (tI X.K aH CV)/\nA (X.bk ((lU++kZ)++NF) scope b) if2 (eY X.K Gp)/\PE (X.bk ((lU++kZ)++NF) scope b) elt (tE X.K fe))
  (e:∀x,qm ir X.env x=pure x:=by intro _;rfl)(d:∀b x,qm fX (X.bk ((lU++kZ)++NF) scope b).env x=pure x:=by intro _ _;rfl):
  PE X (.ListComp elt (rN jF ir ji fX if1 if2) scope pos) (tE X.K (J0 fi T1 Gn CV T2 Gp fe lU.length kZ.length js)):=(aqk B g a f hi c e d).weak amR
end
def ie:List Str->List Str->Bool
 |[],[]=>aH
 |[],_::_=>aq
 |_::_,[]=>aH
 |a::r,b::t=>if a=b then ie r t else strLt a b
theorem W0:∀{a b:009},ie a b=aq->ie b a=aH
 |[],[],h=>by cases h
 |[],_::_,_=>rfl
 |_::_,[],h=>by cases h
 |a::r,b::t,h=>by
  unfold ie at h⊢;by_cases e:a=b
  .subst e;rw[bG rfl] at h⊢;exact W0 h
  .rw[bK e] at h;rw[bK (jK e)];exact uG.BP _ _ trivial trivial h
theorem afb:∀{a b:009},ie a b=aH->ie b a=aH->a=b
 |[],[],_,_=>rfl
 |[],_::_,h,_=>by cases h
 |_::_,[],_,h=>by cases h
 |a::r,b::t,h,g=>by
  unfold ie at h g;by_cases e:a=b
  .subst e;rw[bG rfl] at h g;rw[afb h g]
  .rw[bK e] at h;rw[bK (jK e)] at g;exact absurd (uG.tot _ _ trivial trivial h g) e
theorem Yb:∀{a b c:009},ie a c=aq->ie a b=aq\/ie b c=aq
 |[],[],[],h=>by cases h
 |[],[],_::_,h=>.inr rfl
 |[],_::_,[],h=>by cases h
 |[],_::_,_::_,h=>.inl rfl
 |_::_,_,[],h=>by cases h
 |_::_,[],_::_,_=>.inr rfl
 |a::r,b::t,c::u,h=>by
  unfold ie at h⊢;by_cases e:a=b
  .subst e;rw[bG rfl];by_cases e2:a=c
   .subst e2;rw[bG rfl] at h⊢;exact Yb h
   .rw[bK e2] at h⊢;exact .inr h
  .rw[bK e];by_cases e2:b=c
   .subst e2;rw[bK e] at h;exact .inl h
   .rw[bK e2];by_cases d:a=c
    .subst d;cases hx:strLt a b with
     |true=>exact .inl rfl
     |false=>
      cases hy:strLt b a with
      |true=>exact .inr rfl
      |false=>exact absurd (uG.tot _ _ trivial trivial hx hy) e
    .rw[bK d] at h;exact uG.neg _ _ _ trivial trivial trivial h
theorem YH:Bs ie (λ_=>True):=#[λ_ _ _ _ h=>W0 h,λ_ _ _ _ _ _ h=>Yb h,λ_ _ _ _ h g=>afb h g]
section
open PySem.SeqAt
open PySem.AutoSeq1 (wpAny_loadPart')
open PySem.MeetsSeq PySem.MeetsSeq2 PySem.MeetsSeq3
theorem aoJ:∀{a b:009},a=[]\/b=[]->ie a b=decide (a.length<b.length)
 |[],[],_=>rfl
 |[],_::_,_=>by simp[ie]
 |_::_,[],_=>by simp[ie]
 |_::_,_::_,h=>by simp at h
theorem ac3(l b:az)(items items2:Array aG)(n n2:Nat)(dd dd2:Option az)(sl sl2:Array (Option aG)):
  ∀(ns ms:009)(i:Nat),i<=items.size->i<=items2.size->Vals (ns.map V.str) (items.toList.drop i)->Vals (ms.map V.str) (items2.toList.drop i)->Meets (rA.«list.__eq__.loop» #[[.ref l,.ref b,jm i,jm 0],[]])
   (λ_ R s=>s.heap.get? l=aa {cls:=.type "list",dict:=dd,data:=.seq items n,slots:=sl}/\s.heap.get? b=aa {cls:=.type "list",dict:=dd2,data:=.seq items2 n2,slots:=sl2}/\R (.ok (.ret (.bool (ie ns ms)))) s)
 |ns,ms,i,hi,hj,h1,h2=>λprog w A R s h=>by
  obtain⟨hp,g,d,tk,os⟩:=s;obtain⟨hl,hb,h⟩:=h
  have z1:=h1.length;have z2:=h2.length;have q1:items.toList.length=items.size:=bH;have q2:items2.toList.length=items2.size:=bH;rw[bC,aaD,q1] at z1;rw[bC,aaD,q2] at z2;by_cases hz:ns=[]\/ms=[]
  .have fin:ie ns ms=decide (items.size<items2.size):=by
    rw[aoJ hz,z1,z2];exact decide_eq_decide.mpr aD
   rw[fin] at h;rcases hz with rfl|rfl
   .have i1:items[((i:Nat):Int).toNat]?=ao:=by
     rw[tX] at z1;simp;lia
    wp_walk using oh hl,oh hb;rw[i1];wp_walk using oh hl,oh hb;exact h
   .have i2:items2[((i:Nat):Int).toNat]?=ao:=by
     rw[tX] at z2;simp;lia
    wp_walk using oh hl,oh hb;rw[i2];cases items[((i:Nat):Int).toNat]? with
    |none=>
     wp_walk using oh hl,oh hb;exact h
    |some _=>
     wp_walk using oh hl,oh hb;exact h
  .obtain⟨a,ns,rfl⟩:∃a r,ns=a::r:=by cases ns with|nil=>exact absurd (.inl rfl) hz|cons a r=>exact#[a,r,rfl]
   obtain⟨c,ms,rfl⟩:∃a r,ms=a::r:=by cases ms with|nil=>exact absurd (.inr rfl) hz|cons a r=>exact#[a,r,rfl]
   generalize e1:items.toList.drop i=xs at h1;generalize e2:items2.toList.drop i=ys at h2;cases h1 with
   |cons r1 t1=>
    cases h2 with
    |cons r2 t2=>
     obtain⟨i1,d1⟩:=ad3 e1
     obtain⟨i2,d2⟩:=ad3 e2
     have hc:((i:Int)+1)=((i+1:Nat):Int):=rfl;have dk:decide ((ju a:Key)=ju c)=decide (a=c):=by by_cases e:a=c<;>simp[e]
     unfold ie at h;wp_walk using oh hl,oh hb;rw[Gz,i1,i2];refine aJ (Vz (a:=.inr a) (b:=.inr c) A.in1 #[hp,g,d,tk,os] r1 r2 rfl prog w _ _ ?_);rw[dk];rw[iM] at z1 z2;by_cases hac:a=c
     .rw[bG hac] at h;rw[gq hac];wp_walk;rw[hc]
      refine#[Hf plain_eq_loop _,zY entry_eq_loop ?_]
      rw[Around.under_plainId plain_eq_loop _];exact ac3 l b items items2 n n2 dd dd2 sl sl2 ns ms (i+1) aD aD (by rw[d1];exact t1) (by rw[d2];exact t2) prog w A R _ #[hl,hb,h]
     .rw[bK hac] at h;rw[m7 hac];have rc:=VB (a:=.inr a) (b:=.inr c) A.in1 #[hp,g,d,tk,os] r1 r2 rfl prog w;wp_walk using oh hl,oh hb;rw[i1,i2];wp_walk using rc;have h:R (.ok (.ret (.bool (kLt (ju a) (ju c))))) ⟨hp,g,d,tk,os⟩:=h;simpa using h
termination_by ns=>ns.length
theorem amS(l b:az)(items items2:Array aG)(n n2:Nat)(e c:Option az)(sl a:Array (Option aG))(ns ms:009)(h1:Vals (ns.map V.str) items.toList)(h2:Vals (ms.map V.str) items2.toList):
  Meets (rA.«list.__lt__» #[[.ref l,.ref b],[]])
   (λ_ R s=>s.heap.get? l=aa {cls:=.type "list",dict:=e,data:=.seq items n,slots:=sl}/\s.heap.get? b=aa {cls:=.type "list",dict:=c,data:=.seq items2 n2,slots:=a}/\R (.ok (.ret (.bool (ie ns ms)))) s):=by
 intro prog w A R s h
 obtain⟨f,d,h⟩:=h
 have g:=AutoSeq1.sub_list_list;wp_walk using oh f,oh d
 exact#[Hf plain_eq_loop _,zY entry_eq_loop (ac3 l b _ _ n n2 e _ sl a ns ms 0 (jJ _) (jJ _) h1 h2 _ w A R _ #[f,d,h])]
end
abbrev qK:=az×List Str
def LstAt(h:cg)(r:qK):Prop:=∃aK,Vals (r.2.map V.str) aK/\h.IsList r.1 aK.toArray
theorem LstAt.keep(t:LstAt h r)(k:∀b o,h.get? b=aa o->h'.get? b=aa o):LstAt h' r:=by
 obtain⟨a,v,o,e,c⟩:=t
 exact#[a,v,o,k _ _ e,c]
def uK(aL:List qK)(i:Nat):List Str:=(aL.getD i (0,[])).2
theorem aj4(r:LstAt s.heap (a,xs))(e:LstAt s.heap (b,ys))(q:A.units<fD)(h:Q (ie xs ys) s):bf 000 A (oneLt' aq (.ref a) (.ref b)) Q E s:=by
 obtain⟨x,v,u⟩:=r
 obtain⟨k,v2,e⟩:=e
 obtain⟨⟨cls,t,data,sl⟩,i,l,n,m⟩:=id u
 obtain⟨⟨j,o,g,p⟩,f,d,n2,c⟩:=id e
 simp only at l m d c;subst l m d c;rw[oneLt'_eq];simp only[if_true];refine aJ (wpAny_cRoomFor q ?_);have T1:s.TypeIs (.ref a) "list":=#[_,i,rfl]
 refine aJ (wpAny_callSpecialIfBound?_slot T1 ah0 (abx ah0 T1 PySem.F.entry_list_lt (PySem.F.args_list_lt_2 _ _) (amS a b _ _ n n2 t _ sl _ xs ys v v2) #[i,f,?_]));exact zV h
theorem abG:∀(aL:List qK),Vals (aL.map λr=>V.ref r.1) (aL.map λr=>fj r.1)
 |[]=>.nil
 |r::aL=>.cons rfl (abG _)
theorem map_inj{α β:Type}{f:α->β}(c:∀a b,f a=f b->a=b):∀{xs ys:List α},xs.map f=ys.map f->xs=ys
 |[],[],_=>rfl
 |x::xs,y::ys,h=>by
  rw[cM,cM] at h;injection h with h1 h2
  rw[c _ _ h1,map_inj c h2]
 |[],_::_,h=>by cases h
 |_::_,[],h=>by cases h
theorem aaU(z:X.A.units+4<fD):gF X (.builtin "sorted") (λxs H Q=>∃(p:az)(aL:List qK),xs=[.ref p]/\b7 X.K H p (aL.map λr=>V.ref r.1)/\aL.length<64/\(∀r∈aL,H r.1=aa (.lst (r.2.map V.str)))/\
  ∀(l:az)(rows':List qK),H l=ao->rows'.Perm aL->(rows'.map (·.2)).Pairwise (λa b=>ie b a=aH)->Q (.ref l) (upd H l (.lst (rows'.map λr=>V.ref r.1)))):=by
 intro aA s σ H xs us Q I r h
 obtain⟨p,aL,rfl,g,n,N,q⟩:=h
 obtain⟨u,rfl,Z⟩:=vals1 r
 cases(Z)
 obtain⟨m,t,pl,_⟩:=I.list g
 have W:m=aL.map λr=>fj r.1:=by
  rename_i J;clear q n N g pl J;induction aL generalizing m with
  |nil=>cases(t);rfl
  |cons r aL ih=>
   cases t with
   |cons a b=>
    cases(a);rw[ih _ b];rfl
 subst W;have G:∀r∈aL,LstAt s.heap r:=λr B=>by
  obtain⟨m,t,pl,_⟩:=I.list (b7.of (N r B))
  exact#[m,t,pl.isList]
 have F:∀i (hi:i<aL.length),(aL.map λr=>fj r.1).getD i nH=.ref aL[i].1:=λi hi=>by simp[wM,hi]
 have M:∀i (hi:i<aL.length),uK aL i=aL[i].2:=λi hi=>by simp[uK,wM,hi]
 have O:Ord λi j=>ie (uK aL i) (uK aL j):=⟨λa b h=>W0 h,λa b c h1 h2=>by
  cases e:ie (uK aL c) (uK aL a) with
  |false=>rfl
  |true=>rcases Yb (b:=uK aL b) e with h|h;exact aiW (h.symm.trans h2);exact aiW (h.symm.trans h1)⟩
 refine LQ (κ:=oneType') (lt:=λi j=>ie (uK aL i) (uK aL j)) (vs:=aL.map λr=>fj r.1) (Rl:=λp=>p.Pairwise λi j=>ie (uK aL j) (uK aL i)=aH) (by simpa using n) (λh2=>(an4 O aD).mono λp g=>#[g.1,?_]) (λh2=>?_) (λR Y=>?_) (λh2 s' k Q' w=>?_)
  (λh2 s' k i j hi f C w=>?_) λp D h' c tk d y L k e=>?_
 .have sz:=KP.size g.1;rw[RL];intro i j hi f K;rw[n6] at hi f;have z:=g.2 i j K (by rw[<-sz];exact f);rw[wY,wY,lV hi,lV f] at z;rw[ah1,ah1];exact z
 .rw[bC] at h2⊢
  match h:aL.length,h2 with
  |0,_=>exact .nil
  |1,_=>exact List.pairwise_singleton _ _
 .refine collect_list pl.isList (Y _ _ s.toks ?_ (λb o e=>?_) rfl)
  .rw[aaz,size_push'];lia
  .have x:b≠s.heap.objs.size:=fW (cY e);rw[aae _ _ _ _ x];exact cX _ e
 .refine kas_kind (T:=.type "list") h2 (λv S=>?_) rfl rfl w
  obtain⟨r,B,rfl⟩:=eO.mp S
  obtain⟨m,_,o,e,hc,_⟩:=(G r B).keep k
  exact λA Q E s P q=>wpAny_typeOf_ref (P _ _ e) (hc▸q)
 .rw[bC] at hi f;unfold kas_ask;rw[F i hi,F j f,keyLt'_oneType];rw[M i hi,M j f] at w;exact aj4 ((G _ (ym hi)).keep k) ((G _ (ym f)).keep k) (show X.A.units+1+1<_ by lia) w
 .rw[bC] at d;have pv:(p.map λi=>(aL.map λr=>fj r.1).getD i nH)=(p.map λi=>aL.getD i (0,[])).map λr=>fj r.1:=by
   rw[eZ];refine yg λi hi=>?_
   have hi:=qp.mp (d.mem_iff.mp hi);rw[F i hi];simp[wM,hi]
  rw[pv] at e;have U:(p.map λi=>aL.getD i (0,[])).Perm aL:=by
   have:=d.map λi=>aL.getD i (0,[])
   refine this.trans (List.Perm.of_eq (GP bH λi h1 h2=>?_));simp[wM,h2]
  refine#[.ref D,_,I.laid (o:=.lst ((p.map λi=>aL.getD i (0,[])).map λr=>V.ref r.1)) k L #[?_,_,c,abG _,by simpa[seqObj] using e],rfl,q D _ (I.hok.fresh L) U ?_]
  .rw[bC,bC,d.length_eq,uZ,iw];lia
  .rw[eZ,K7];exact y
def zf:List aB->Option (List (List Str))
 |[]=>aa []
 |.list ds::r=>(strsOf ds).bind λa=>(zf r).map λt=>a::t
 |_=>ao
def sD(a:009):aB:=.list (a.map .str)
theorem Js:∀l:List (List Str),zf (l.map sD)=aa l
 |[]=>rfl
 |a::l=>by
  have h:strsOf (a.map .str)=aa a:=by
   induction a with
   |nil=>rfl
   |cons x a ih=>rw[cM];unfold strsOf;rw[ih]
  show(strsOf (a.map .str)).bind (λa=>(zf (l.map sD)).map λt=>a::t)=_
  rw[h,Js l];rfl
theorem M6:∀{ds:016}{l:List (List Str)}{vs:012},zf ds=aa l->cF E ds vs->∃aL:List qK,aL.map (·.2)=l/\vs=(aL.map λr=>V.ref r.1)/\∀r∈aL,E r.1=aa (.lst (r.2.map V.str))
 |[],l,vs,h,r=>by
  cases h
  cases(show vs=[] from r)
  exact#[[],rfl,rfl,λ_ m=>nomatch m]
 |d::ds,l,vs,h,r=>by
  obtain⟨v,ws,rfl,k,g⟩:=r
  cases d<;>first|cases h|skip
  rename_i es
  obtain⟨a,h1,h⟩:=bW h
  obtain⟨t,j,h⟩:=lW.mp h
  cases h
  obtain⟨aL,e,n,i⟩:=M6 j g
  obtain⟨b,us,rfl,c,f⟩:=k
  rw[Ib h1 f] at c
  refine#[(b,a)::aL,by rw[cM,e],by rw[n];rfl,λr m=>?_]
  rcases cC.mp m with rfl|m
  .exact c
  .exact i r m
theorem aeg:∀{aL:List qK},(∀r∈aL,E r.1=aa (.lst (r.2.map V.str)))->cF E (aL.map λr=>sD r.2) (aL.map λr=>V.ref r.1)
 |[],_=>rfl
 |r::aL,h=>#[_,_,rfl,#[r.1,_,rfl,h r cR,Mz _],aeg λq m=>h q (dI _ m)]
def yz:List aB->Option Vl
 |[.list ds]=>(zf ds).bind λl=>if l.length<64 then aa (.ow (.list ((dW ie l).map sD))) else ao
 |_=>ao
theorem ab8{K:aU}:j8 K (λxs H Q=>∃(p:az)(aL:List qK),xs=[.ref p]/\b7 K H p (aL.map λr=>V.ref r.1)/\aL.length<64/\(∀r∈aL,H r.1=aa (.lst (r.2.map V.str)))/\
  ∀(l:az)(rows':List qK),H l=ao->rows'.Perm aL->(rows'.map (·.2)).Pairwise (λa b=>ie b a=aH)->Q (.ref l) (upd H l (.lst (rows'.map λr=>V.ref r.1)))) yz:=by
 intro Z Θ aj C σ H xs ds res S b e Q q;unfold yz at e;refine hide λt o=>?_
 split at e
 case h_2=>cases e
 obtain⟨l,j,e⟩:=bW e
 split at e
 case isFalse=>cases e
 rename_i c;cases e
 obtain⟨v,rfl,s⟩:=nR b
 obtain⟨a,vs,rfl,i,r⟩:=s.lst
 obtain⟨aL,h,n,d⟩:=M6 j r
 subst h n;refine o #[a,aL,rfl,b7.of i,by simpa using c,λr m=>gW (d r m),λp rows' g f up=>?_];have es:rows'.map (·.2)=dW ie (aL.map (·.2)):=Aw YH (λ_ _=>trivial) (f.map _) up;refine q _ _ (bh.upd g) ?_;have k:(dW ie (aL.map (·.2))).map sD=rows'.map λr=>sD r.2:=by rw[<-es,eZ];rfl
 rw[k];exact o7 S (aeg λr m=>d r (f.mem_iff.mp m)) g
theorem alz(d:LstAt s.heap (l,ns))(c:LstAt s.heap (b,ms))(k:l=b->ns=ms)(j:A.units<fD):wJ A s (.ref l) (.ref b) (decide (ns=ms)):=by
 obtain⟨p,n,d⟩:=d
 obtain⟨m,v2,c⟩:=c
 have f:=n.length;have o:=v2.length;rw[bC] at f o;by_cases e:ns.length=ms.length
 .have g:∀ns:List Str,(ns.map (ju:Str->Key)).map kV=ns.map V.str:=λns=>by rw[eZ];rfl
  have h:=alj (ns:=ns.map ju) (ms:=ms.map ju) d c (by rw[g];exact n) (by rw[g];exact v2) (by
   rw[eZ,eZ];refine GP (by simpa using e) λi h1 h2=>?_
   simp[dz]) (λz=>by rw[k z]) j
  have:decide (ns.map (ju:Str->Key)=ms.map ju)=decide (ns=ms):=decide_eq_decide.mpr #[λh=>map_inj (λa b h=>LR h) h,λh=>by rw[h]]
  rwa [this] at h
 .have ne:l≠b:=λz=>e (by rw[k z])
  rw[m7 λz=>e (by rw[z])];refine KR ne (SeqAt.RcAt.lists_lengths d c ?_ j);simp only[oX,bne_iff_ne,ne_eq];intro z;exact e (by rw[f,o,z])
def vQ(H:Hp)(zs:009):aG->Bool
 |.ref a=>match H a with
  |some (.lst vs)=>decide (vs=zs.map V.str)
  |_=>aH
 |_=>aH
abbrev Zg(K:aU)(neg:Bool):R2:=λx y H Q=>∃(p l:az)(zs:List Str)(aL:List qK),x=.ref p/\y=.ref l/\H p=aa (.lst (zs.map V.str))/\b7 K H l (aL.map λr:qK=>V.ref r.1)/\(∀r∈aL,H r.1=aa (.lst (r.2.map V.str)))/\Q (.bl (aL.any (λr=>decide (r.2=zs)) != neg)) H
theorem W2{X:Cx}{σ:St}{H:Hp}{k:Nat}(g:dZ k X.A)(I:06){p:az}(f:H p=aa (.lst (zs.map V.str))):∀{aL:List qK}{us:014},Vals (aL.map λr=>V.ref r.1) us->(∀r∈aL,H r.1=aa (.lst (r.2.map V.str)))->
  us.any (vQ H zs)=aL.any (λr=>decide (r.2=zs))/\∀u∈us,wJ X.A.in1 s u (.ref p) (vQ H zs u)
 |[],_,v,_=>by cases v;exact#[rfl,λ_ m=>nomatch m]
 |r::aL,_,v,h=>by
  cases v with
  |@cons _ u _ us r1 v=>
   cases r1;have c:=h r cR;have un:X.A.in1.units<fD:=by have:=g.units;show X.A.units+1<_;lia
   obtain⟨i,j⟩:=W2 g I f v λq m=>h q (dI _ m)
   have inj:(r.2.map V.str=zs.map V.str)↔r.2=zs:=#[λe=>map_inj (λa b h=>by cases h;rfl) e,λe=>by rw[e]]
   have e1:vQ H zs (.ref r.1)=decide (r.2=zs):=by
    unfold vQ;dsimp only;rw[c];exact decide_eq_decide.mpr inj
   obtain⟨o,l,p1,_⟩:=I.list (b7.of c)
   obtain⟨n,v2,p2,_⟩:=I.list (b7.of f)
   refine#[by rw[yt,yt,e1,i],λu d=>?_]
   rcases cC.mp d with rfl|d
   .rw[e1];exact alz ⟨o,l,p1.isList⟩ ⟨n,v2,p2.isList⟩ (λz=>by
     rw[z,f] at c;injection c with c
     injection c with c
     exact(inj.mp c.symm)) un
   .exact j u d
theorem afc(c:dZ k X.A):dR X (gG .In) (Zg X.K aH):=by
 intro aA s σ H x y v u Q I rx i h
 obtain⟨p,l,zs,aL,rfl,rfl,d,g,a,q⟩:=h
 cases i;cases rx
 obtain⟨b,r,pl,j⟩:=I.list g
 obtain⟨f,e⟩:=W2 c I d r a
 refine ai2 (vQ H zs) pl.isList (λw a=>e w (by simpa using a)) #[.bl _,H,I,rfl,?_];rw[show b.toArray.any (vQ H zs)=b.any (vQ H zs) by simp,f];simpa using q
theorem ab9(c:dZ k X.A):dR X (gG .NotIn) (Zg X.K aq):=by
 intro aA s σ H x y v u Q I rx i h
 obtain⟨p,l,zs,aL,rfl,rfl,d,g,a,q⟩:=h
 cases i;cases rx
 obtain⟨b,r,pl,j⟩:=I.list g
 obtain⟨f,e⟩:=W2 c I d r a
 refine aim (vQ H zs) pl.isList (λw a=>e w (by simpa using a)) #[.bl _,H,I,rfl,?_];rw[show b.toArray.any (vQ H zs)=b.any (vQ H zs) by simp,f];simpa using q
def rO(neg:Bool):aB->aB->Option Vl
 |.list es,.list ds=>(strsOf es).bind λzs=>(zf ds).map λl=>.im (.bool (l.any (λa=>decide (a=zs)) != neg))
 |_,_=>ao
theorem Oz{K:aU}:jb K (Zg K neg) (rO neg):=by
 intro Z Θ aj C σ H x y dx t res S g j e Q q;unfold rO at e;split at e
 case h_2=>cases e
 rename_i es ds
 obtain⟨zs,i,e⟩:=bW e
 obtain⟨l,k,e⟩:=lW.mp e
 cases e
 obtain⟨p,s,rfl,b,o⟩:=g
 rw[Ib i o] at b
 obtain⟨a,vs,rfl,f,r⟩:=j
 obtain⟨aL,c,n,h⟩:=M6 k r
 subst c n
 refine#[p,a,zs,aL,rfl,rfl,gW b,b7.of (gW f),λr m=>gW (h r m),?_]
 have:=q _ _ 003 (iQ (d:=.bool ((aL.map (·.2)).any (λa=>decide (a=zs)) != neg)) S rfl rfl);rw[ajO] at this;exact this
theorem amT(w:011):gF X (.builtin "any") (λxs H Q=>∃(p:az)(bs:List Bool),xs=[.ref p]/\b7 X.K H p (bs.map V.bl)/\Q (.bl (bs.any id)) H):=by
 intro aA s σ H xs us Q I r h;refine hide λC y=>?_
 obtain⟨p,bs,rfl,o,q⟩:=h
 obtain⟨u,rfl,t⟩:=vals1 r
 cases t
 obtain⟨z,j,pl,_⟩:=I.list o
 have f:=pl.isList;have m:=Vw j;subst m;have d:p<s.heap.objs.size:=by obtain⟨_,e,_⟩:=f;exact cY e
 refine y (PySem.call_any_walk (aaj f ⟨s.heap.objs.size,[s.heap.objs.size,p],[s.heap.objs.size],(bs.map j5).toArray.size,_,_,λi=>(bs[i]?).getD aH,rfl,akl (A:=X.A.in1) (I.ok.hd w) _ p (fW d) (bs.map j5).toArray,
  ⟨⟨_,fV _ rfl,rfl,rfl⟩,f.push _⟩,λi v s' Q' E' n g=>?_,λh' B k=>?_⟩))
 .have a:(bs.map j5)[i]?=aa v:=by simpa using n
  rw[jr] at a;cases e:bs[i]? with
  |none=>rw[e] at a;cases a
  |some b=>
   rw[e] at a;cases a;simp only[e] at g;exact zV g
 .have e:((gj (bs.map j5).toArray.size).any λi=>(bs[i]?).getD aH)=bs.any id:=by
   have:(bs.map j5).toArray.size=bs.length:=bH;rw[this,wC,SM,SM];constructor
   .rintro⟨i,hi,h⟩
    have c:=qp.mp hi;rw[qR c] at h
    exact#[_,ym c,h]
   .rintro⟨b,hb,h⟩
    obtain⟨i,hi,rfl⟩:=KH hb
    exact#[i,qp.mpr hi,by rw[qR hi];exact h]
  rw[e]
  refine#[.bl _,H,I.kept λb x e=>k b x (λl=>?_) (cX _ e),rfl,q]
  rw[gB.mp l] at e;exact wG _ (cY e)
def JP:List aB->Option Vl
 |[.list ds]=>(boolsOf ds).map λbs=>.im (.bool (bs.any id))
 |_=>ao
theorem aqn{K:aU}:j8 K (λxs H Q=>∃(p:az)(bs:List Bool),xs=[.ref p]/\b7 K H p (bs.map V.bl)/\Q (.bl (bs.any id)) H) JP:=by
 intro Z Θ aj C σ H xs ds res S b e Q q;unfold JP at e;refine hide λh f=>?_
 split at e
 case h_2=>cases e
 obtain⟨bs,d,e⟩:=lW.mp e
 cases e
 obtain⟨v,rfl,g⟩:=nR b
 obtain⟨a,vs,rfl,c,r⟩:=g.lst
 rw[Va d r] at c;exact f (#[a,bs,rfl,b7.of c,q _ H 003 (iQ S rfl rfl)])
def YJ(i:Nat):FS:=λaj C=>aa (.nx,aj.set i (aa (.ce C.length)),C++[.b8 []])
theorem aoK{X:Cx}{p1 pos pos':Pos}(c:017)(hi:X.N[i]?=aa x)(e:Loc X.env.scope x)
  (b:lG (.Dict [] [] p1) (aa (.Name x pos')) pos.line X.env=pure aH:=by rfl)(a:X.fn x=aq\/X.env.scope.names.lookup x=aa .local:=by first|exact .inl rfl|exact .inr rfl|assumption):
  PS X (.Assign [.Name x pos'] (.Dict [] [] p1) pos) (tS X.K (YJ i)):=(Az c hi e acw b a).weak λD σ H aV=>by
 obtain⟨Z,Θ,aj,C,f,bw,C',S,a,q⟩:=aV
 cases(a);exact λp d=>q _ _ _ (abp S d (λ_ z=>nomatch z) #[[],.inl #[[],rfl,0,fK],rfl] (jh.refl _ _) 003 010)
def rZ{κ:Type}[DecidableEq κ](f:aB->Option κ)(k:κ):List (aB×Ci)->Option Ci
 |[]=>ao
 |p::r=>if f p.1=aa k then aa p.2 else rZ f k r
theorem afd{κ:Type}[DecidableEq κ]{f:aB->Option κ}{Θ:015}{H:Hp}{k:κ}:∀{au:List (aB×Ci)}{ks:List κ}{vs:012},cj f (au.map λp=>(p.1,j4))=aa ks->gm Θ H (au.map (·.2)) vs->
  (∃x v,rZ f k au=aa x/\iC (ks.zip vs) k=aa v/\ni Θ H x v)\/(rZ f k au=ao/\iC (ks.zip vs) k=ao)
 |[],ks,vs,a,h=>by
  cases a;exact .inr #[rfl,rfl]
 |p::r,ks,vs,a,h=>by
  obtain⟨v,t,rfl,q,s⟩:=h
  rw[cM] at a;unfold cj at a;split at a
  case h_2=>cases a
  rename_i b e e1 e2;cases a;have e1:f p.1=aa b:=e1;rw[yh];by_cases c:b=k
  .subst c;refine .inl #[p.2,v,?_,HY rfl,q];unfold rZ;rw[bG e1]
  .have d:rZ f k (p::r)=rZ f k r:=by
    conv=>lhs;unfold rZ
    rw[bK λz=>c (lY (e1.symm.trans z))]
   rw[d,H9 c];exact afd e2 s
def vR:Option Cl->Option (List (aB×Ci))
 |some (.b8 au)=>if(cj iJ (au.map λp=>(p.1,j4))).isSome then aa au else ao
 |_=>ao
theorem W3(h:vR o=aa au):o=aa (.b8 au)/\∃ks,cj iJ (au.map λp=>(p.1,j4))=aa ks:=by
 unfold vR at h;split at h
 .split at h
  .rename_i a;cases h
   exact#[rfl,uY.mp a]
  .cases h
 .cases h
theorem lR.vR(h:lR Θ H a (.b8 au))(b:cj iJ (au.map λp=>(p.1,j4))=aa ks):
  ∃vs,gm Θ H (au.map (·.2)) vs/\((au≠[]/\∃ep,H a=aa (.dT (ks.zip vs) ep))\/(au=[]/\∃ep,H a=aa (.dK [] ep))):=by
 obtain⟨vs,c,d⟩:=h
 refine#[vs,d,?_]
 rcases c with⟨ks',h5,ep,ha⟩|⟨ks',⟨ne,h6⟩,ep,ha⟩
 .have:=vp h5 b;have e:au=[]:=List.map_eq_nil_iff.mp this;subst e;cases h5;exact .inr #[rfl,ep,ha]
 .rw[b] at h6;cases h6;exact .inl #[λz=>ne (by rw[z];rfl),ep,ha]
theorem V9{f:aB->Option κ}{k:κ}(a:f d=aa k):∀{l:List (aB×aB)}{ks:List κ},cj f l=aa ks->cj f (l++[(d,.none)])=aa (ks++[k])
 |[],ks,h=>by
  cases h;show cj f [(d,.none)]=aa [k];unfold cj;rw[a];rfl
 |p::l,ks,h=>by
  unfold cj at h;split at h
  case h_2=>cases h
  rename_i b t e1 e2;cases h;rw[j9];unfold cj;rw[e1,V9 a e2];rfl
def J1(m:Nat)(fe:FE):FS:=λaj C=>(fe aj C).bind λq=>(zP q.1).bind λx=>(kW q.2.2[m]?).bind λxs=>if xs.length<eE then aa (.nx,q.2.1,q.2.2.set m (.lst (xs++[x]))) else ao
def Cg(i:Nat)(fk:FB)(fe:FE):FS:=λaj C=>match aj[i]? with
 |some (some (.ce n))=>(vR C[n]?).bind λ_=>(fk aj C).bind λp=>(vR p.2.2[n]?).bind λau=>(iJ p.1).bind λks=>if au.length<eE then match rZ iJ ks au with
  |some (.cD m)=>(kW p.2.2[m]?).bind λ_=>J1 m fe p.2.1 p.2.2
  |some (.dat _)=>ao
  |none=>J1 p.2.2.length fe p.2.1 (Am (p.2.2++[Cl.lst []]) n (Cl.b8 (au++[(p.1,Ci.cD p.2.2.length)])))
  else ao
 |_=>ao
theorem aqo{X:Cx}{fk:FB}{fe:FE}{p1 G F apos cpos pos:Pos}(hu:X.A.units+2<fD)(ho:PE X o (jx i))(he:PE X e (fM X.K fk))(g:PE X f (tE X.K fe))(m:M2 X o "setdefault" G e (.List [] p1) F)
  (hs0:lG (.Call (.Attribute (.Call (.Attribute o "setdefault" G) [e,.List [] p1] [] F) "append" apos) [f] [] cpos) ao pos.line X.env=pure aH:=by rfl)
  (t:sE (.Call (.Attribute o "setdefault" G) [e,.List [] p1] [] F) "append" X.env (eval (.Call (.Attribute o "setdefault" G) [e,.List [] p1] [] F) X.env)=eval (.Call (.Attribute o "setdefault" G) [e,.List [] p1] [] F) X.env:=by rfl)
  (I:((eN cpos (bI [f] X.env)).all (λx=>!x.1)&&(pN cpos (pL [] X.env)).all (λx=>x.1.isSome)
   &&decide (([f]:List Expr).length+([]:List pP).length+(if([]:List pP).isEmpty then 0 else 1)<30))=aq:=by rfl)
  (r:(apos.endLine==cpos.line)=aq:=by rfl)(hs:bI [f] X.env=(aH,eval f X.env)::bI [] X.env:=by rfl)(hplain:(eN cpos (bI [] X.env)).any (·.1)=aH:=by rfl):
  PS X (.Expr (.Call (.Attribute (.Call (.Attribute o "setdefault" G) [e,.List [] p1] [] F) "append" apos) [f] [] cpos) pos) (tS X.K (Cg i fk fe)):=
 (Aq (Ew Kz KZ RQ (uO.r HD) (aqg hu ho he (XC pR) m) (pO g pR hs) t I r hs hplain) hs0).weak λD σ H aV=>by
  obtain⟨Z,Θ,aj,C,fl,bw,C',S,g,q⟩:=aV
  unfold Cg at g;split at g
  case h_2=>cases(g)
  rename_i n h0
  obtain⟨aud,h00,g⟩:=bW g
  obtain⟨⟨dk,e1,C1⟩,h1,g⟩:=bW g
  obtain⟨au,h2,g⟩:=bW g
  obtain⟨ks,V,g⟩:=bW g
  dsimp only at h2 V g;split at g
  case isFalse=>cases(g)
  rename_i lt
  obtain⟨h4,js,T⟩:=W3 h2
  obtain⟨h5,js0,hk0⟩:=W3 h00
  obtain⟨v0,ev,a,rfl,j⟩:=S.slot i _ h0
  refine#[_,ev,a,rfl,?isd,Z,Θ,aj,C,dk,e1,C1,S,h1,λy H1 Y f1 U b1=>#[jJ _,λp u=>?_]]
  case isd=>
   obtain⟨rQ,_,at0⟩:=(S.cell.at_ n a _ j h5).vR hk0
   rcases at0 with⟨_,h⟩|⟨_,h⟩
   .exact .inr #[_,rdT h]
   .exact .inl #[_,Rt h]
  have J:∀{m:Nat}{A:az}{xs0:List Ci}{Θ2:015}{C2:Ce}{H2:Hp},fH X.K Z Θ aj σ H Θ2 e1 C2 σ H2->Θ2[m]?=aa A->kW C2[m]?=aa xs0->J1 m fe e1 C2=aa (fl,bw,C')->
    Rp X.K "list" (.ref A) H2/\O7 (tE X.K fe) BJ σ H2 λxs R=>Ws (.ref A) xs R λx H4=>D.nx σ H4:=λ{m A xs0 Θ2 C2 H2} st t2 W g=>by
   obtain⟨⟨r2,e3,C3⟩,K,g⟩:=bW g
   obtain⟨x,hx,g⟩:=bW g
   obtain⟨xs,hl,g⟩:=bW g
   dsimp only at hx hl g;split at g
   case isFalse=>cases(g)
   rename_i tR;cases(g)
   obtain⟨rQ,ha0,_⟩:=st.sm.cell.at_ m A _ t2 (wR W)
   refine#[.inl #[rfl,_,b7.of ha0],Z,Θ2,_,_,_,_,_,st.sm,K,λw R k3 f3 R3=>?_]
   obtain⟨B,it⟩:=X7 hx R3
   obtain⟨vs,N,E⟩:=B.cell.at_ m A _ t2 (wR hl)
   refine#[A,vs,w,rfl,rfl,N,by rw[E.len,iw];unfold eE at tR;lia,?_]
   have Q:=jY t2;exact q Θ2 σ _ (st.trans (fH.qO (k3.trans (bh.cell Q)) f3 (B.X6 t2 (E.app #[w,[],rfl,it,rfl]))))
  obtain⟨b,hb,rfl⟩:=VJ V b1
  obtain⟨vs,E,at_⟩:=(U.cell.at_ n a _ j h4).vR T
  have Q:=jY j;have P:jO (upd H1 p (.lst [])) b ks:=hb.mono λc xs e=>by rwa [c7 (sI e u)]
  have O:a≠p:=λz=>(U.cell.dom a Q).ne (by rw[z];exact u)
  have l1:=sS T;have W:=E.len;simp only[bC] at l1 W;have S2:=U.push u (.lst []) λ_ z=>nomatch z
  have cl:=U.cell.len;have B:Sm X.K Z (Θ++[p]) e1 (C1++[.lst []]) σ (upd H1 p (.lst [])):=S2.vC (c:=.lst []) #[[],fK,rfl];have M:∀o,(∀H':Hp,(∀a vs,upd H1 p (.lst []) a=aa (.tup vs)->H' a=aa (.tup vs))->H' a=aa o->lR (Θ++[p]) H' a (.b8 (au++[(dk,.cD C1.length)])))->rZ iJ ks au=ao->
    Rp X.K "list" (.ref p) (upd (upd H1 p (.lst [])) a o)/\O7 (tE X.K fe) BJ σ (upd (upd H1 p (.lst [])) a o) λxs R=>Ws (.ref p) xs R λx H4=>D.nx σ H4:=λo hc no=>by
   rw[no] at g;have L:(Θ++[p])[n]?=aa a:=rD n a j;have S4:=B.go (bh.cell (jY L) (o:=o)) (B.cell.write B.cQ.2.1 L hc);have nn:n≠C1.length:=λz=>by rw[z,cl,Gs (bQ _)] at j;cases(j)
   refine J (m:=C1.length) (xs0:=[]) (Θ2:=Θ++[p]) #[#[[p],rfl,λc m=>by rw[gB.mp m];exact Y.none u],o8 ((Y.trans (bh.upd u)).trans (bh.cell Q)),λc m=>.inl (f1.own.subset m),S4] (by rw[cl];simp) ?_ g;rw[qT nn];simp[kW]
  rcases at_ with⟨ne,ep,N⟩|⟨rfl,ep,N⟩
  .refine#[b,ks,rfl,P,.inl #[_,ep,by rw[c7 O];exact N,by rw[G4,iw];unfold eE at lt;lia,?_]]
   rcases afd (k:=ks) T E with⟨x,v,K,g2,g3⟩|⟨K,g2⟩
   .rw[K] at g;cases x with
    |dat d=>cases(g)
    |cD m=>
     obtain⟨xs0,hx0,g⟩:=bW g
     obtain⟨b2,rfl,hb2⟩:=g3
     exact .inl #[_,g2,J (fH.qO (Y.trans (bh.upd u)) f1 S2.pop) hb2 hx0 g]
   .refine .inr #[g2,λe=>M _ (λH' kt s=>#[vs++[.ref p],.inr #[js++[ks],#[?_,?_],e,?_],?_]) K]
    .cases au with
     |nil=>exact absurd rfl ne
     |cons _ _=>simp
    .rw[jH];exact V9 V T
    .rw[s,ai8 (by rw[l1,W])];rfl
    .rw[jH]
     exact((E.keep (λa ws h=>kt _ _ (cT.upd u _ _ h)) rD).app #[_,[],rfl,#[p,rfl,by rw[cl];simp],rfl])
  .refine#[b,ks,rfl,P,.inr #[ep,by rw[c7 O];exact N,λe=>M _ (λH' kt s=>#[[.ref p],.inr #[[ks],#[bH,V9 (l:=[]) V rfl],e,s],#[_,[],rfl,#[p,rfl,by rw[cl];simp],rfl]]) rfl]]
theorem amU(d:az)(lo:(d==oY)=aH):MeetsIn prog w (rA.«dict.values» ⟨[.ref d],[]⟩) (λ_ R s=>(∃es ep,pB s.heap d es ep)/\
  R (.ok (.ret (.ref s.heap.objs.size))) {s with heap:=s.heap.push {cls:=.type "dict_values",data:=.fields #v[.ref d]}}):=.of_wp λA R s ⟨⟨_,_,r⟩,h⟩=>by
 refine aJ ?_;unfold at6;refine aJ (Z9 r.ty ?_);show bf _ _ (pure d) _ _ s;refine bu ?_;show bf _ _ (R4 d >>= _) _ _ s;unfold R4;rw[bK (by rw[lo];exact lC)];refine aJ (bu ?_);exact aJ (nF (bu #[_,rfl,h]))
theorem aoL(e:s.heap.IsValuesView v d)(j:pB s.heap d es ep)
  (h:Q (.ref s.heap.objs.size) {s with heap:=s.heap.push {cls:=.type "dict_valueiterator",data:=.fields #v[.ref d,.int 0 0,.int es.size 0,.int ep 0]}}):
  bf 000 A (wW (.ref v)) Q E s:=by
 obtain⟨k,f,i,c⟩:=id e
 obtain⟨o,g,l,a⟩:=id j
 refine Sw e.typeIs ahG (mO ahG e.typeIs F.entry_dict_values_iter ?_ (F.args_dict_values_iter_1 _));unfold rA.«dict_values.__iter__»;refine aJ (bu ?_);refine aJ ?_;unfold atH;refine aJ (T9 f c (x:=.ref d) rfl (bu ?_));refine aJ ?_;unfold ato;refine aJ (Df g a ?_);refine aJ (G3 g a ?_);have b:RJ "dict_valueiterator"=aH:=aP;simp only[b,zU,if_false];refine nF (bu #[_,rfl,"dict_valueiterator",_,#[_,fV _ rfl,rfl],F.slot_dict_valueiterator_next.lookup,?_]);simpa[jm] using h
theorem aoM(a:s.heap.IsValIter it d i es.size ep)(m:pB s.heap d es ep)(j:i<es.size)
  (k:∀h',h'.IsValIter it d (i+1) es.size ep->qW it s.heap h'->Q (aa es[i].val) {s with heap:=h'}):bf 000 A (qu (.ref it)) Q E s:=by
 obtain⟨o,h,n,g⟩:=id a
 obtain⟨p,e,l,c⟩:=id m
 unfold qu;refine aJ (Ab (wz (name:=aO "__next__") a.typeIs Rz
  (mO Rz a.typeIs ahs ?_ (ahr _))))
 refine aJ (bu ?_);refine aJ ?_;refine aJ ?_
 first|refine aJ (RC a.typeIs (bu ?_))|refine aJ (RT a.typeIs (bu ?_))
 refine aJ (zZ h g ?_);have f:RJ "dict_valueiterator"=aH:=aP;simp only[f,zU,if_false];show bf _ _ (if(fj d==nH)=aq then _ else _) _ _ s;rw[bK (show ¬((fj d==nH)=aq) from lC)];refine aJ (bu ?_);refine aJ (Df e c ?_);rw[bK bH];refine aJ (bu ?_);refine aJ (G3 e c ?_);rw[bK bH];refine bu ?_;simp only[show ¬((i:Int)<0) from by lia,if_false,Gz,lV j];refine aJ ?_
 first|refine aJ (RC a.typeIs (bu ?_))|refine aJ (RT a.typeIs (bu ?_))
 refine aJ (aab a.typeIs ?_);show bf _ _ (Vy (.ref it) 1 (jm ((i:Int)+1)) >>= _) _ _ s;refine aJ (wF h g bH ?_);have b:(s.heap.update it (Ls (·.setIfInBounds 1 (jm ((i:Int)+1))))).IsValIter it d (i+1) es.size ep:=
  #[_,zR _ h (aaa (Gw g _)),(aao ..).trans n,by rw[Gw g];simp[jm]]
 refine aJ (pJ ?_);refine aJ (aab (s:={s with heap:=s.heap.update it (Ls (·.setIfInBounds 1 (jm ((i:Int)+1))))}) b.typeIs ?_);refine aJ (aab (s:={s with heap:=s.heap.update it (Ls (·.setIfInBounds 1 (jm ((i:Int)+1))))}) b.typeIs ?_);show bf _ _ (pure es[i].val) _ _ _;exact bu (bu #[_,rfl,bu (k _ b (oU ..))])
theorem aqp(q:A.handled=ao)(c:s.heap.IsValIter it d i es.size ep)(p:pB s.heap d es ep)(h:es.size<=i)
  (l:∀h',aj0 it s.heap h'->Q ao {s with heap:=h'}):bf 000 A (qu (.ref it)) Q E s:=by
 obtain⟨o,j,t,k⟩:=id c
 obtain⟨r,f,n,e⟩:=id p
 unfold qu;refine aJ (Ab (wz (name:=aO "__next__") c.typeIs Rz
  (mO Rz c.typeIs ahs ?_ (ahr _))))
 refine aJ (bu ?_);refine aJ ?_;refine aJ ?_
 first|refine aJ (RC c.typeIs (bu ?_))|refine aJ (RT c.typeIs (bu ?_))
 refine aJ (zZ j k ?_);have g:RJ "dict_valueiterator"=aH:=aP;simp only[g,zU,if_false];show bf _ _ (if(fj d==nH)=aq then _ else _) _ _ s;rw[bK (show ¬((fj d==nH)=aq) from lC)];refine aJ (bu ?_);refine aJ (Df f e ?_);rw[bK bH];refine aJ (bu ?_);refine aJ (G3 f e ?_);rw[bK bH];refine bu ?_;simp only[show ¬((i:Int)<0) from by lia,if_false,Gz,Z6 h];refine aJ ?_
 first|refine aJ (RC c.typeIs (bu ?_))|refine aJ (RT c.typeIs (bu ?_))
 show bf _ _ (Vy (.ref it) 0 .none >>= _) _ _ s;refine aJ (wF j k bH ?_);show bf _ _ (newExc (.type "StopIteration") [] >>= _) _ _ _;refine aJ ?_;simp only[newExc,newTuple];refine aJ (nF ?_ (by size_fits));refine aJ (m:=G8 _ _) (Uc (a:=nH) (by first|rfl|(simp only[G8];rfl)) ?_);refine nF ?_ (by size_fits);simp only[raiseNew];refine aJ (aa1 ?_);rw[show A.in1.handled=ao from q];refine aJ (bu (abl ?_));refine aJ (GF (T:="StopIteration") (b:=aq) #[_,fV _ rfl,rfl] aaP ?_);exact bu (l _ (((oU ..).extBut.push _).push _))
theorem amV(m:A.handled=ao)(j:d≠it):Walks prog w A it [it,d] [it] es.size (λi v=>(es[i]?).map (·.val)=aa v) (λi h=>h.IsValIter it d i es.size ep/\pB h d es ep) where
 sub:=λb g=>by grind
 frame:=λ_ _ _ st l=>#[st.1.at λo e=>l it bH o e,let ⟨o,ho,r⟩:=st.2;#[o,l d bH o ho,r]]
 item:=λi s Q E hi st f=>aoM st.1 st.2 hi λh' c a=>f _ h' _ 002 #[c,let ⟨o,ho,r⟩:=st.2;#[o,(a.2 d j).trans ho,r]] λb o g e=>(a.2 b λz=>g 002).trans e
 done:=λs Q E st f=>aqp m st.1 st.2 (bQ _) λh' k=>f h' _ λb o g e=>k b o (λz=>g 002) e
 self:=λ_ _ _ _ st f=>wpAny_pyIter_valiter st.1 f
theorem aqq:KdlSrc prog w "dict_values" r d es.size (λi v=>(es[i]?).map (·.val)=aa v) (λh=>h.IsValuesView r d/\pB h d es ep) where
 type:=λ_ a=>a.1.typeIs
 there:=λ_ a=>#[let ⟨_,ho,_⟩:=a.1;cY ho,let ⟨_,ho,_⟩:=a.2;cY ho]
 keep:=λ_ _ a c=>#[let ⟨o,ho,x⟩:=a.1;#[o,c r (.inl rfl) o ho,x],let ⟨o,ho,x⟩:=a.2;#[o,c d (.inr rfl) o ho,x]]
 notList:=aP
 notTuple:=aP
 hint:=λ_ _ _ _ a b=>kdl_hint_values a.1.typeIs b
 iter:=λ_ _ e a=>#[_,_,(λ_ _ b=>aoL a.1 a.2 b),amV e (let ⟨_,ho,_⟩:=a.2;fW (cY ho)),#[#[_,fV _ rfl,rfl,rfl],let ⟨o,ho,x⟩:=a.2;#[o,cX _ ho,x]]]
def qD:HO->List V
 |.dK au _=>au.map (·.2)
 |.dT au _=>au.map (·.2)
 |_=>[]
def aq6(td:TE):TE:=λσ H Q=>td σ H λx H1=>∃a o,x=.ref a/\H1 a=aa o/\Zc o/\(qD o).length<=eE/\∀p,H1 p=ao->Q (.ref p) (upd H1 p (.lst (qD o)))
theorem aoN{X:Cx}{p1 apos cpos pos1:Pos}(V:011)(O:PE X o td)(m:Gl X "list")(S:X.mg "list"=ao)
  (K:bI [.Call (.Attribute o "values" apos) [] [] cpos] X.env=(aH,eval (.Call (.Attribute o "values" apos) [] [] cpos) X.env)::bI [] X.env:=by rfl)(z:(eN pos1 (bI [] X.env)).any (·.1)=aH:=by rfl)
  (j:sE o "values" X.env (eval o X.env)=eval o X.env:=by rfl)(l:(apos.endLine==cpos.line)=aq:=by rfl):
  PE X (.Call (.Name "list" p1) [.Call (.Attribute o "values" apos) [] [] cpos] [] pos1) (aq6 td):=by
 intro aA s σ H Q I h;refine Gv (El I m S (u:=.type "list") rfl ?_);refine ZQ ?_ K z;rw[K];show bf _ _ (spliced ((aH,eval (.Call (.Attribute o "values" apos) [] [] cpos) X.env)::eN pos1 (bI [] X.env))) _ _ s;refine KY (aiK (T:="dict") (id:="dict.values") j rfl l ahF ahD PySem.F.type_dict_values (bY (O aA s σ H _ I h) λu s1 Z=>(hide λGG W=>?_)))
 obtain⟨x,H1,t,rx,a,d,ex,M,D,C,q⟩:=Z
 subst ex;obtain rfl:u=fj a:=rx
 obtain⟨lo,k,f,N,F⟩:=aqe t M D
 have E:∀b,fj a=.ref b->∃d,s1.heap.get? b=aa d/\d.dict=ao:=λb e=>by
  cases e
  obtain⟨L,e1,e2,_⟩:=f
  exact#[L,e1,e2.2.1]
 refine W #[f.ty,E,?_];show bf _ _ (yw cpos (.builtin "dict.values") [.ref a] [] []) _ _ s1;refine method_meetsIn ahD PySem.F.entry_dict_values rfl (atv #[rfl,f.ty,PySem.F.args_dict_values_1 _,_,amU a lo,#[#[_,_,f],Ss ?_]]);have G:∀b o,s1.heap.get? b=aa o->(s1.heap.push {cls:=.type "dict_values",data:=.fields #v[.ref a]}).get? b=aa o:=λb o e=>cX _ e
 have n:pB (s1.heap.push {cls:=.type "dict_values",data:=.fields #v[.ref a]}) a k (dEp d):=let ⟨o,e,r⟩:=f;#[o,G _ _ e,r]
 have sz:(s1.heap.push {cls:=.type "dict_values",data:=.fields #v[.ref a]}).objs.size=s1.heap.objs.size+1:=u5 ..;have B:(qD d).length=k.size:=by rw[N];cases d<;>first|exact D.elim|(simp[qD,agw])
 have J:k.size<=cz:=by rw[<-B,iw];unfold eE at C;lia
 refine kdl_call (s:={s1 with heap:=s1.heap.push {cls:=.type "dict_values",data:=.fields #v[.ref a]}}) aqq (t.ok.hd V) #[#[_,fV _ rfl,rfl,rfl],n] J λh' U c R P w g=>?_
 rw[sz] at w⊢;have A:Vals (qD d) c.toList:=by
  have p:c.toList.length=(qD d).length:=by rw[n6,g.1,B]
  have at_:∀i (h1:i<(qD d).length)(h2:i<c.toList.length),RelV (qD d)[i] c.toList[i]:=λi h1 h2=>by
   have hi:i<k.size:=aD;have e1:=g.2 i _ (by rw[<-Gr];exact qR h2);have e1:Option.map (λx=>x.val) k[i]?=aa c.toList[i]:=e1;rw[lV hi] at e1;have e1:k[i].val=c.toList[i]:=lY e1
   obtain⟨x,y,v,_,Y⟩:=F i k[i] (lV hi)
   have e2:(qD d)[i]?=aa y:=by
    cases d<;>first|exact D.elim|skip
    .obtain⟨v,m,_,rfl⟩:=v
     simp[qD,m]
    .obtain⟨v,b,m,_,_,rfl⟩:=v
     simp[qD,m]
   rw[qR h1] at e2;cases e2;rw[<-e1];exact Y
  clear F g w;generalize qD d=xs at p at_;generalize c.toList=us at p at_;induction xs generalizing us with
  |nil=>cases us with
   |nil=>exact .nil
   |cons _ _=>cases p
  |cons x xs ih=>cases us with
   |nil=>cases p
   |cons u us=>exact .cons (at_ 0 bH bH) (ih us (by simpa using p) λi h1 h2=>at_ (i+1) (by simpa using h1) (by simpa using h2))
 refine#[.ref (s1.heap.objs.size+1),_,t.laid (t':=U) (o:=.lst (qD d)) (λb o e=>P b o (G b o e)) (ud _) #[by rw[B];exact J,_,R,A,by simpa[seqObj] using w],rfl,q _ (t.hok.fresh (ud _))]
def Ie(i:Nat):FS:=λaj C=>match aj[i]? with
 |some (some (.ce n))=>(vR C[n]?).bind λau=>if au.length<=eE then aa (.rt (.ce C.length),aj,C++[.lst (au.map (·.2))]) else ao
 |_=>ao
theorem akC{X:Cx}{p1 apos cpos pos1 pos:Pos}(G:011)(B:PE X o (jx i))(v:Gl X "list")(F:X.mg "list"=ao)
  (I:bI [.Call (.Attribute o "values" apos) [] [] cpos] X.env=(aH,eval (.Call (.Attribute o "values" apos) [] [] cpos) X.env)::bI [] X.env:=by rfl)(k:(eN pos1 (bI [] X.env)).any (·.1)=aH:=by rfl)
  (d:sE o "values" X.env (eval o X.env)=eval o X.env:=by rfl)(e:(apos.endLine==cpos.line)=aq:=by rfl):
  PS X (.Return (aa (.Call (.Name "list" p1) [.Call (.Attribute o "values" apos) [] [] cpos] [] pos1)) pos) (tS X.K (Ie i)):=(Xv (aoN G B v F I k d e)).weak λD σ H aV=>by
 obtain⟨Z,Θ,aj,C,L,bw,C',S,b,q⟩:=aV
 unfold Ie at b;split at b
 case h_2=>cases(b)
 rename_i n A
 obtain⟨au,h2,b⟩:=bW b
 split at b
 case isFalse=>cases(b)
 rename_i r;cases(b)
 obtain⟨K,js,t⟩:=W3 h2
 obtain⟨M,E,a,rfl,l⟩:=S.slot i _ A
 obtain⟨vs,s,at_⟩:=(S.cell.at_ n a _ l K).vR t
 have x:=sS t;have j:=s.len;simp only[bC] at x j;have ex:∃o,H a=aa o/\Zc o/\qD o=vs:=by
  rcases at_ with⟨ne,ep,f⟩|⟨rfl,ep,f⟩
  .refine#[_,f,trivial,?_]
   show(js.zip vs).map (·.2)=vs
   rw[aay aD]
  .refine#[_,f,trivial,?_]
   show[]=vs
   cases vs<;>first|rfl|cases(j)
 obtain⟨w,f,J,u⟩:=ex
 refine#[_,E,a,w,rfl,f,J,by rw[u,j];exact r,λp g=>?_]
 rw[u];have cl:=S.cell.len;have y:=(S.push g (.lst vs) λ_ z=>nomatch z).vC (c:=.lst (au.map (·.2))) #[vs,fK,s.keep (λ_ _ h=>cT.upd g _ _ h) rD];exact q (Θ++[p]) _ _ #[#[[p],rfl,λc m=>by rw[gB.mp m];exact g],o8 (bh.upd g),y.none,p,rfl,by rw[cl];simp]
def Zh:Vl->Bool
 |.im d=>fU d
 |.ce _=>aq
 |_=>aH
def Rf:Vl->Option (List (List Str))
 |.ow (.list ds)=>zf ds
 |_=>ao
theorem aoO(h:Rf r=aa l):∃ds,r=.ow (.list ds)/\zf ds=aa l:=by
 unfold Rf at h;split at h
 .exact#[_,rfl,h]
 .cases h
def tW(a:009):Bi:=.lst (a.map .str)
def Qs(i:Nat)(f:FN)(g:FA):FS:=λaj C=>(g aj C).bind λa=>if a.1.all Zh=aq then(f a.1 a.2.2).bind λr=>(Rf r.1).bind λl=>if l.Nodup then aa (.nx,a.2.1.set i (aa (.ce (mG (l.map tW) r.2).2.length)),(mG (l.map tW) r.2).2++[.lst (mG (l.map tW) r.2).1]) else ao else ao
section
variable{K:aU}{aj:En}{σ:St}{H H':Hp}
theorem Sm.aqr{bs:015}(S:09)(h:bs.Nodup)(f:∀b∈bs,H b=lZ/\NT (H' b))(k:bh Θ H H')(c:gP Θ C' H'):Sm K (bs++Z) Θ aj C' σ H':=by
 have mem:∀a,a∈bF (bs++Z) Θ aj σ->a∈bF Z Θ aj σ\/H a=lZ:=λa m=>by
  rcases iy.mp m with m|m
  .rcases dU.mp m with m|m
   .exact .inr (f a m).1
   .exact .inl (iy.mpr (.inl m))
  .exact .inl (iy.mpr (.inr m))
 have sm:=jN k S.qN mem;have cQ:=S.cQ
 refine#[S.len,?_,λb m=>?_,λi x e=>?_,c]
 .show((bs++Z)++(Θ++cB aj σ)).Nodup
  rw[iK,lX]
  exact#[h,S.nd,λa j b g e=>S.Fy b g (by rw[<-e];exact(f a j).1)]
 .rcases dU.mp m with m|m
  .exact(f b m).2
  .obtain⟨u,e,n⟩:=S.dom b m
   exact#[u,k.keep _ _ e (cQ.2.2.2 b m),n]
 .obtain⟨v,e1,r⟩:=S.slot i x e
  refine#[v,e1,r.same sm λd b ex o o' l=>k.keep _ _ l ?_]
  subst ex o
  exact(S.nM (mV.mpr #[i,d,e,e1])).2
theorem amW{xs:List Vl}(b:∀a vs,E a=aa (.tup vs)->E' a=aa (.tup vs))(h:xs.all Zh=aq)(a:rC K E Θ xs vs):rC K E' Θ xs vs:=by
 induction a with
 |nil=>exact .nil
 |@cons x v xs vs r _ ih=>
  rw[Dl,jc] at h;refine .cons ?_ (ih h.2);cases x with
  |im d=>exact RZ.fU b h.1 r
  |ce n=>exact r
  |ow d=>cases h.1
  |sc ns=>cases h.1
  |ks ns=>cases h.1
  |tp=>cases h.1
theorem aqs(b:ig P w H h)(Θ:015):∃L:List az,L.Nodup/\∀a,a∈L↔(NT (H a)/\a∉Θ):=by
 classical
 refine#[(gj h.objs.size).filter λa=>decide (NT (H a)/\a∉Θ),List.nodup_range.filter _,λa=>?_]
 rw[mR,qp,decide_eq_true_iff]
 refine#[λh=>h.2,λh2=>#[?_,h2]]
 rcases Nat.lt_or_ge a h.objs.size with z|z
 .exact z
 .exact absurd (b.fresh z) h2.1.ne
theorem ac4:∀{aL:List qK},(∀r∈aL,H r.1=aa (.lst (r.2.map V.str)))->Qj H (aL.map λr=>tW r.2) (aL.map λr=>V.ref r.1) (aL.map (·.1))
 |[],_=>#[rfl,rfl]
 |r::aL,h=>#[_,_,[r.1],_,rfl,rfl,#[r.1,_,rfl,rfl,h r cR,Dy _,Mz _],ac4 λq m=>h q (dI _ m)]
theorem aeh:∀{aL:List qK},(∀r∈aL,H r.1=aa (.lst (r.2.map V.str)))->(aL.map (·.2)).Nodup->(aL.map (·.1)).Nodup
 |[],_,_=>.nil
 |r::aL,h,nd=>by
  rw[cM,mU] at nd⊢
  refine#[λm=>?_,aeh (λq m=>h q (dI _ m)) nd.2]
  obtain⟨q,c,e⟩:=eO.mp m
  have h1:=h r cR;have h2:=h q (dI _ c);rw[e,h1] at h2;have d:r.2.map V.str=q.2.map V.str:=by injection h2 with h2;injection h2
  exact nd.1 (eO.mpr #[q,c,map_inj (λa b h=>by cases h;rfl) d.symm])
end
theorem aoP{X:Cx}{f:FN}{g:FA}{i k:Nat}{z x:Str}{e:Expr}{p pos1 pos pos':Pos}(hN:017)(hi:X.N[i]?=aa z)(hx:Loc X.env.scope z)(F:jQ X.prog X.w X.K X.mg X.base x k ps (spT X.K f))(y:dZ k X.A)(hg:Gl X x)(Q:PA X (e::es) (nC X.K g))(J:(x==("__debug__":Str))=aH:=by decide)
  (he:bI (e::es) X.env=006::bI es X.env:=by rfl)(G:(eN pos1 (bI es X.env)).any (·.1)=aH:=by rfl)(hs:lG (.Call (.Name x p) (e::es) [] pos1) (aa (.Name z pos')) pos.line X.env=pure aH:=by rfl)(d:X.fn z=aq\/X.env.scope.names.lookup z=aa .local:=by first|exact .inl rfl|exact .inr rfl|assumption):
  PS X (.Assign [.Name z pos'] (.Call (.Name x p) (e::es) [] pos1) pos) (tS X.K (Qs i f g)):=by
 intro aA s σ H D I h
 refine(Az hN hi hx (Pa F y hg Q J he G) hs d) aA s σ H D I ?_
 obtain⟨Z,Θ,aj,C,fl,bw,C',S,d,q⟩:=h
 obtain⟨⟨xs,e1,C1⟩,h1,d⟩:=bW d
 dsimp only at d;split at d
 case isFalse=>cases(d)
 rename_i t
 obtain⟨⟨r,C2⟩,h2,d⟩:=bW d
 obtain⟨l,h3,d⟩:=bW d
 dsimp only at h3 d;split at d
 case isFalse=>cases(d)
 rename_i nd;cases(d)
 obtain⟨ds,rfl,hl⟩:=aoO h3
 refine#[Z,Θ,_,C,xs,e1,C1,S,h1,λvs H1 K W S1 a1=>?_]
 show spT X.K f (vs++[]) H1 _ E0;rw[jt]
 obtain⟨L,nL,O⟩:=aqs I.hok Θ
 have cQ:=S.cQ;have U:Sm X.K L Θ [] C1 [] H1:=by
  refine#[rfl,?_,λb m=>?_,λi x e=>by simp at e,S1.cell]
  .show(L++(Θ++[])).Nodup
   rw[jt,lX]
   exact#[nL,cQ.2.1,λa Q b j e=>((O a).mp Q).2 (by rw[e];exact j)]
  .obtain⟨⟨u,e,n⟩,E⟩:=(O b).mp m
   exact#[u,K.keep _ _ e E,n]
 refine#[L,Θ,C1,xs,_,C2,U,amW (λa ws h=>wU U.oN (gW h)) t a1,h2,λv H2 k2 R=>?_]
 obtain⟨a,rfl,hn,SR,ws,A,rz⟩:=R
 obtain⟨aL,g1,g2,g3⟩:=M6 hl rz
 subst g1 g2;have w:=K.trans k2;have T:∀b xs,H2 b=aa (.lst xs)->b∉L->b∉Θ->H b=ao:=λb xs j nl nt=>by
  cases hb0:H b with
  |none=>rfl
  |some o=>
   have:=w.keep b o hb0 nt;rw[j] at this;cases(this);exact absurd ((O b).mpr #[#[_,hb0,λ_ z=>nomatch z],nt]) nl
 have B:∀r∈aL,H2 r.1=aa (.lst (r.2.map V.str))/\H r.1=ao/\r.1≠a:=λr m=>by
  have e:=g3 r m;have e2:=gW e;have P:r.1∉bF (a::L) Θ [] []:=λz=>by
   unfold er at e;rw[bG z] at e;cases(e)
  refine#[e2,T _ _ e2 (λz=>P (iy.mpr (.inl (dI _ z)))) (λz=>P (iy.mpr (.inr (.inl z)))),λz=>P (iy.mpr (.inl (by rw[z];exact cR)))]
 have M:H a=ao:=K.none hn;have nr:=aeh (λr m=>(B r m).1) nd;have E:(aL.map (·.1)++[a]).Nodup:=by
  rw[lX]
  refine#[nr,bH,λb j c hc e=>?_]
  obtain⟨r,y,rfl⟩:=eO.mp j
  rw[gB.mp hc] at e
  exact(B r y).2.2 e
 have j:∀b∈aL.map (·.1)++[a],H b=ao/\NT (H2 b):=λb m=>by
  rcases dU.mp m with m|m
  .obtain⟨r,y,rfl⟩:=eO.mp m
   exact#[(B r y).2.1,_,(B r y).1,λ_ z=>nomatch z]
  .rw[gB.mp m]
   exact#[M,_,A,λ_ z=>nomatch z]
 have Y:=(S.fz W).aqr E j w SR.pop.cell;rw[iK] at Y
 obtain⟨N,aK⟩:=Dz (b:=aL.map λr=>tW r.2) Y (ac4 λr m=>(B r m).1)
 have eb:(aL.map λr=>tW r.2)=(aL.map (·.2)).map tW:=by rw[eZ];rfl
 rw[eb] at N aK;have cl:=N.cell.len;have S4:=N.vC (c:=.lst (mG ((aL.map (·.2)).map tW) C2).1) #[_,A,aK.keep (λ_ _ h=>h) rD];have S5:=S4.rK (i:=i) (x:=.ce (mG ((aL.map (·.2)).map tW) C2).2.length) (v:=.ref a) (λ_ z=>nomatch z) #[a,rfl,by rw[cl];simp];refine q _ _ H2 #[#[_,iK ..,λb m=>(j b m).1],o8 w,λb mb=>.inl (W.own.subset ?_),S5];rcases sV mb with mb|⟨⟨_,z⟩,_⟩
 .exact mb
 .cases(z)
def afe{P:dB}{w:cG}(t:TE):TE:=λσ H Q=>t σ H λx H2=>∃D ks,x=.ref D/\H2 D=aa (SO (intKind P w) D ks)/\ks.length<64/\∀(D':az)(ns':List Int),H2 D'=ao->ns'.Perm ks->ns'.Pairwise (·<=·)->Q (.ref D') (upd H2 D' (.lst (ns'.map V.int)))
theorem amX{t:TE}{p1 pos1:Pos}(W:011)(N:PE X e t)(C:Gl X "sorted")(S:X.mg "sorted"=ao)
  (A:bI [e] X.env=006::bI [] X.env:=by rfl)(i:(eN pos1 (bI [] X.env)).any (·.1)=aH:=by rfl):PE X (.Call (.Name "sorted" p1) [e] [] pos1) (afe (P:=X.prog) (w:=X.w) t):=by
 intro aA s σ H Q I h;refine Gv (El I C S (u:=.builtin "sorted") rfl (aht ?_ A i));rw[A];refine KY (bY (N aA s σ H _ I h) λv s1 ⟨y,H1,f,T,D,ks,ey,E,G,q⟩=>Ss ?_);subst ey;cases T;refine hide λGG Y=>?_
 obtain⟨⟨o,es,ep,t,K,ex,Z,⟨ks',p,z⟩,hb,M,tb⟩,_,_⟩:=f.hok D _ E
 obtain⟨e1,e2⟩:=amm p
 have b:es.size<64:=by
  rw[<-n6,p.len,z.length_eq];lia
 refine Y (aky (Ok:=λout=>∃ns',IntsAre out ns'/\ns'.Perm ks/\ns'.Pairwise (·<=·)) (f.ok.hd W) #[o,K,ex,Z,M,tb] b (λus k B s2 a n P E' m R=>?_) λD h' d U c out ok r O L=>?_)
 .refine list_sort_tree m (acG us λv F=>(let ⟨x,t,h⟩:=e2 v (k.mem_iff.mp F);#[x,t,h])) (by rw[k.length_eq,bC,n6];exact b) λout ns' l g j=>R out #[ns',l,g.trans ?_,j]
  exact(k.map Y8).trans (by rw[e1];exact z)
 .obtain⟨ns',l,g,j⟩:=ok
  have J:ns'.length<=cz:=by
   rw[g.length_eq,iw];lia
  exact#[.ref D,_,(f.laid (o:=.lst (ns'.map V.int)) (t':=U) O r #[by rw[bC];exact J,out.toList,c,Mp l,by simpa[seqObj] using L]).drew d,rfl,q D ns' (f.hok.fresh r) g j]
def M7(ds:016):Option (List aB):=if ds.length<64 then(intsOf ds).map λns=>(dW ltI (dedup ns)).map .int else ao
def Ge(fi:FI)(T:gU)(ft:FT)(fe:FE)(js:List Nat):FE:=λaj C=>(fi aj C).bind λp=>(gQ T ft fe (frB js p.2.1) p.1 p.2.2).bind λq=>(M7 q.1).bind λl=>aa (.ow (.list l),aj,q.2)
def agB(fe:FE):En->List Int->Ce->Option (List Int×Ce):=λaj aM C=>(fe aj C).bind λq=>(vV (still q.1)).bind λy=>(intD y).bind λz=>bif decide (aM.length<64) then aa (aM++[z],q.2.2) else ao
theorem W4:∀{aK:016}{ys aM:List Int}{C:Ce},gQ T ft fe fs aK C=aa (ys.map .int,C')->aM.length+ys.length<=64->uA T ft (agB fe) fs aK aM C=aa (aM++ys,C')
 |[],ys,aM,C,h,_=>by
  cases ys with
  |cons _ _=>cases(h)
  |nil=>
  cases(h);rw[jt];rfl
 |d::r,ys,aM,C,h,hl=>by
  unfold gQ at h;unfold uA;split at h
  case h_2=>cases(h)
  rename_i b;rw[b,bU];split at h
  case h_3=>cases(h)
  .rename_i a;rw[a];exact W4 h hl
  .rename_i a;rw[a,bU];split at h
   case h_2=>cases(h)
   rename_i e2 C2 e;split at h
   case h_2=>cases(h)
   rename_i y f;split at h
   case h_2=>cases(h)
   rename_i C3 c;cases ys with
   |nil=>cases(h)
   |cons w ys=>
   injection h with h
   injection h with h1 h2
   injection h1 with h1 h3
   subst h1 h2 h3;rw[iM] at hl;unfold agB;rw[e,bU,f,show vV _=aa _ from rfl,bU,show intD _=aa w from rfl,gq aD,show aM++w::ys=(aM++[w])++ys by rw[iK];rfl];exact W4 c (by rw[eG];show aM.length+1+_<=_;lia)
theorem amY{w:cG}{K:aU}{fi:FI}{T:gU}{ft:FT}{fe:FE}:∀σ H Q,tE K (Ge fi T ft fe js) σ H Q->afe (P:=P) (w:=w) (tSC (intKind P w) V.int K (tI K aq fi) T (λ_=>eY K ft) (λ_=>tE K fe) js) σ H Q:=by
 rintro σ H Q ⟨Z,Θ,aj,C,res,bw,C',S,d,q⟩
 obtain⟨⟨x,e1,C1⟩,h1,d⟩:=bW d
 obtain⟨⟨ys,C2⟩,h2,d⟩:=bW d
 obtain⟨l,c,d⟩:=bW d
 cases(d);dsimp only at h2 c q;unfold M7 at c;split at c
 case isFalse=>cases(c)
 rename_i G
 obtain⟨ns,h,rfl⟩:=lW.mp c
 have k:=V2 h;subst k;rw[bC] at G
 refine#[Z,Θ,aj,C,x,e1,C1,S,h1,λJ H1 F Y t it D g b=>?_]
 have f:D∉Θ:=λm=>(t.cell.dom D m).ne g
 refine VN (a0:=[]) (Ob:=λaM j=>j D=aa (SO _ D (dedup aM))) t it g fK (λa j Hy e r=>e.keep _ _ r f) (λa j r=>#[_,r,λ_ z=>nomatch z]) ?_ (W4 (aM:=[]) h2 (by rw[tX];lia)) λH2 R N r=>?_
 .intro ts aM C2 p vs H4 Q c I M u O;refine hide λGG W=>?_
  obtain⟨w,o,c⟩:=bW c
  obtain⟨yd,i,c⟩:=bW c
  obtain⟨z,n,c⟩:=bW c
  have i:=Od i;have n:=Ww n;subst n;cases hlt:decide (aM.length<64) with
  |false=>rw[hlt] at c;cases(c)
  |true=>
  rw[hlt] at c;cases(c);refine W (#[_,Θ,_,C2,w.1,w.2.1,w.2.2,I,o,λy B s f5 X=>?_])
  obtain⟨E,U⟩:=X.uz i
  have lt:=of_decide_eq_true hlt;have A:=U6 aM
  exact#[dedup aM,z,s.keep _ _ u f,U,by unfold sO;lia,O _ (aeO (Hy:=B) g (M.trans s)) (MP f (λ_ z=>by rw[s.keep _ _ u f] at z;cases(z)) E.cell) (by rw[aks];exact fK)]
 .have e:=F.trans R;have A:=U6 ns
  refine#[D,dedup ns,rfl,r,aD,λD' ns' v p L=>?_]
  rw[sortI p L];exact q _ _ (e.trans (bh.upd v)) 010 ((o7 (S.go e N) (acJ _) v).from e)
theorem aqt{X:Cx}{NT NF:009}{js:List Nat}{ifs:List Expr}{T:gU}{fi:FI}{ft:FT}{fe:FE}{scope:iU}{pos p1 pos1:Pos}(B:pX X NT NF js scope)(h:nU tg NT T)(d:011)(e:Gl X "sorted")(g:X.mg "sorted"=ao)(hi:PI X tg iter (tI X.K aq fi))
  (a:∀b,nA (X.bk (NT++NF) scope b) ifs (eY X.K ft)/\PE (X.bk (NT++NF) scope b) elt (tE X.K fe))
  (f:∀x,qm iter X.env x=pure x:=by intro _;rfl)
  (i:bI [.SetComp elt [#[tg,iter,ifs,0]] scope pos] X.env=(aH,eval (.SetComp elt [#[tg,iter,ifs,0]] scope pos) X.env)::bI [] X.env:=by rfl)(c:(eN pos1 (bI [] X.env)).any (·.1)=aH:=by rfl):
  PE X (.Call (.Name "sorted" p1) [.SetComp elt [#[tg,iter,ifs,0]] scope pos] [] pos1) (tE X.K (Ge fi T ft fe js)):=
 (amX d (aq2 (λk v r=>by obtain⟨t,rfl⟩:=r;exact#[PySem.intKind_is _ _ _ _,rfl]) B h d hi a f) e g i c).weak amY
def Es(f:FT):FT:=λaj C=>(f (aj.map (frC C)) []).bind λp=>if p.2=[] then aa (p.1,C) else ao
theorem akD{K:aU}:∀σ H Q,eY K (Es f) σ H Q->eY K f σ H Q:=by
 rintro σ H Q ⟨Z,Θ,aj,C,b,C',S,c,q⟩
 obtain⟨⟨g,C1⟩,h1,c⟩:=bW c
 dsimp only at c;split at c
 case isFalse=>cases(c)
 rename_i d;cases(c);subst d
 refine#[Z,[],_,[],b,[],S.view,h1,λH1 k h=>?_]
 exact q H1 #[λa o e n=>k.keep a o e (λm=>nomatch m),k.dom] (S.go #[λa o e n=>k.keep a o e (λm=>nomatch m),k.dom] (S.cell.keep (λa vs e=>k.keep _ _ e λm=>nomatch m) λa m o e=>k.keep _ _ e λm=>nomatch m))
theorem aoQ{X:Cx}{f:FT}{e:Expr}(h:PT X e (eY X.K f)):PT X e (eY X.K (Es f)):=h.weak akD
theorem aj5(f:IsTup s.heap l vs.toArray)
  (h:Q vs {s with heap:=(s.heap.push (seqObj "list" #v[] 0)).update s.heap.objs.size (oZ (·++vs.toArray))})(b:vs.length<=cz):
  bf 000 A (collect (.ref l)) Q E s:=by
 obtain⟨o,d,g,n,e⟩:=id f
 unfold collect;refine aJ (aaQ (zY entry_proto_collect' ?_));show bf _ _ (do again (.builtin "list.__iadd__" #[[<-newList [],.ref l],[]])) _ _ s;refine aJ (Lr (bu #[Code.quiet_builtin _ bz,zY entry_list_iadd' ?_]));show bf _ _ (RK (.ref s.heap.objs.size) (.ref l) (.ref s.heap.objs.size)) _ _ {s with heap:=s.heap.push (seqObj "list" #v[] 0)};unfold RK;have a:(s.heap.push (seqObj "list" #v[] 0)).get? l=aa o:=cX _ d;refine aJ (Hr (T:="tuple") #[o,a,g] ?_);have c:(Ae "tuple"==Ae "tuple")=aq:=by rfl
 rw[bG (by rw[c];simp)];refine aJ (listItems_at a e ?_);refine aJ (listItems_at (xs:=#v[]) (n:=0) (fV _ rfl) rfl ?_);rw[bK bH];refine aJ (listUpdate_at (xs:=#v[]) (n:=0) (fV _ rfl) rfl ?_ (jJ _) (by show(#v[]++vs.toArray).size<=cz+1;simp only[aar,oX,tX];lia));refine bu ?_;show bf (model prog w) A (do
   let o <-load s.heap.objs.size
   match o.data with
   |.seq xs _=>pure xs.toList
   |_=>unsupported "internal:collect") Q E {s with heap:=(s.heap.push (seqObj "list" #v[] 0)).update s.heap.objs.size (oZ (·++vs.toArray))}
 refine aJ (Hw (get?_update_seq (fV _ rfl) _) ?_);show bf _ _ (pure ((#v[]:Array aG)++vs.toArray).toList) Q E _;rw[show((#v[]:Array aG)++vs.toArray).toList=vs by simp];exact bu h
theorem ai9:gF X (.builtin "sorted") (λxs H Q=>∃(p:az)(aL:List Row)(b:Bool)(sh:List Bool),xs=[.ref p]/\dH X.K H p (aL.map λr=>V.ref r.1)/\aL.length<64/\(∀r∈aL,H r.1=aa (.tup (r.2.map kV))/\r.2.map dz=b::sh)/\
  ∀(l:az)(rows':List Row),H l=ao->rows'.Perm aL->rows'.map (·.2)=uD (aL.map (·.2))->Q (.ref l) (upd H l (.lst (rows'.map λr=>V.ref r.1)))):=by
 intro aA s σ H xs us Q I r h
 obtain⟨p,aL,b,sh,rfl,F,n,z,q⟩:=h
 obtain⟨u,rfl,G⟩:=vals1 r
 cases G
 obtain⟨y,A,pl,_⟩:=I.tuple F
 have B:=Wt A;subst B;have f:∀r∈aL,TupAt s.heap r/\r.2.map dz=b::sh:=λr d=>by
  obtain⟨_,y,v,t⟩:=(I.hok r.1 _ (z r d).1)
  exact#[#[y,v,t],(z r d).2]
 refine LQ (κ:=tuples' aq) (lt:=yV aL) (Rl:=λp=>p=xR (aL.map (·.2))) (by simpa using n) (λh2=>U4 (by rw[bC]) h2) (λh2=>Ur (by rw[bC]) h2) (λR E=>?_) (λh2 s' k Q' w=>U0 (λr d=>#[(f r d).1.keep k,(f r d).2]) (by rw[bC] at h2;lia) Q' w)
  (λh2 s' k i j hi J C w=>VF (sh:=b::sh) (λr d=>#[(f r d).1.keep k,(f r d).2]) (by simpa using hi) (by simpa using J) C w) λp D h' c K a m x k e=>?_
 .refine aj5 pl (E _ _ s.toks ?_ (λb o e=>?_) rfl) (by rw[bC,iw];lia)
  .rw[aaz,size_push'];lia
  .have g:b≠s.heap.objs.size:=fW (cY e);rw[aae _ _ _ _ g];exact cX _ e
 .rw[bC] at a;rw[U3 a] at e
  refine#[.ref D,_,I.laid (o:=.lst _) k x #[?_,_,c,Mr _,by simpa[seqObj] using e],rfl,q D _ (I.hok.fresh x) (Mq a) (Wu a m)]
  rw[bC,bC,a.length_eq,uZ,iw];lia
def yJ:List aB->Option Vl
 |[.tuple (d::ds)]=>if(d::ds).length<64 then match zB d with
  |some (b::sh)=>if((d::ds).all λe=>decide (zB e=aa (b::sh))) then aa (.ow (.list (BZ (d::ds)))) else ao
  |_=>ao
  else ao
 |_=>ao
theorem amZ{K:aU}:j8 K (λxs H Q=>∃(p:az)(aL:List Row)(b:Bool)(sh:List Bool),xs=[.ref p]/\dH K H p (aL.map λr=>V.ref r.1)/\aL.length<64/\(∀r∈aL,H r.1=aa (.tup (r.2.map kV))/\r.2.map dz=b::sh)/\
  ∀(l:az)(rows':List Row),H l=ao->rows'.Perm aL->rows'.map (·.2)=uD (aL.map (·.2))->Q (.ref l) (upd H l (.lst (rows'.map λr=>V.ref r.1)))) yJ:=by
 intro Z Θ aj C σ H xs t res S b e Q q;unfold yJ at e;split at e
 case h_2=>cases e
 rename_i d ds;split at e
 case isFalse=>cases e
 rename_i s;split at e
 case h_2=>cases e
 rename_i j sh n;split at e
 case isFalse=>cases e
 rename_i f;cases e
 obtain⟨v,rfl,o⟩:=nR b
 obtain⟨a,vs,rfl,i,r⟩:=o.tup
 have c:=λd m=>of_decide_eq_true (jT.mp f d m)
 obtain⟨aL,e1,e2,g⟩:=V1 c r
 subst e1
 refine#[a,_,j,sh,rfl,dH.of i,?_,λr m=>#[gW (g r m).1,(g r m).2],λl rows' h p k=>?_]
 .have:=congrArg ue e2;rw[bC] at this
  rwa [<-this]
 .have es:=ab2 e2 k;rw[<-es] at q;exact q _ _ (bh.upd h) (o7 S (M4 λr m=>(g r (p.mem_iff.mp m)).1) h)
end L2
namespace zQ
open PySem L2
abbrev zaa:List Str:=["book","bound","days"]
abbrev zab:List Str:=["book","bound","days","names","name"]
abbrev zac:List Str:=["book","bound","days","names"]
abbrev zad:List Str:=["book","bound"]
abbrev zae:List Str:=["papers","bound","days","firsts","lists"]
abbrev zaf:List Str:=["papers","bound","days"]
abbrev zag:List Str:=["papers","bound","first","days","found"]
abbrev zah:List Str:=["papers","bound","first","days"]
abbrev zai:List Str:=["names","lists"]
abbrev zaj:List Str:=["self"]
abbrev zak:List Str:=["self","key"]
abbrev zal:List Str:=["self","key","value"]
abbrev zam:List Str:=["self","part","within"]
abbrev zan:List Str:=["self","name","part","amount","day","asker","getter"]
abbrev zao:List Str:=["self","name"]
abbrev zap:List Str:=["self","part"]
abbrev zaq:List Str:=["self","name","kept"]
abbrev zar:List Str:=["rows","row"]
abbrev zas:List Str:=["_law_cell","_law_k"]
abbrev zat:List Str:=["_law_script","_law_k"]
abbrev zau:List Str:=["_law_left_here","_law_many"]
abbrev zav:List Str:=["_law_left_here","_law_many","_law_letters","_law_stem","_law_at","_law_first","_law_found","_law_k","_law_sign"]
abbrev zaw:List Str:=["_law_left_here","_law_bound"]
abbrev zax:List Str:=["_law_papers_here"]
abbrev zay:List Str:=["_law_papers_here","_law_bound","_law_days","_law_some","_law_name","_law_part","_law_amount","_law_day","_law_asker","_law_getter","_law_near","_law_other","_law_names_here","_law_inner","_law_one"]
abbrev zaz:List Str:=["_law_papers_here","_law_bound","_law_days"]
abbrev za0:List Str:=["_law_left_here","_law_book","_law_due_here","_law_bound","_law_days","_law_names_here","_law_turned","_law_handed","_law_some","_law_other","_law_found"]
abbrev za1:List Str:=["_law_left_here","_law_book","_law_due_here","_law_bound","_law_days"]
abbrev za2:List Str:=["_law_script","_law_k","_law_left_here","_law_bound","_law_days","_law_papers_here","_law_book","_law_due_here","_law_kept","_law_turn","_law_found","_law_one","_law_asks","_law_low","_law_many"]
abbrev za3:List Str:=["_law_script"]
abbrev za4:List Str:=["name","amount","day"]
abbrev za5:List Str:=["name","amount"]
abbrev za6:List Str:=["names"]
abbrev za7:List Str:=["_law_other"]
abbrev za8:List Str:=["_law_one"]
abbrev za9:List Str:=["_law_name"]
def top(i:Nat):dF:=PySem.Challenge.pw_rankseals_k65_split_papers.main.body.getD i (.Pass #[0,0,0,0])
abbrev M8:dF:=top 2
theorem alA:gO zaa zaa (cO M8):=07
abbrev Mm:dF:=top 3
theorem abq:gO zab zac (cO Mm):=07
abbrev Tj:dF:=top 4
theorem yp:gO (["book","bound","groups","name","part","amount","asker","getter","day"]:List Str) zad (cO Tj):=07
abbrev Di:dF:=top 5
theorem SN:gO zae zaf (cO Di):=07
abbrev Dk:dF:=top 6
theorem aaM:gO zag zah (cO Dk):=07
abbrev Gu:dF:=top 7
theorem ah2:gO zai zai (cO Gu):=07
abbrev W5:dF:=inClass (top 14) 0
theorem am2:gO zaj zaj (cO W5):=07
abbrev Yc:dF:=inClass (top 14) 1
theorem aoR:gO zak zak (cO Yc):=07
abbrev W6:dF:=inClass (top 14) 2
theorem ac5:gO (["self","key","value","page"]:List Str) zal (cO W6):=07
abbrev Ue:dF:=inClass (top 14) 3
theorem ajP:gO zam zam (cO Ue):=07
abbrev T4:dF:=inClass (top 14) 13
theorem ajx:gO zan zan (cO T4):=07
abbrev Wa:dF:=inClass (top 14) 17
theorem alB:gO zaj zaj (cO Wa):=07
abbrev Ug:dF:=inClass (top 14) 18
theorem Ly:gO (["self","name","paper","day","hands"]:List Str) zao (cO Ug):=07
abbrev Ma:dF:=inClass (top 14) 30
theorem ajQ:gO zap zap (cO Ma):=07
abbrev T5:dF:=inClass (top 14) 31
theorem ajy:gO zap zap (cO T5):=07
abbrev Tu:dF:=inClass (top 14) 34
theorem aaV:gO (["self","name","papers"]:List Str) zao (cO Tu):=07
abbrev Tv:dF:=inClass (top 14) 35
theorem aaW:gO (["self","name","kept","papers"]:List Str) zaq (cO Tv):=07
abbrev W7:dF:=top 15
theorem am3:gO zar zar (cO W7):=07
abbrev Yd:dF:=top 17
theorem aei:gO (["_law_cell","_law_k","_law_m"]:List Str) zas (cO Yd):=07
abbrev W8:dF:=top 18
theorem ac6:gO (["_law_script","_law_k","_law_cell"]:List Str) zat (cO W8):=07
abbrev W9:dF:=top 19
theorem ac7:gO (["_law_left_here","_law_many","_law_digit"]:List Str) zau (cO W9):=07
abbrev M9:dF:=top 20
theorem DG:gO zav zau (cO M9):=07
abbrev Vg:dF:=top 21
theorem Ai:gO (["_law_left_here","_law_bound","_law_names_here","_law_wide","_law_first","_law_most","_law_found","_law_name","_law_amount","_law_asker","_law_part"]:List Str) zaw (cO Vg):=07
abbrev Xa:dF:=top 22
theorem yC:gO (["_law_papers_here","_law_book","_law_name","_law_part","_law_amount","_law_day","_law_asker","_law_getter"]:List Str) zax (cO Xa):=07
abbrev yS:dF:=top 23
theorem rB:gO zay zaz (cO yS):=07
abbrev Lw:dF:=top 24
theorem yr:gO za0 za1 (cO Lw):=07
abbrev Fp:dF:=top 25
theorem qx:gO za2 za3 (cO Fp):=07
structure Txt(K:aU)(mg:Str->Option aG)(c0:az):Prop where
 cl:mH K c0
 mgC:mg "Book"=aa (.ref c0)
 DQ:wX K c0 "pages"
 Qt:mg "abs"=ao
 Fq:mg "all"=ao
 YK:mg "any"=ao
 Ye:mg "bool"=ao
 OD:mg "dict"=ao
 Qu:mg "int"=ao
 Ad:mg "isinstance"=ao
 Ft:mg "len"=ao
 xm:mg "list"=ao
 JQ:mg "max"=ao
 Qv:mg "min"=ao
 Ed:mg "range"=ao
 OJ:mg "repr"=ao
 vz:mg "sorted"=ao
 YL:mg "str"=ao
 Qw:mg "sum"=ao
 Xb:mg "tuple"=ao
abbrev Xc:FS:=(eV (dg Ny (cL (aX (dg yJ (cL (aX (bA dM (aZ 0) (aX (dX (aF (aN 1) aQ))))) dw))) dw)))
def IW:FN:=fN 2 2 Xc
abbrev Xd(c0:az):FS:=(Qn c0 0 (aO "pages") [((aO "parts"),(dX aQ)),((aO "ranks"),(dX aQ)),((aO "leaves"),(dX aQ)),((aO "back"),(dX aQ)),((aO "rules"),(dX aQ)),((aO "papers"),XQ)])
def I9(c0:az):FN:=wg 1 1 (Xd c0)
abbrev O1(c0:az):FS:=(eV (qJ (qJ (xK c0 (aO "pages") (aN 0)) (aX (pF (cI 1)))) (aZ 1)))
def jw(c0:az):FN:=fN 2 2 (O1 c0)
abbrev Xe(c0:az):FS:=(bV (zb 3 (qJ (xK c0 (aO "pages") (aN 0)) (aX (pF (cI 1))))) (bV (Bw 3 (aZ 1) (aN 2)) (Ql (xK c0 (aO "pages") (aN 0)) (aN 3))))
def yK(c0:az):FN:=wg 3 4 (Xe c0)
abbrev aaX(c0:az):FE:=(aN 0)
abbrev Uh(c0:az):FS:=(eV (bA zu (aZ 1) (aX (eF (qj (aX (cZ c0 (aO "now") 0 (jw c0) (aF (bN (.str (aO "parts"))) aQ)))) (.many 2) dh (aaX c0) []))))
def wI(c0:az):FN:=fN 2 2 (Uh c0)
abbrev T6(c0:az):FS:=(fZ (jW (jo (aX (cZ c0 (aO "has_part") 0 (wI c0) (aF (aN 1) aQ))))) zG g8)
def u9(c0:az):FN:=fN 2 2 (T6 c0)
abbrev Ui(c0:az):FS:=(bV (fZ (jo (aX (cZ c0 (aO "has_part") 0 (wI c0) (aF (aN 1) aQ)))) zG g8) (bV (fZ (eU (bA jy (aZ 2) (cS ""))) (vL (cZ c0 (aO "need_part") 0 (u9 c0) (aF (aN 2) aQ))) g8) (m6 c0 (aO "turn") 0 (yK c0) (aF (bN (.str (aO "parts"))) (aF (cV IW (aF (cZ c0 (aO "now") 0 (jw c0) (aF (bN (.str (aO "parts"))) aQ)) (aF (dX (aF (aN 1) (aF (aN 2) aQ))) aQ))) aQ)))))
def sH(c0:az):FN:=wg 3 3 (Ui c0)
abbrev Tw(c0:az):FS:=(bV (dY 2 (cZ c0 (aO "now") 0 (jw c0) (aF (bN (.str (aO "papers"))) aQ))) (bV (fZ (Fo (aZ 1) (aN 2)) zG g8) (eV (qJ (aN 2) (aZ 1)))))
def Hg(c0:az):FN:=fN 2 3 (Tw c0)
abbrev Tz(c0:az):FS:=(bV (zb 3 (cZ c0 (aO "now") 0 (jw c0) (aF (bN (.str (aO "papers"))) aQ))) (bV (Bw 3 (aZ 1) (aN 2)) (m6 c0 (aO "turn") 0 (yK c0) (aF (bN (.str (aO "papers"))) (aF (aN 3) aQ)))))
def Hh(c0:az):FN:=wg 3 4 (Tz c0)
abbrev T7(c0:az):FS:=(bV (fZ (zF (aZ 1) (cZ c0 (aO "now") 0 (jw c0) (aF (bN (.str (aO "papers"))) aQ))) zG g8) (bV (vL (cZ c0 (aO "need_part") 0 (u9 c0) (aF (aN 2) aQ))) (m6 c0 (aO "keep_paper") 0 (Hh c0) (aF (aN 1) (aF (dX (aF (dX (aF (aN 2) (aF (aN 3) (aF (aN 5) (aF (aN 6) aQ))))) (aF (aN 4) (aF (dX aQ) aQ)))) aQ)))))
def Lz(c0:az):FN:=wg 7 7 (T7 c0)
abbrev Wb(c0:az):FS:=(eV (X8 (cZ c0 (aO "now") 0 (jw c0) (aF (bN (.str (aO "papers"))) aQ))))
def mj(c0:az):FN:=fN 1 1 (Wb c0)
abbrev Uj(c0:az):FS:=(bV (vM (cZ c0 (aO "kept_paper") 0 (Hg c0) (aF (aN 1) aQ)) (nD 3 (cU (bZ 2) (cU (bZ 3) (cU (bZ 4) mY))))) (eV (bA dM (aZ 2) (aX (dX (aF (aN 3) aQ))))))
def qX(c0:az):FN:=fN 2 5 (Uj c0)
abbrev Dg(c0:az):FS:=(bV (vM (cZ c0 (aO "paper_of") 0 (qX c0) (aF (aN 3) aQ)) (nD 5 (cU (bZ 4) (cU (bZ 5) (cU (bZ 6) (cU (bZ 7) (cU (bZ 8) mY))))))) (fZ (eU (bA tL (aZ 5) (aZ 1))) (Cg 2 (aX (dX (aF (aN 6) (aF (aN 4) aQ)))) (dX (aF (aN 3) (aF (aN 5) (aF (aN 8) aQ))))) g8))
abbrev Tn(c0:az):FS:=(bV (YJ 2) (bV (iD (iV (cZ c0 (aO "names") 0 (mj c0) aQ)) (bZ 3) (Dg c0)) (Ie 2)))
def z6(c0:az):zO:=CQ 2 9 (Tn c0)
abbrev aas:FE:=(aN 0)
abbrev aat:FE:=(aN 1)
abbrev Sy:FT:=(eU (xT FJ tL (aZ 3) (aZ 2) (aX (bA dM (aZ 3) (aZ 4)))))
abbrev aau:FE:=(dX (aF (aN 0) (aF (aN 1) aQ)))
abbrev Lp:FS:=(bV (dY 4 (eF (qj (aZ 0)) (.many 3) Sy aau [2,3])) (bV (fZ (eU (bA tL (aX (dg Fe (cL (aX (eF (qj (aZ 4)) (.many 2) dh aat [])) dw))) (aZ 1))) (eV (fQ aQ)) g8) (eV (eF (qj (aZ 4)) (.many 2) dh aas []))))
def Lq:FN:=fN 4 5 Lp
abbrev Z8:FE:=(bA zu (aZ 0) (aZ 1))
abbrev R0:FE:=(Pg (bA jy (aZ 0) (aZ 1)) (dg uB (cL (aX (eF (iB (aZ 1)) .one dh Z8 [0])) dw)))
abbrev R6:FS:=(eV (dg JP (cL (aX (eF (iB (aZ 1)) .one dh R0 [0])) dw)))
def KQ:FN:=fN 2 2 R6
abbrev Gx:FT:=(qC (jo (aZ 0)) (jW (jo (aX (cV KQ (aF (aN 0) (aF (aN 1) aQ)))))))
abbrev R9:FE:=(aN 0)
abbrev Sd:FE:=(cV Lq (aF (aN 1) (aF (aN 2) (aF (aN 0) (aF (aN 3) aQ)))))
abbrev K1:FE:=(aN 2)
abbrev Te:FS:=(bV (dY 3 (Ge (qj (aZ 0)) (.many 3) dh K1 [])) (bV (dY 4 (eF (iB (aZ 3)) .one dh Sd [0,1,2])) (eV (eF (iB (aZ 4)) .one Gx R9 [4]))))
def Le:FN:=fN 3 5 Te
abbrev Ht(c0:az):FI:=(iV (cV Le (aF (aN 0) (aF (aN 2) (aF (aN 3) aQ)))))
abbrev vd(c0:az):FE:=(aN 1)
abbrev Wc(c0:az):FS:=(eV (dg yz (cL (aX (J0 (iB (aX (Fg (z6 c0) (aF (aN 0) (aF (aN 1) aQ))))) .one dh (Ht c0) .one dh (vd c0) 1 1 [1,2])) dw)))
def wO(c0:az):FN:=fN 3 3 (Wc c0)
abbrev Hi(c0:az):FS:=(vL (cZ c0 (aO "paper_of") 0 (qX c0) (aF (aN 4) aQ)))
abbrev TF(c0:az):FE:=(qI "str" (aZ 0))
abbrev Ux(c0:az):FS:=(bV (fZ (pC (jW (jo (aX (qI "list" (aZ 3))))) (jW (jo (aX (dg uB (cL (aX (eF (iB (aZ 3)) .one dh (TF c0) [])) dw)))))) (eV (bN (.bool aH))) g8) (bV (iD (iV (aN 3)) (bZ 4) (Hi c0)) (eV (bA (rO aH) (aX (dg yH (cL (aZ 3) dw))) (aX (cV (wO c0) (aF (aN 0) (aF (aN 1) (aF (aN 2) aQ)))))))))
def wK(c0:az):FN:=fN 4 5 (Ux c0)
abbrev Yg:FS:=(bV (dY 2 (bA tB (aX (bA rH (aX (bA dM (aX (bA dM (aX (bA tB (aZ 0) (cI 2147483629))) (aX (bA rH (aX (bA rH (aZ 1) (aZ 1))) (cI 7919))))) (cI 11))) (cI 48271))) (cI 2147483647))) (eV (bA tB (aX (bA rH (aZ 2) (aZ 2))) (cI 1999999973))))
def Jt:FN:=fN 2 3 Yg
abbrev Xf:FS:=(bV (dY 2 (zy (eU (bA tL (aZ 1) (aX (xJ 0)))) (JW 0 (aZ 1)) (bN (.int 0)))) (eV (fQ (aF (bA rH (aX (dg JB (cL (aZ 2) dw))) (aX (dg Fd (cL (aX (bA FQ (aX (dg JB (cL (aZ 2) dw))) (aX (bA rG (cI 10) (cI 18))))) dw)))) (aF (bA dM (aZ 2) (aX (bA rH (cI 1000003) (aZ 1)))) (aF (bN (.int 0)) aQ))))))
def Ef:FN:=fN 2 3 Xf
abbrev NQ:FS:=(bV (JV 0 (cI 2) (bA dM (aX (uH 0 (cI 2))) (cI 1))) (bV (fZ (eU (bA FP (aX (uH 0 (cI 0))) (cI 0))) (bV (dY 2 (bA tB (aX (uH 0 (cI 0))) (aZ 1))) (bV (JV 0 (cI 0) (bA qw (aX (uH 0 (cI 0))) (aZ 1))) (vI 2))) g8) (eV (bA tB (aX (bA qw (aX (cV Jt (aF (cV Jt (aF (uH 0 (cI 1)) (aF (uH 0 (cI 2)) aQ))) (aF (bA dM (aX (uH 0 (cI 2))) (cI 64)) aQ)))) (cI 64))) (aZ 1)))))
def gr:FN:=fN 2 3 NQ
abbrev Mf:FS:=(bV (dY 8 (bA fY (aZ 2) (aX (bA tB (aX (bA dM (aZ 5) (aX (bA rH (cI 7) (aZ 7))))) (cI 26))))) (vN 6 (bA fY (aX (fQ (aF (bA dM (aX (bA dM (aX (qQ (aZ 3) rY (qP (aZ 4)))) (aZ 8))) (aX (qQ (aZ 3) (qP (aZ 4)) rY))) (aF (aN 8) aQ)))) (aX (bA tB (aZ 7) (cI 2))))))
abbrev Uk:FE:=(bA fY (aZ 1) (aX (cV gr (aF (aN 2) (aF (bN (.int 26)) aQ)))))
abbrev Wd:FS:=(bV (dY 2 (bN (.str (aO "abcdefghijklmnopqrstuvwxyz")))) (bV (dY 3 (Pj (cS "") (aX (eF (uU (aX (bA dM (cI 1) (aX (cV gr (aF (aN 0) (aF (bN (.int 7)) aQ))))))) .one dh Uk [2,0])))) (bV (p8 [4,5,6] (lK (cV gr (aF (aN 0) (aF (bA dM (aX (dg vJ (cL (aZ 3) dw))) (cI 1)) aQ))) (lK (cV gr (aF (aN 0) (aF (bN (.int 26)) aQ))) (lK (fQ aQ) aQ)))) (bV (iD (uU (aZ 1)) (bZ 7) Mf) (vI 6)))))
def Nb:FN:=fN 2 9 Wd
abbrev LC:FS:=(bV (dY 8 (bA fY (aX (fQ (aF (bA yW (aZ 1) (cI 1)) (aF (aN 1) (aF (bA qw (aZ 1) (cI 2)) (aF (bA yW (aZ 1) (aX (bA qw (aZ 1) (cI 2)))) (aF (bA dM (aX (bA qw (aZ 1) (cI 3))) (cI 1)) (aF (bN (.int 0)) (aF (bA dM (aZ 1) (cI 1)) aQ))))))))) (aX (cV gr (aF (aN 0) (aF (bN (.int 7)) aQ)))))) (bV (dY 8 (dg ur (cL (cI 0) (cL (aX (dg Bh (cL (aX (bA rG (cI 10) (cI 9))) (cL (aZ 8) dw)))) dw)))) (bV (p8 [9,10] (lK (bA fY (aX (fQ (aF (bN (.str (aO "a"))) (aF (bN (.str (aO "ap"))) (aF (bN (.str (aO "b"))) aQ))))) (aX (cV gr (aF (aN 0) (aF (aN 5) aQ))))) (lK (bA fY (aX (fQ (aF (bN (.str (aO "p"))) (aF (bN (.str (aO "p"))) (aF (bN (.str (aO "q"))) (aF (bN (.str (aO "pq"))) aQ)))))) (aX (cV gr (aF (aN 0) (aF (bN (.int 4)) aQ))))) aQ))) (vN 6 (dX (aF (aN 7) (aF (aN 10) (aF (aN 8) (aF (bA dM (aZ 4) (aX (cV gr (aF (aN 0) (aF (aN 3) aQ))))) (aF (aN 9) (aF (bA fY (cS "abcd") (aX (cV gr (aF (aN 0) (aF (bN (.int 4)) aQ))))) aQ)))))))))))
abbrev Vh:FS:=(bV (p8 [2,3] (lK (cV Nb (aF (aN 0) (aF (bN (.int 10)) aQ))) (lK (bA fY (aX (fQ (aF (bN (.int 3)) (aF (bN (.int 9)) (aF (bN (.int 60)) (aF (bN (.int 99999)) aQ)))))) (aX (cV gr (aF (aN 0) (aF (bN (.int 4)) aQ))))) aQ))) (bV (p8 [4,5,6] (lK (bA rH (aX (bA fY (aX (fQ (aF (bN (.int 0)) (aF (bN (.int 500)) (aF (bN (.int 99900)) aQ))))) (aX (cV gr (aF (aN 0) (aF (bN (.int 3)) aQ)))))) (aX (dg Fd (cL (aX (bA tL (aZ 3) (cI 99))) dw)))) (lK (bA dM (cI 1) (aX (cV gr (aF (aN 0) (aF (bN (.int 3)) aQ))))) (lK (fQ aQ) aQ)))) (bV (iD (iV (qQ (aZ 2) rY (qP (aX (cV gr (aF (aN 0) (aF (bN (.int 11)) aQ))))))) (bZ 7) LC) (vI 6))))
def HN:FN:=fN 2 11 Vh
abbrev Uy(c0:az):FS:=(m6 c0 (aO "put_paper") 1 (Lz c0) (aF (aN 2) (aF (aN 3) (aF (aN 4) (aF (aN 5) (aF (aN 6) (aF (aN 7) aQ)))))))
abbrev Xg(c0:az):FS:=(bV (Fj c0 1 (I9 c0)) (bV (m6 c0 (aO "add_part") 1 (sH c0) (aF (bN (.str (aO "p"))) (aF (bN (.str (aO ""))) aQ))) (bV (m6 c0 (aO "add_part") 1 (sH c0) (aF (bN (.str (aO "q"))) (aF (bN (.str (aO "p"))) aQ))) (bV (m6 c0 (aO "add_part") 1 (sH c0) (aF (bN (.str (aO "pq"))) (aF (bN (.str (aO ""))) aQ))) (bV (iD (ql (aN 0)) (nD 6 (cU (bZ 2) (cU (bZ 3) (cU (bZ 4) (cU (bZ 5) (cU (bZ 6) (cU (bZ 7) mY))))))) (Uy c0)) (vI 1))))))
def Eg(c0:az):zO:=CQ 1 8 (Xg c0)
abbrev Mu:FT:=(eU (bA (rO aq) (aZ 0) (aZ 1)))
abbrev Vi:FE:=(aN 0)
abbrev acd:FE:=(bA zu (aZ 0) (aZ 1))
abbrev HQ:FT:=(qC (eU (bA jy (aZ 1) (aZ 0))) (jo (aX (dg uB (cL (aX (eF (iB (aZ 1)) .one dh acd [0])) dw)))))
abbrev Vj:FE:=(aN 1)
abbrev DK:FS:=(Q8 13 (aX (eF (iB (aZ 3)) .one HQ Vj [14])))
abbrev Vk:FE:=(bA fY (aZ 0) (cI 2))
abbrev Vm:FE:=(bA fY (aZ 0) (cI 0))
abbrev HR:FS:=(fZ (qC (eU (bA tK (aX (dX (aF (bA fY (aZ 11) (cI 1)) (aF (bA fY (aZ 11) (cI 4)) aQ)))) (aX (dX (aF (aN 5) (aF (aN 8) aQ)))))) (qC (eU (bA tL (aX (bA fY (aZ 11) (cI 2))) (aZ 1))) (eU (xT FJ tL (aZ 7) (aX (bA fY (aZ 11) (cI 3))) (aX (bA dM (aZ 7) (aZ 2))))))) (vN 10 (aN 11)) g8)
abbrev HS:FS:=(bV (dY 10 (fQ aQ)) (bV (iD (iV (aN 0)) (bZ 11) HR) (bV (dY 12 (dg yH (cL (aX (eF (iB (aZ 10)) .one dh Vm [])) dw))) (fZ (qC (eU (bA FP (aX (dg vJ (cL (aZ 10) dw))) (cI 1))) (qC (eU (bA FQ (aX (dg Fe (cL (aX (eF (iB (aZ 10)) .one dh Vk [])) dw))) (aZ 1))) (eU (bA (rO aq) (aZ 12) (aZ 3))))) (vN 3 (aN 12)) g8))))
abbrev Yh:FS:=(bV (dY 3 (fQ aQ)) (bV (iD (ql (aN 0)) (nD 6 (cU (bZ 4) (cU (bZ 5) (cU (bZ 6) (cU (bZ 7) (cU (bZ 8) (cU (bZ 9) mY))))))) HS) (bV (dY 13 (fQ aQ)) (bV (iD (iV (aN 3)) (bZ 14) DK) (eV (dg yz (cL (aX (eF (iB (aZ 3)) .one Mu Vi [13])) dw)))))))
def Bm:FN:=fN 3 15 Yh
abbrev GQ(c0:az):FS:=(bV (dY 7 (dg wQ (cL (aZ 9) dw))) (bV (dY 10 (cV (wK c0) (aF (aN 1) (aF (aN 3) (aF (aN 4) (aF (aN 7) aQ)))))) (fZ (pC (jW (jo (aX (qI "bool" (aZ 10))))) (pC (eU (bA jy (aZ 10) (aX (bA (rO aH) (aX (dg yH (cL (aZ 9) dw))) (aZ 2))))) (eU (bA jy (aZ 7) (aZ 9))))) (eV (bN (.bool aH))) g8)))
abbrev GR(c0:az):FT:=(eU (bA Iw (aZ 0) (aZ 1)))
abbrev La(c0:az):FE:=(bA dM (aZ 1) (aX (fQ (aF (aN 0) aQ))))
abbrev GX(c0:az):FS:=(bV (dY 6 (zy (eU (bA tK (aX (cV gr (aF (aN 0) (aF (bN (.int 2)) aQ)))) (cI 0))) (JK (aZ 5) (aX (pF (cI 1)))) (dg wQ (cL (aZ 5) dw)))) (bV (dY 7 (dg wQ (cL (aZ 6) dw))) (bV (fZ (pC (eU (bA Jp (aX (cV (wK c0) (aF (aN 1) (aF (aN 3) (aF (aN 4) (aF (aN 7) aQ)))))) (aX (bN (.bool aq))))) (eU (bA jy (aZ 7) (aZ 6)))) (eV (bN (.bool aH))) g8) (bV (dY 8 (bA dM (aX (fQ (aF (qQ (aZ 5) (qP (cI 1)) rY) (aF (qQ (aZ 5) rY (qP (aX (pF (cI 1))))) aQ)))) (aX (eF (iB (aX (cZ c0 (aO "names") 1 (mj c0) aQ))) .one (GR c0) (La c0) [5])))) (iD (iV (aN 8)) (bZ 9) (GQ c0))))))
abbrev TJ(c0:az):FS:=(bV (iD (iV (aN 2)) (bZ 5) (GX c0)) (eV (bA JL (aX (cV (wK c0) (aF (aN 1) (aF (aN 3) (aF (aN 4) (aF (fQ aQ) aQ)))))) (aX (bN (.bool aH))))))
def Hj(c0:az):FN:=fN 5 11 (TJ c0)
abbrev Nf(c0:az):FE:=(cZ c0 (aO "paper_of") 1 (qX c0) (aF (aN 0) aQ))
abbrev DR(c0:az):FS:=(fZ (qC (eU (bA FJ (aZ 13) (aX (bA rG (cI 10) (cI 9))))) (eU (bA jy (aX (cV (wO c0) (aF (aN 6) (aF (aN 13) (aF (aN 14) aQ))))) (aX (cV Bm (aF (aN 5) (aF (aN 13) (aF (aN 14) aQ)))))))) (eV (bN (.bool aH))) g8)
abbrev Ig(c0:az):FS:=(Bu 11 (bN (.str (aO "more"))))
abbrev DW(c0:az):FE:=(qI "list" (aZ 0))
abbrev Ng(c0:az):FS:=(bV (Qs 10 (wO c0) (aF (aN 6) (aF (aN 3) (aF (aN 4) aQ)))) (bV (fZ (pC (jW (jo (aX (tD (qI "list" (aZ 10)))))) (pC (jW (jo (aX (tD (dg uB (cL (aX (eF (iB (aZ 10)) .one dh (DW c0) [])) dw)))))) (Es (eU (bA jy (aZ 10) (aZ 7)))))) (eV (bN (.bool aH))) g8) (bV (JN 10 11 (Ig c0)) (Bu 10 (fQ aQ)))))
abbrev We(c0:az):FE:=(cZ c0 (aO "paper_of") 1 (qX c0) (aF (aN 0) aQ))
abbrev Ih(c0:az):FS:=(bV (FW 2 (cV Ef (aF (aN 0) (aF (aN 1) aQ)))) (bV (dY 3 (bA fY (aX (fQ (aF (bN (.int 0)) (aF (bN (.int 1)) (aF (bA dM (cI 2) (aX (cV gr (aF (aN 2) (aF (bN (.int 60)) aQ))))) (aF (bA dM (cI 1) (aX (cV gr (aF (aN 2) (aF (bA rG (cI 10) (cI 9)) aQ))))) (aF (bA rG (cI 10) (cI 9)) aQ))))))) (aX (cV gr (aF (aN 2) (aF (bN (.int 5)) aQ)))))) (bV (dY 4 (bA fY (aX (fQ (aF (bN (.int 1)) (aF (bN (.int 2)) (aF (bA dM (cI 1) (aX (cV gr (aF (aN 2) (aF (bN (.int 9)) aQ))))) (aF (bA dM (cI 1) (aX (cV gr (aF (aN 2) (aF (bN (.int 70)) aQ))))) (aF (bA dM (cI 1) (aX (cV gr (aF (aN 2) (aF (bN (.int 99998)) aQ))))) aQ))))))) (aX (cV gr (aF (aN 2) (aF (bN (.int 5)) aQ)))))) (bV (dY 5 (cV HN (aF (aN 2) (aF (aN 3) aQ)))) (bV (JM 6 (Eg c0) (aF (aN 5) aQ)) (bV (p8 [7,8] (lK (cV Bm (aF (aN 5) (aF (aN 3) (aF (aN 4) aQ)))) (lK (dg xj (cL (aX (eF (iB (aX (cZ c0 (aO "names") 6 (mj c0) aQ))) .one dh (We c0) [6])) dw)) aQ))) (bV (iD (uU (cI 2)) (bZ 9) (Ng c0)) (bV (fZ (jW (jo (aX (cV (Hj c0) (aF (aN 2) (aF (aN 6) (aF (aN 7) (aF (aN 3) (aF (aN 4) aQ))))))))) (eV (bN (.bool aH))) g8) (bV (dY 12 (fQ (aF (dX (aF (bA dM (aZ 3) (cI 1)) (aF (aN 4) aQ))) (aF (dX (aF (dg ur (cL (cI 0) (cL (aX (bA yW (aZ 3) (cI 1))) dw))) (aF (aN 4) aQ))) (aF (dX (aF (aN 3) (aF (bA dM (aZ 4) (cI 1)) aQ))) (aF (dX (aF (bA qw (aZ 3) (cI 2)) (aF (aN 4) aQ))) aQ)))))) (bV (iD (ql (bA dM (aZ 12) (aX (fQ (aF (dX (aF (aN 3) (aF (aN 4) aQ))) aQ))))) (nD 2 (cU (bZ 13) (cU (bZ 14) mY))) (DR c0)) (fZ (eU (bA jy (aX (dg xj (cL (aX (eF (iB (aX (cZ c0 (aO "names") 6 (mj c0) aQ))) .one dh (Nf c0) [6])) dw))) (aZ 8))) (eV (bN (.bool aH))) g8)))))))))))
abbrev YM(c0:az):FS:=(bV (iD (uU (aX (dg ur (cL (cI 1) (cL (aX (dg Bh (cL (cI 5) (cL (aX (xJ 0)) dw)))) dw))))) (bZ 1) (Ih c0)) (eV (bN (.bool aq))))
def YQ(c0:az):FN:=fN 1 15 (YM c0)
theorem am5(F:f9 K "risen" "risen" W7 f fd)(T:Txt K mg c0):dG P w K mg base dJ 1 f fd zar (spT K IW):=
 mD (body:=Xc) F am3 λb A a s H E c=>(@dj _ _ _ (@jM _ _ _ _ (DP ajq amD rfl T.Xb bz (@gC _ _ _ _ _ (@aY _ _ _ (jU ai9 amZ rfl T.vz bz (@gC _ _ _ _ _ (@aY _ _ _ (@dD _ _ _ _ _ _ _ _ _ jd je (02 0) (@aY _ _ _ (@kJ _ _ _ _ _ (04 (01 1)))))) iz 00))) iz 00))))
theorem am6(F:f9 K "__init__" "Book.__init__" W5 f fd)(T:Txt K mg c0):dG P w K mg base dJ 1 f fd zaj (nY K (I9 c0)):=
 Jr (body:=(Xd c0)) F am2 λb A a s H E c=>(@dj _ _ _ (@aoC _ _ _ _ _ _ _ _ _ _ _ _ _ T.cl T.DQ (pv 0) (oO.cons gZ (@kJ _ _ _ _ _ bR) (oO.cons gZ (@kJ _ _ _ _ _ bR) (oO.cons gZ (@kJ _ _ _ _ _ bR) (oO.cons gZ (@kJ _ _ _ _ _ bR) (oO.cons gZ (@kJ _ _ _ _ _ bR) (oO.cons gZ amt oO.nil)))))) bH aP 00 00))
theorem aoS(F:f9 K "now" "Book.now" Yc f fd)(T:Txt K mg c0):dG P w K mg base dJ 1 f fd zak (spT K (jw c0)):=
 mD (body:=(O1 c0)) F aoR λc A a s H E b=>(@dj _ _ _ (@jM _ _ _ _ (@Ox _ _ _ _ _ _ _ b (@Ox _ _ _ _ _ _ _ b (@WY _ _ _ _ _ _ T.cl T.DQ (01 0) 00) (@aY _ _ _ (@Oi _ _ _ _ 03)) (λ_ _=>rfl)) (02 1) (λ_ _=>rfl))))
theorem am7(F:f9 K "turn" "Book.turn" W6 f fd)(T:Txt K mg c0):dG P w K mg base dJ 1 f fd zal (nY K (yK c0)):=
 Jr (body:=(Xe c0)) F ac5 λc A a s H E b=>(@cJ _ _ _ _ _ (aed (i:=3) ac5.nd rfl 007 (@Ox _ _ _ _ _ _ _ b (@WY _ _ _ _ _ _ T.cl T.DQ (01 0) 00) (@aY _ _ _ (@Oi _ _ _ _ 03)) (λ_ _=>rfl)) rfl T.OD bz) (@cJ _ _ _ _ _ (@aee _ _ _ _ _ _ _ _ _ b.iT (pv 3) (02 1) (01 2) 013 00 00 00) (@dj _ _ _ (@aoA _ _ _ _ _ _ _ _ (@WY _ _ _ _ _ _ T.cl T.DQ (01 0) 00) (01 3) 00 00 00 00 00 00))))
theorem ajR(F:f9 K "has_part" "Book.has_part" Ma f fd)(T:Txt K mg c0)(e:jz P w K mg base c0 "now" 1 zak (spT K (jw c0))):dG P w K mg base dJ 2 f fd zap (spT K (wI c0)):=
 mD (body:=(Uh c0)) F ajQ λd A a s H E c=>(@dj _ _ _ (@jM _ _ _ _ (@wZ _ _ _ _ _ _ _ _ _ (Og c.iT) Yu (02 1) (@aY _ _ _ (nQ (T:=(.many 2)) (NT:=(["name","within"]:List Str)) (NF:=([]:List Str)) (js:=[]) (lN.ok (N0:=zap) (jg:=cO Ma) bz rfl rfl) (#[_,_,_,rfl,(.cons 001 (.cons 001 .nil)),rfl]) rfl (@JH _ _ _ _ (@aY _ _ _ (@pQ _ _ _ _ _ _ _ _ _ _ _ _ _ _ (pv 0) T.cl e (c.mono aP) (04 (bD gZ)) 00 00 00))) (λb=>#[ou,(01 0)]))) 008)))
theorem ajz(F:f9 K "need_part" "Book.need_part" T5 f fd)(T:Txt K mg c0)(b:jz P w K mg base c0 "has_part" 2 zap (spT K (wI c0))):dG P w K mg base dJ 3 f fd zap (spT K (u9 c0)):=
 mD (body:=(T6 c0)) F ajy λc A a s H E d=>(@dj _ _ _ (@oH _ _ _ _ _ _ _ _ (@yR _ _ _ _ (@uq _ _ _ (@aY _ _ _ (@pQ _ _ _ _ _ _ _ _ _ _ _ _ _ _ (pv 0) T.cl b (d.mono aP) (04 (01 1)) 00 00 00)) 013)) (@dj _ _ _ Qp) oA))
theorem ajS(F:f9 K "add_part" "Book.add_part" Ue f fd)(T:Txt K mg c0)(h:jQ P w K mg base "risen" 1 zar (spT K IW))(g:jz P w K mg base c0 "now" 1 zak (spT K (jw c0)))(e:jz P w K mg base c0 "turn" 1 zal (nY K (yK c0)))(c:jz P w K mg base c0 "has_part" 2 zap (spT K (wI c0)))(i:jz P w K mg base c0 "need_part" 3 zap (spT K (u9 c0))):dG P w K mg base dJ 4 f fd zam (nY K (sH c0)):=
 Jr (body:=(Ui c0)) F ajP λd A b s H E a=>(@cJ _ _ _ _ _ (@oH _ _ _ _ _ _ _ _ (@uq _ _ _ (@aY _ _ _ (@pQ _ _ _ _ _ _ _ _ _ _ _ _ _ _ (pv 0) T.cl c 005 (04 (01 1)) 00 00 00)) 013) (@dj _ _ _ Qp) oA) (@cJ _ _ _ _ _ (@oH _ _ _ _ _ _ _ _ (@kI _ _ _ _ _ _ _ _ _ (xg a.units) xu (02 2) (@aY _ _ _ (bD gZ)) (j6 _)) (@dj _ _ _ (Wy (@pQ _ _ _ _ _ _ _ _ _ _ _ _ _ _ (pv 0) T.cl i 005 (04 (01 2)) 00 00 00))) oA) (@dj _ _ _ (@An _ _ _ _ _ _ _ _ _ _ _ _ _ _ _ (pv 0) T.cl e 005 (@aW _ _ _ _ _ (bD gZ) (@aW _ _ _ _ _ (gn h 005 rfl (@aW _ _ _ _ _ (@pQ _ _ _ _ _ _ _ _ _ _ _ _ _ _ (pv 0) T.cl g 005 (04 (bD gZ)) 00 00 00) (04 (@kJ _ _ _ _ _ (@aW _ _ _ _ _ (01 1) (04 (01 2)) 00))) 00)) bR 00) 00) 00 00 00 00))))
theorem ajk(F:f9 K "kept_paper" "Book.kept_paper" Tu f fd)(T:Txt K mg c0)(d:jz P w K mg base c0 "now" 1 zak (spT K (jw c0))):dG P w K mg base dJ 2 f fd zao (spT K (Hg c0)):=
 mD (body:=(Tw c0)) F aaV λc A a s H E b=>(@cJ _ _ _ _ _ (jV (i:=2) aaV.nd rfl 007 (@pQ _ _ _ _ _ _ _ _ _ _ _ _ _ _ (pv 0) T.cl d (b.mono aP) (04 (bD gZ)) 00 00 00)) (@cJ _ _ _ _ _ (@oH _ _ _ _ _ _ _ _ (aoF b.iT (02 1) (01 2) 008) (@dj _ _ _ Qp) oA) (@dj _ _ _ (@jM _ _ _ _ (@Ox _ _ _ _ _ _ _ b (@bB _ _ _ (pv 2)) (@bJ _ _ _ (pv 1)) (λ_ _=>rfl))))))
theorem ajl(F:f9 K "keep_paper" "Book.keep_paper" Tv f fd)(T:Txt K mg c0)(e:jz P w K mg base c0 "now" 1 zak (spT K (jw c0)))(d:jz P w K mg base c0 "turn" 1 zal (nY K (yK c0))):dG P w K mg base dJ 2 f fd zaq (nY K (Hh c0)):=
 Jr (body:=(Tz c0)) F aaW λc A a s H E b=>(@cJ _ _ _ _ _ (aed (i:=3) aaW.nd rfl 007 (@pQ _ _ _ _ _ _ _ _ _ _ _ _ _ _ (pv 0) T.cl e (b.mono aP) (04 (bD gZ)) 00 00 00) rfl T.OD bz) (@cJ _ _ _ _ _ (@aee _ _ _ _ _ _ _ _ _ b.iT (pv 3) (02 1) (01 2) 013 00 00 00) (@dj _ _ _ (@An _ _ _ _ _ _ _ _ _ _ _ _ _ _ _ (pv 0) T.cl d (b.mono aP) (@aW _ _ _ _ _ (bD gZ) (04 (01 3)) 00) 00 00 00 00))))
theorem ajA(F:f9 K "put_paper" "Book.put_paper" T4 f fd)(T:Txt K mg c0)(e:jz P w K mg base c0 "now" 1 zak (spT K (jw c0)))(g:jz P w K mg base c0 "need_part" 3 zap (spT K (u9 c0)))(d:jz P w K mg base c0 "keep_paper" 2 zaq (nY K (Hh c0))):dG P w K mg base dJ 4 f fd zan (nY K (Lz c0)):=
 Jr (body:=(T7 c0)) F ajx λc A b s H E a=>(@cJ _ _ _ _ _ (@oH _ _ _ _ _ _ _ _ (aqi a.iT (02 1) (@pQ _ _ _ _ _ _ _ _ _ _ _ _ _ _ (pv 0) T.cl e 005 (04 (bD gZ)) 00 00 00) 008) (@dj _ _ _ Qp) oA) (@cJ _ _ _ _ _ (Wy (@pQ _ _ _ _ _ _ _ _ _ _ _ _ _ _ (pv 0) T.cl g (a.mono aP) (@aW _ _ _ _ _ (@bB _ _ _ (pv 2)) bR (by rfl)) (by rfl) (by rfl) (by rfl))) (@dj _ _ _ (@An _ _ _ _ _ _ _ _ _ _ _ _ _ _ _ (pv 0) T.cl d (a.mono aP) (@aW _ _ _ _ _ (@bB _ _ _ (pv 1)) (@aW _ _ _ _ _ (@kJ _ _ _ _ _ (@aW _ _ _ _ _ (@kJ _ _ _ _ _ (@aW _ _ _ _ _ (@bB _ _ _ (pv 2)) (@aW _ _ _ _ _ (@bB _ _ _ (pv 3)) (@aW _ _ _ _ _ (@bB _ _ _ (pv 5)) (@aW _ _ _ _ _ (@bB _ _ _ (pv 6)) bR (by rfl)) (by rfl)) (by rfl)) (by rfl))) (@aW _ _ _ _ _ (@bB _ _ _ (pv 4)) (@aW _ _ _ _ _ (@kJ _ _ _ _ _ bR) bR (by rfl)) (by rfl)) (by rfl))) bR (by rfl)) (by rfl)) (by rfl) (by rfl) (by rfl) (by rfl)))))
theorem alC(F:f9 K "names" "Book.names" Wa f fd)(T:Txt K mg c0)(c:jz P w K mg base c0 "now" 1 zak (spT K (jw c0))):dG P w K mg base dJ 2 f fd zaj (spT K (mj c0)):=
 mD (body:=(Wb c0)) F alB λb A a s H E d=>(@dj _ _ _ (@jM _ _ _ _ (amN rfl (@pQ _ _ _ _ _ _ _ _ _ _ _ _ _ _ (pv 0) T.cl c (d.mono aP) (04 (bD gZ)) 00 00 00) rfl T.vz bz)))
theorem ajT(F:f9 K "paper_of" "Book.paper_of" Ug f fd)(T:Txt K mg c0)(c:jz P w K mg base c0 "kept_paper" 2 zao (spT K (Hg c0))):dG P w K mg base dJ 3 f fd zao (spT K (qX c0)):=
 mD (body:=(Uj c0)) F Ly λb A a s H E d=>(@cJ _ _ _ _ _ (@aeK _ _ _ _ _ _ _ (@pQ _ _ _ _ _ _ _ _ _ _ _ _ _ _ (pv 0) T.cl c (d.mono aP) (04 (01 1)) 00 00 00) (Je rfl (kj (gM (i:=2) Ly.nd rfl 007) (kj (gM (i:=3) Ly.nd rfl 007) (kj (gM (i:=4) Ly.nd rfl 007) Ik)))) (@Jk _ _ _ _ (@kE _ _ _ _ _ gY (@kE _ _ _ _ _ gY (@kE _ _ _ _ _ gY IK)))) 00 00 00) (@dj _ _ _ (@jM _ _ _ _ (@dD _ _ _ _ _ _ _ _ _ jd je (02 2) (@aY _ _ _ (@kJ _ _ _ _ _ (04 (01 3))))))))
theorem aja(F:f9 K "alike_papers" "alike_papers" Tj f fd)(T:Txt K mg c0)(d:jz P w K mg base c0 "names" 2 zaj (spT K (mj c0)))(e:jz P w K mg base c0 "paper_of" 3 zao (spT K (qX c0))):dG P w K mg base dJ 4 f fd zad (vP K (z6 c0)):=
 ae9 (body:=(Tn c0)) F yp λc A b s H E a=>(@cJ _ _ _ _ _ (aoK (i:=2) yp.nd rfl 007) (@cJ _ _ _ _ _ (@rE _ _ _ _ _ _ _ _ _ qU rfl (zA (@M5 _ _ _ _ _ _ _ _ _ _ _ (pv 0) T.cl d 005 00)) (gM (i:=3) yp.nd rfl 007) gY (@cJ _ _ _ _ _ (@aeK _ _ _ _ _ _ _ (@pQ _ _ _ _ _ _ _ _ _ _ _ _ _ _ (pv 0) T.cl e 005 (04 (01 3)) 00 00 00) (Je rfl (kj (gM (i:=4) yp.nd rfl 007) (kj (gM (i:=5) yp.nd rfl 007) (kj (gM (i:=6) yp.nd rfl 007) (kj (gM (i:=7) yp.nd rfl 007) (kj (gM (i:=8) yp.nd rfl 007) Ik)))))) (@Jk _ _ _ _ (@kE _ _ _ _ _ gY (@kE _ _ _ _ _ gY (@kE _ _ _ _ _ gY (@kE _ _ _ _ _ gY (@kE _ _ _ _ _ gY IK)))))) 00 00 00) (@dj _ _ _ (@oH _ _ _ _ _ _ _ _ (@kI _ _ _ _ _ _ _ _ _ (Ag a.Bc) Bq (02 5) (02 1) (j6 _)) (@dj _ _ _ (aqo (i:=2) a.iT (pv 2) (@aY _ _ _ (@kJ _ _ _ _ _ (@aW _ _ _ _ _ (01 6) (04 (01 4)) 00))) (@kJ _ _ _ _ _ (@aW _ _ _ _ _ (01 3) (@aW _ _ _ _ _ (01 5) (04 (01 8)) 00) 00)) #[rfl,rfl,rfl,rfl])) oA))) 013) (@dj _ _ _ (akC rfl (pv 2) rfl T.xm))))
theorem ajb(F:f9 K "names_within" "names_within" Dk f fd)(T:Txt K mg c0):dG P w K mg base dJ 1 f fd zah (spT K Lq):=
 mD (body:=Lp) F aaM λd A a s H E c=>(@cJ _ _ _ _ _ (amC (i:=4) (T:=(.many 3)) (NT:=za4) (NF:=(["first","days"]:List Str)) (js:=[2,3]) (lN.ok (N0:=zag) (jg:=cO Dk) bz rfl rfl) (#[_,_,_,rfl,(.cons 001 (.cons 001 (.cons 001 .nil))),rfl]) rfl (@JH _ _ _ _ (02 0)) (λb=>#[(@IV _ _ _ (aeI XN Yt (Ag c.Bc) Bq (02 3) (02 2) (@aY _ _ _ (@dD _ _ _ _ _ _ _ _ _ jd je (02 3) (02 4))))),(@kJ _ _ _ _ _ (@aW _ _ _ _ _ (01 0) (04 (01 1)) 00))]) 00 aaM.nd rfl rfl) (@cJ _ _ _ _ _ (@oH _ _ _ _ _ _ _ _ (@kI _ _ _ _ _ _ _ _ _ (Ag c.Bc) Bq (@aY _ _ _ (jU (acy rfl) aeS rfl T.Qw bz (@gC _ _ _ _ _ (@aY _ _ _ (nQ (T:=(.many 2)) (NT:=za5) (NF:=([]:List Str)) (js:=[]) (lN.ok (N0:=zag) (jg:=cO Dk) bz rfl rfl) (#[_,_,_,rfl,(.cons 001 (.cons 001 .nil)),rfl]) rfl (@JH _ _ _ _ (02 4)) (λb=>#[ou,(01 1)]))) iz 00))) (02 1) (j6 _)) (@dj _ _ _ (@jM _ _ _ _ (@lJ _ _ _ _ bR))) oA) (@dj _ _ _ (@jM _ _ _ _ (nQ (T:=(.many 2)) (NT:=za5) (NF:=([]:List Str)) (js:=[]) (lN.ok (N0:=zag) (jg:=cO Dk) bz rfl rfl) (#[_,_,_,rfl,(.cons 001 (.cons 001 .nil)),rfl]) rfl (@JH _ _ _ _ (02 4)) (λb=>#[ou,(01 0)]))))))
theorem ah3(F:f9 K "is_within_another" "is_within_another" Gu f fd)(T:Txt K mg c0):dG P w K mg base dJ 1 f fd zai (spT K KQ):=
 mD (body:=R6) F ah2 λd A a s H E c=>(@dj _ _ _ (@jM _ _ _ _ (jU (amT rfl) aqn rfl T.YK bz (@gC _ _ _ _ _ (@aY _ _ _ (nQ (T:=.one) (NT:=(["other"]:List Str)) (NF:=za6) (js:=[0]) (lN.ok (N0:=zai) (jg:=cO Gu) bz rfl rfl) (#[_,001,rfl]) rfl (qb (02 1)) (λb=>#[ou,(@apV _ _ _ _ _ _ _ (@wZ _ _ _ _ _ _ _ _ _ (xg c.units) xu (02 0) (02 1) (j6 _)) (@apU _ _ _ _ _ (jU (Mx rfl) Oq rfl T.Fq bz (@gC _ _ _ _ _ (@aY _ _ _ (nQ (T:=.one) (NT:=(["name"]:List Str)) (NF:=(["other"]:List Str)) (js:=[0]) (lN.ok (N0:=(["other","names"]:List Str)) (jg:=acz _ (cO Gu)) bz rfl rfl) (#[_,001,rfl]) rfl (qb (02 1)) (λb=>#[ou,(@wZ _ _ _ _ _ _ _ _ _ (Og c.iT) Yu (02 0) (02 1) 008)]))) iz (by rfl)))))]))) iz (by rfl)))))
theorem aiX(F:f9 K "longest_lists" "longest_lists" Di f fd)(T:Txt K mg c0)(e:jQ P w K mg base "names_within" 1 zah (spT K Lq))(g:jQ P w K mg base "is_within_another" 1 zai (spT K KQ)):dG P w K mg base dJ 2 f fd zaf (spT K Le):=
 mD (body:=Te) F SN λd A a s H E c=>(@cJ _ _ _ _ _ (jV (i:=3) SN.nd rfl 007 (aqt (T:=(.many 3)) (NT:=za4) (NF:=([]:List Str)) (js:=[]) (lN.ok (N0:=zae) (jg:=cO Di) bz rfl rfl) (#[_,_,_,rfl,(.cons 001 (.cons 001 (.cons 001 .nil))),rfl]) rfl rfl T.vz (@JH _ _ _ _ (02 0)) (λb=>#[ou,(01 2)]))) (@cJ _ _ _ _ _ (jV (i:=4) SN.nd rfl (yO rfl) (nQ (T:=.one) (NT:=(["first"]:List Str)) (NF:=zaf) (js:=[0,1,2]) (lN.ok (N0:=zae) (jg:=cO Di) bz rfl rfl) (#[_,001,rfl]) rfl (qb (02 3)) (λb=>#[ou,(gn e (c.mono aP) rfl (@aW _ _ _ _ _ (01 1) (@aW _ _ _ _ _ (01 2) (@aW _ _ _ _ _ (01 0) (04 (01 3)) 00) 00) 00))]))) (@dj _ _ _ (@jM _ _ _ _ (nQ (T:=.one) (NT:=za6) (NF:=(["lists"]:List Str)) (js:=[4]) (lN.ok (N0:=zae) (jg:=cO Di) bz rfl rfl) (#[_,001,rfl]) rfl (qb (02 4)) (λb=>#[(@IV _ _ _ (PW.pt (@Be _ _ _ _ _ _ _ (@uq _ _ _ (02 0) 013) (@Iz _ _ _ _ (@yR _ _ _ _ (@uq _ _ _ (@aY _ _ _ (gn g (c.mono aP) rfl (@aW _ _ _ _ _ (01 0) (04 (01 1)) 00))) 013)))))),(01 0)]))))))
theorem alD(F:f9 K "splits" "splits" M8 f fd)(T:Txt K mg c0)(e:jQ P w K mg base "alike_papers" 4 zad (vP K (z6 c0)))(g:jQ P w K mg base "longest_lists" 2 zaf (spT K Le)):dG P w K mg base dJ 5 f fd zaa (spT K (wO c0)):=
 mD (body:=(Wc c0)) F alA λd A a s H E c=>(@dj _ _ _ (@jM _ _ _ _ (jU (aaU c.ae5) ab8 rfl T.vz bz (@gC _ _ _ _ _ (@aY _ _ _ (aqm (T1:=.one) (T2:=.one) (lU:=(["papers"]:List Str)) (kZ:=za6) (NF:=(["bound","days"]:List Str)) (js:=[1,2]) (lN.ok (N0:=zaa) (jg:=cO M8) bz rfl rfl) (#[_,001,rfl]) (#[_,001,rfl]) rfl (qb (@aY _ _ _ (aot e (c.mono aP) rfl (@aW _ _ _ _ _ (01 0) (04 (01 1)) 00)))) (λb=>#[ou,(zA (gn g (c.mono aP) rfl (@aW _ _ _ _ _ (01 0) (@aW _ _ _ _ _ (01 2) (04 (01 3)) 00) 00))),ou,(01 1)]))) iz 00))))
theorem aj6(F:f9 K "is_split" "is_split" Mm f fd)(T:Txt K mg c0)(g:jz P w K mg base c0 "paper_of" 3 zao (spT K (qX c0)))(e:jQ P w K mg base "splits" 5 zaa (spT K (wO c0))):dG P w K mg base dJ 6 f fd zac (spT K (wK c0)):=
 mD (body:=(Ux c0)) F abq λd A a s H E c=>(@cJ _ _ _ _ _ (@oH _ _ _ _ _ _ _ _ (PW.pt (@Ez _ _ _ _ _ _ _ (@yR _ _ _ _ (@uq _ _ _ (@aY _ _ _ (Jm aP (02 3) (Ij (v:=.ty "list") rfl T.xm bz rfl) rfl T.Ad bz)) 013)) (@Oh _ _ _ _ (@yR _ _ _ _ (@uq _ _ _ (@aY _ _ _ (jU (Mx rfl) Oq rfl T.Fq bz (@gC _ _ _ _ _ (@aY _ _ _ (nQ (T:=.one) (NT:=(["name"]:List Str)) (NF:=([]:List Str)) (js:=[]) (lN.ok (N0:=zab) (jg:=cO Mm) bz rfl rfl) (#[_,001,rfl]) rfl (qb (02 3)) (λb=>#[ou,(Jm aP (02 0) (Ij (v:=.ty "str") rfl T.YL bz rfl) rfl T.Ad bz)]))) iz 00))) 013))))) (@dj _ _ _ (@jM _ _ _ _ (bD vG))) oA) (@cJ _ _ _ _ _ (@rE _ _ _ _ _ _ _ _ _ qU rfl (zA (01 3)) (gM (i:=4) abq.nd rfl 007) gY (@dj _ _ _ (Wy (@pQ _ _ _ _ _ _ _ _ _ _ _ _ _ _ (pv 0) T.cl g (c.mono aP) (04 (01 4)) 00 00 00))) 013) (@dj _ _ _ (@jM _ _ _ _ (@wZ _ _ _ _ _ _ _ _ _ (afc c) Oz (@aY _ _ _ (jU (Uv rfl) V4 rfl T.vz bz (@gC _ _ _ _ _ (02 3) iz 00))) (@aY _ _ _ (gn e (c.mono aP) rfl (@aW _ _ _ _ _ (01 0) (@aW _ _ _ _ _ (01 1) (04 (01 2)) 00) 00))) 008)))))
theorem aoT(F:f9 K "_law_mix" "_law_mix" Yd f fd)(T:Txt K mg c0):dG P w K mg base dJ 1 f fd zas (spT K Jt):=
 mD (body:=Yg) F aei λb A a s H E c=>(@cJ _ _ _ _ _ (jV (i:=2) aei.nd rfl 007 (@dD _ _ _ _ _ _ _ _ _ Ba Bd (@aY _ _ _ (@dD _ _ _ _ _ _ _ _ _ yM yQ (@aY _ _ _ (@dD _ _ _ _ _ _ _ _ _ jd je (@aY _ _ _ (@dD _ _ _ _ _ _ _ _ _ jd je (@aY _ _ _ (@dD _ _ _ _ _ _ _ _ _ Ba Bd (02 0) 03)) (@aY _ _ _ (@dD _ _ _ _ _ _ _ _ _ yM yQ (@aY _ _ _ (@dD _ _ _ _ _ _ _ _ _ yM yQ (02 1) (02 1))) 03)))) 03)) 03)) 03)) (@dj _ _ _ (@jM _ _ _ _ (@dD _ _ _ _ _ _ _ _ _ Ba Bd (@aY _ _ _ (@dD _ _ _ _ _ _ _ _ _ yM yQ (02 2) (02 2))) 03))))
theorem am8(F:f9 K "_law_left" "_law_left" W8 f fd)(T:Txt K mg c0):dG P w K mg base dJ 1 f fd zat (spT K Ef):=
 mD (body:=Xf) F ac6 λb A a s H E c=>(@cJ _ _ _ _ _ (jV (i:=2) ac6.nd rfl 007 (@afM _ _ _ _ _ _ _ _ (@kI _ _ _ _ _ _ _ _ _ (Ag c.Bc) Bq (02 1) (@aY _ _ _ (adW (pv 0) rfl T.Ft bz)) (j6 _)) (@ap0 _ _ _ _ _ _ (pv 0) (02 1) (λ_ _=>rfl)) (bD bT))) (@dj _ _ _ (@jM _ _ _ _ (@lJ _ _ _ _ (@aW _ _ _ _ _ (@dD _ _ _ _ _ _ _ _ _ yM yQ (@aY _ _ _ (jU acr aeQ rfl T.Qt bz (@gC _ _ _ _ _ (02 2) iz 00))) (@aY _ _ _ (DP abL aeR rfl T.Qu bz (@gC _ _ _ _ _ (@aY _ _ _ (@wZ _ _ _ _ _ _ _ _ _ afz afK (@aY _ _ _ (jU acr aeQ rfl T.Qt bz (@gC _ _ _ _ _ (02 2) iz 00))) (@aY _ _ _ (@dD _ _ _ _ _ _ _ _ _ Jf Jj 03 03)) (j6 _))) iz 00)))) (@aW _ _ _ _ _ (@dD _ _ _ _ _ _ _ _ _ jd je (02 2) (@aY _ _ _ (@dD _ _ _ _ _ _ _ _ _ yM yQ 03 (02 1)))) (04 (bD bT)) 00) 00)))))
theorem am9(F:f9 K "_law_pick" "_law_pick" W9 f fd)(T:Txt K mg c0)(c:jQ P w K mg base "_law_mix" 1 zas (spT K Jt)):dG P w K mg base dJ 2 f fd zau (spT K gr):=
 mD (body:=NQ) F ac7 λd A b s H E a=>(@cJ _ _ _ _ _ (aeL a.iT (pv 0) 03 (@dD _ _ _ _ _ _ _ _ _ jd je (@aY _ _ _ (@Bj _ _ _ _ _ _ (pv 0) 03 (λ_ _=>rfl))) 03)) (@cJ _ _ _ _ _ (@oH _ _ _ _ _ _ _ _ (@kI _ _ _ _ _ _ _ _ _ afy afJ (@aY _ _ _ (@Bj _ _ _ _ _ _ (pv 0) 03 (λ_ _=>rfl))) 03 (j6 _)) (@cJ _ _ _ _ _ (jV (i:=2) ac7.nd rfl 007 (@dD _ _ _ _ _ _ _ _ _ Ba Bd (@aY _ _ _ (@Bj _ _ _ _ _ _ (pv 0) 03 (λ_ _=>rfl))) (02 1))) (@cJ _ _ _ _ _ (aeL a.iT (pv 0) 03 (@dD _ _ _ _ _ _ _ _ _ DX Eb (@aY _ _ _ (@Bj _ _ _ _ _ _ (pv 0) 03 (λ_ _=>rfl))) (02 1))) (@dj _ _ _ (@Nu _ _ _ _ (pv 2))))) oA) (@dj _ _ _ (@jM _ _ _ _ (@dD _ _ _ _ _ _ _ _ _ Ba Bd (@aY _ _ _ (@dD _ _ _ _ _ _ _ _ _ DX Eb (@aY _ _ _ (gn c 005 rfl (@aW _ _ _ _ _ (gn c 005 rfl (@aW _ _ _ _ _ (@Bj _ _ _ _ _ _ (pv 0) 03 (λ_ _=>rfl)) (@aW _ _ _ _ _ (@Bj _ _ _ _ _ _ (pv 0) 03 (λ_ _=>rfl)) bR 00) 00)) (@aW _ _ _ _ _ (@dD _ _ _ _ _ _ _ _ _ jd je (@aY _ _ _ (@Bj _ _ _ _ _ _ (pv 0) 03 (λ_ _=>rfl))) 03) bR 00) 00))) 03)) (02 1))))))
theorem alE(F:f9 K "_law_names" "_law_names" M9 f fd)(T:Txt K mg c0)(c:jQ P w K mg base "_law_pick" 2 zau (spT K gr)):dG P w K mg base dJ 3 f fd zau (spT K Nb):=
 mD (body:=Wd) F DG λe A d s H E a=>(@cJ _ _ _ _ _ (jV (i:=2) DG.nd rfl (yO rfl) (bD gZ)) (@cJ _ _ _ _ _ (jV (i:=3) DG.nd rfl 007 (aol (@aY _ _ _ (bD gZ)) (@aY _ _ _ (nQ (T:=.one) (NT:=(["_law_k"]:List Str)) (NF:=(["_law_letters","_law_left_here"]:List Str)) (js:=[2,0]) (lN.ok (N0:=zav) (jg:=cO M9) bz rfl rfl) (#[_,001,rfl]) rfl (MN rfl T.Ed (@aY _ _ _ (@dD _ _ _ _ _ _ _ _ _ jd je 03 (@aY _ _ _ (gn c 005 rfl (@aW _ _ _ _ _ (01 0) (04 (bD bT)) 00)))))) (λb=>#[ou,(@oF _ _ _ _ _ _ _ _ (nO a.iT) oG (02 1) (@aY _ _ _ (gn c 005 rfl (@aW _ _ _ _ _ (01 2) (04 (bD bT)) 00))) (λ_ _=>rfl))]))))) (@cJ _ _ _ _ _ (ad2 (i:=4) (j:=5) (k:=6) rfl DG.nd rfl rfl rfl aP aP aP rfl rfl rfl (@sW _ _ _ _ _ (gn c 005 rfl (@aW _ _ _ _ _ (01 0) (04 (@dD _ _ _ _ _ _ _ _ _ jd je (@aY _ _ _ (jU ab1 aeP rfl T.Ft bz (@gC _ _ _ _ _ (02 3) iz 00))) 03)) 00)) (@sW _ _ _ _ _ (gn c 005 rfl (@aW _ _ _ _ _ (01 0) (04 (bD bT)) 00)) (@sW _ _ _ _ _ (@lJ _ _ _ _ bR) Jl 00) 00) 00) rfl) (@cJ _ _ _ _ _ (@rE _ _ _ _ _ _ _ _ _ qU rfl (MN rfl T.Ed (02 1)) (gM (i:=7) DG.nd rfl 007) gY (@cJ _ _ _ _ _ (jV (i:=8) DG.nd rfl 007 (@oF _ _ _ _ _ _ _ _ (nO a.iT) oG (02 2) (@aY _ _ _ (@dD _ _ _ _ _ _ _ _ _ Ba Bd (@aY _ _ _ (@dD _ _ _ _ _ _ _ _ _ jd je (02 5) (@aY _ _ _ (@dD _ _ _ _ _ _ _ _ _ yM yQ 03 (02 7))))) 03)) (λ_ _=>rfl))) (@dj _ _ _ (Ol (pv 6) (@oF _ _ _ _ _ _ _ _ (nO a.iT) oG (@aY _ _ _ (@lJ _ _ _ _ (@aW _ _ _ _ _ (@dD _ _ _ _ _ _ _ _ _ jd je (@aY _ _ _ (@dD _ _ _ _ _ _ _ _ _ jd je (@aY _ _ _ (@JG _ _ _ _ _ _ _ _ _ (02 3) JD (@JF _ _ _ (02 4)))) (02 8))) (@aY _ _ _ (@JG _ _ _ _ _ _ _ _ _ (02 3) (@JF _ _ _ (02 4)) JD))) (04 (01 8)) 00))) (@aY _ _ _ (@dD _ _ _ _ _ _ _ _ _ Ba Bd (02 7) 03)) (λ_ _=>rfl))))) 013) (@dj _ _ _ (@Nu _ _ _ _ (pv 6)))))))
theorem akE(F:f9 K "_law_papers" "_law_papers" Vg f fd)(T:Txt K mg c0)(b:jQ P w K mg base "_law_pick" 2 zau (spT K gr))(e:jQ P w K mg base "_law_names" 3 zau (spT K Nb)):dG P w K mg base dJ 4 f fd zaw (spT K HN):=
 mD (body:=Vh) F Ai λd A c s H E a=>(@cJ _ _ _ _ _ (XR (i:=2) (j:=3) rfl Ai.nd rfl rfl aP rfl rfl (@sW _ _ _ _ _ (gn e 005 rfl (@aW _ _ _ _ _ (01 0) (04 (bD bT)) 00)) (@sW _ _ _ _ _ (@oF _ _ _ _ _ _ _ _ (nO a.iT) oG (@aY _ _ _ (@lJ _ _ _ _ (@aW _ _ _ _ _ (bD bT) (@aW _ _ _ _ _ (bD bT) (@aW _ _ _ _ _ (bD bT) (04 (bD bT)) 00) 00) 00))) (@aY _ _ _ (gn b 005 rfl (@aW _ _ _ _ _ (01 0) (04 (bD bT)) 00))) (λ_ _=>rfl)) Jl 00) 00) rfl) (@cJ _ _ _ _ _ (ad2 (i:=4) (j:=5) (k:=6) rfl Ai.nd rfl rfl rfl aP aP aP rfl rfl rfl (@sW _ _ _ _ _ (@dD _ _ _ _ _ _ _ _ _ yM yQ (@aY _ _ _ (@oF _ _ _ _ _ _ _ _ (nO a.iT) oG (@aY _ _ _ (@lJ _ _ _ _ (@aW _ _ _ _ _ (bD bT) (@aW _ _ _ _ _ (bD bT) (04 (bD bT)) 00) 00))) (@aY _ _ _ (gn b 005 rfl (@aW _ _ _ _ _ (01 0) (04 (bD bT)) 00))) (λ_ _=>rfl))) (@aY _ _ _ (DP abL aeR rfl T.Qu bz (@gC _ _ _ _ _ (@aY _ _ _ (@wZ _ _ _ _ _ _ _ _ _ (Ag a.Bc) Bq (02 3) 03 (j6 _))) iz 00)))) (@sW _ _ _ _ _ (@dD _ _ _ _ _ _ _ _ _ jd je 03 (@aY _ _ _ (gn b 005 rfl (@aW _ _ _ _ _ (01 0) (04 (bD bT)) 00)))) (@sW _ _ _ _ _ (@lJ _ _ _ _ bR) Jl 00) 00) 00) rfl) (@cJ _ _ _ _ _ (@rE _ _ _ _ _ _ _ _ _ qU rfl (zA (@JG _ _ _ _ _ _ _ _ _ (02 2) JD (@JF _ _ _ (@aY _ _ _ (gn b 005 rfl (@aW _ _ _ _ _ (01 0) (04 (bD bT)) 00)))))) (gM (i:=7) Ai.nd rfl 007) gY (@cJ _ _ _ _ _ (jV (i:=8) Ai.nd rfl 007 (@oF _ _ _ _ _ _ _ _ (nO a.iT) oG (@aY _ _ _ (@lJ _ _ _ _ (@aW _ _ _ _ _ (@dD _ _ _ _ _ _ _ _ _ Xy XM (02 1) 03) (@aW _ _ _ _ _ (01 1) (@aW _ _ _ _ _ (@dD _ _ _ _ _ _ _ _ _ DX Eb (02 1) 03) (@aW _ _ _ _ _ (@dD _ _ _ _ _ _ _ _ _ Xy XM (02 1) (@aY _ _ _ (@dD _ _ _ _ _ _ _ _ _ DX Eb (02 1) 03))) (@aW _ _ _ _ _ (@dD _ _ _ _ _ _ _ _ _ jd je (@aY _ _ _ (@dD _ _ _ _ _ _ _ _ _ DX Eb (02 1) 03)) 03) (@aW _ _ _ _ _ (bD bT) (04 (@dD _ _ _ _ _ _ _ _ _ jd je (02 1) 03)) 00) 00) 00) 00) 00) 00))) (@aY _ _ _ (gn b 005 rfl (@aW _ _ _ _ _ (01 0) (04 (bD bT)) 00))) (λ_ _=>rfl))) (@cJ _ _ _ _ _ (jV (i:=8) Ai.nd rfl 007 (jU (UG rfl) WK rfl T.JQ bz (@gC _ _ _ _ _ 03 (@gC _ _ _ _ _ (@aY _ _ _ (jU (abK rfl) adX rfl T.Qv bz (@gC _ _ _ _ _ (@aY _ _ _ (@dD _ _ _ _ _ _ _ _ _ Jf Jj 03 03)) (@gC _ _ _ _ _ (02 8) iz 00) 00))) iz 00) 00))) (@cJ _ _ _ _ _ (XR (i:=9) (j:=10) rfl Ai.nd rfl rfl aP rfl rfl (@sW _ _ _ _ _ (@oF _ _ _ _ _ _ _ _ (nO a.iT) oG (@aY _ _ _ (@lJ _ _ _ _ (@aW _ _ _ _ _ (bD gZ) (@aW _ _ _ _ _ (bD gZ) (04 (bD gZ)) 00) 00))) (@aY _ _ _ (gn b 005 rfl (@aW _ _ _ _ _ (01 0) (04 (01 5)) 00))) (λ_ _=>rfl)) (@sW _ _ _ _ _ (@oF _ _ _ _ _ _ _ _ (nO a.iT) oG (@aY _ _ _ (@lJ _ _ _ _ (@aW _ _ _ _ _ (bD gZ) (@aW _ _ _ _ _ (bD gZ) (@aW _ _ _ _ _ (bD gZ) (04 (bD gZ)) 00) 00) 00))) (@aY _ _ _ (gn b 005 rfl (@aW _ _ _ _ _ (01 0) (04 (bD bT)) 00))) (λ_ _=>rfl)) Jl 00) 00) rfl) (@dj _ _ _ (Ol (pv 6) (@kJ _ _ _ _ _ (@aW _ _ _ _ _ (01 7) (@aW _ _ _ _ _ (01 10) (@aW _ _ _ _ _ (01 8) (@aW _ _ _ _ _ (@dD _ _ _ _ _ _ _ _ _ jd je (02 4) (@aY _ _ _ (gn b 005 rfl (@aW _ _ _ _ _ (01 0) (04 (01 3)) 00)))) (@aW _ _ _ _ _ (01 9) (@aW _ _ _ _ _ (@oF _ _ _ _ _ _ _ _ (nO a.iT) oG (@aY _ _ _ (bD gZ)) (@aY _ _ _ (gn b 005 rfl (@aW _ _ _ _ _ (01 0) (04 (bD bT)) 00))) (λ_ _=>rfl)) bR 00) 00) 00) 00) 00) 00))))))) 013) (@dj _ _ _ (@Nu _ _ _ _ (pv 6))))))
theorem ana(F:f9 K "_law_made" "_law_made" Xa f fd)(T:Txt K mg c0)(e:Ze P w K mg base c0 1 zaj (nY K (I9 c0)))(c:jz P w K mg base c0 "add_part" 4 zam (nY K (sH c0)))(d:jz P w K mg base c0 "put_paper" 4 zan (nY K (Lz c0))):dG P w K mg base dJ 5 f fd zax (vP K (Eg c0)):=
 ae9 (body:=(Xg c0)) F yC λg A b s H E a=>(@cJ _ _ _ _ _ (amO (i:=1) yC.nd rfl 007 e 005 rfl T.mgC) (@cJ _ _ _ _ _ (@An _ _ _ _ _ _ _ _ _ _ _ _ _ _ _ (pv 1) T.cl c 005 (@aW _ _ _ _ _ (bD gZ) (04 (bD gZ)) 00) 00 00 00 00) (@cJ _ _ _ _ _ (@An _ _ _ _ _ _ _ _ _ _ _ _ _ _ _ (pv 1) T.cl c 005 (@aW _ _ _ _ _ (bD gZ) (04 (bD gZ)) 00) 00 00 00 00) (@cJ _ _ _ _ _ (@An _ _ _ _ _ _ _ _ _ _ _ _ _ _ _ (pv 1) T.cl c 005 (@aW _ _ _ _ _ (bD gZ) (04 (bD gZ)) 00) 00 00 00 00) (@cJ _ _ _ _ _ (@rE _ _ _ _ _ _ _ _ _ qU rfl (@Yx _ _ _ _ (01 0)) (Je rfl (kj (gM (i:=2) yC.nd rfl 007) (kj (gM (i:=3) yC.nd rfl 007) (kj (gM (i:=4) yC.nd rfl 007) (kj (gM (i:=5) yC.nd rfl 007) (kj (gM (i:=6) yC.nd rfl 007) (kj (gM (i:=7) yC.nd rfl 007) Ik))))))) (@Jk _ _ _ _ (@kE _ _ _ _ _ gY (@kE _ _ _ _ _ gY (@kE _ _ _ _ _ gY (@kE _ _ _ _ _ gY (@kE _ _ _ _ _ gY (@kE _ _ _ _ _ gY IK))))))) (@dj _ _ _ (@An _ _ _ _ _ _ _ _ _ _ _ _ _ _ _ (pv 1) T.cl d 005 (@aW _ _ _ _ _ (01 2) (@aW _ _ _ _ _ (01 3) (@aW _ _ _ _ _ (01 4) (@aW _ _ _ _ _ (01 5) (@aW _ _ _ _ _ (01 6) (04 (01 7)) 00) 00) 00) 00) 00) 00 00 00 00)) 013) (@dj _ _ _ (@Nu _ _ _ _ (pv 1))))))))
theorem aoU(F:f9 K "_law_due" "_law_due" yS f fd)(T:Txt K mg c0):dG P w K mg base dJ 1 f fd zaz (spT K Bm):=
 mD (body:=Yh) F rB λd A c s H E a=>(@cJ _ _ _ _ _ (jV (i:=3) rB.nd rfl 007 (@lJ _ _ _ _ bR)) (@cJ _ _ _ _ _ (@rE _ _ _ _ _ _ _ _ _ qU rfl (@Yx _ _ _ _ (01 0)) (Je rfl (kj (gM (i:=4) rB.nd rfl 007) (kj (gM (i:=5) rB.nd rfl 007) (kj (gM (i:=6) rB.nd rfl 007) (kj (gM (i:=7) rB.nd rfl 007) (kj (gM (i:=8) rB.nd rfl 007) (kj (gM (i:=9) rB.nd rfl 007) Ik))))))) (@Jk _ _ _ _ (@kE _ _ _ _ _ gY (@kE _ _ _ _ _ gY (@kE _ _ _ _ _ gY (@kE _ _ _ _ _ gY (@kE _ _ _ _ _ gY (@kE _ _ _ _ _ gY IK))))))) (@cJ _ _ _ _ _ (jV (i:=10) rB.nd rfl 007 (@lJ _ _ _ _ bR)) (@cJ _ _ _ _ _ (@rE _ _ _ _ _ _ _ _ _ qU rfl (zA (01 0)) (gM (i:=11) rB.nd rfl 007) gY (@dj _ _ _ (@oH _ _ _ _ _ _ _ _ (PW.pt (@Be _ _ _ _ _ _ _ (@kI _ _ _ _ _ _ _ _ _ (aeH a.units) afH (@aY _ _ _ (@kJ _ _ _ _ _ (@aW _ _ _ _ _ (@oF _ _ _ _ _ _ _ _ (nO a.iT) oG (02 11) 03 (λ_ _=>rfl)) (@aW _ _ _ _ _ (@oF _ _ _ _ _ _ _ _ (nO a.iT) oG (02 11) 03 (λ_ _=>rfl)) bR 00) 00))) (@aY _ _ _ (@kJ _ _ _ _ _ (@aW _ _ _ _ _ (01 5) (04 (01 8)) 00))) (j6 _)) (@Be _ _ _ _ _ _ _ (@kI _ _ _ _ _ _ _ _ _ (Ag a.Bc) Bq (@aY _ _ _ (@oF _ _ _ _ _ _ _ _ (nO a.iT) oG (02 11) 03 (λ_ _=>rfl))) (02 1) (j6 _)) (@Iz _ _ _ _ (aeI XN Yt (Ag a.Bc) Bq (02 7) (@aY _ _ _ (@oF _ _ _ _ _ _ _ _ (nO a.iT) oG (02 11) 03 (λ_ _=>rfl))) (@aY _ _ _ (@dD _ _ _ _ _ _ _ _ _ jd je (02 7) (02 2)))))))) (@dj _ _ _ (Ol (pv 10) (01 11))) oA)) 013) (@cJ _ _ _ _ _ (jV (i:=12) rB.nd rfl 007 (jU (Uv rfl) V4 rfl T.vz bz (@gC _ _ _ _ _ (@aY _ _ _ (nQ (T:=.one) (NT:=za7) (NF:=([]:List Str)) (js:=[]) (lN.ok (N0:=zay) (jg:=cO yS) bz rfl rfl) (#[_,001,rfl]) rfl (qb (02 10)) (λb=>#[ou,(@oF _ _ _ _ _ _ _ _ (nO a.iT) oG (02 0) 03 (λ_ _=>rfl))]))) iz 00))) (@dj _ _ _ (@oH _ _ _ _ _ _ _ _ (PW.pt (@Be _ _ _ _ _ _ _ (@kI _ _ _ _ _ _ _ _ _ afy afJ (@aY _ _ _ (jU ab1 aeP rfl T.Ft bz (@gC _ _ _ _ _ (02 10) iz 00))) 03 (j6 _)) (@Be _ _ _ _ _ _ _ (@kI _ _ _ _ _ _ _ _ _ afz afK (@aY _ _ _ (jU (acy rfl) aeS rfl T.Qw bz (@gC _ _ _ _ _ (@aY _ _ _ (nQ (T:=.one) (NT:=za7) (NF:=([]:List Str)) (js:=[]) (lN.ok (N0:=zay) (jg:=cO yS) bz rfl rfl) (#[_,001,rfl]) rfl (qb (02 10)) (λb=>#[ou,(@oF _ _ _ _ _ _ _ _ (nO a.iT) oG (02 0) 03 (λ_ _=>rfl))]))) iz 00))) (02 1) (j6 _)) (@Iz _ _ _ _ (@kI _ _ _ _ _ _ _ _ _ (ab9 a) Oz (02 12) (02 3) 008))))) (@dj _ _ _ (Ol (pv 3) (@bB _ _ _ (pv 12)))) oA))))) 013) (@cJ _ _ _ _ _ (jV (i:=13) rB.nd rfl (yO rfl) (@lJ _ _ _ _ bR)) (@cJ _ _ _ _ _ (@rE _ _ _ _ _ _ _ _ _ qU rfl (zA (01 3)) (gM (i:=14) rB.nd rfl (yO rfl)) gY (@dj _ _ _ (ap9 (pv 13) (@aY _ _ _ (nQ (T:=.one) (NT:=za7) (NF:=za8) (js:=[14]) (lN.ok (N0:=zay) (jg:=cO yS) bz rfl rfl) (#[_,001,rfl]) rfl (qb (02 3)) (λb=>#[(@IV _ _ _ (PW.pt (@Be _ _ _ _ _ _ _ (@kI _ _ _ _ _ _ _ _ _ (xg a.units) xu (02 1) (02 0) (j6 _)) (@Iz _ _ _ _ (@uq _ _ _ (@aY _ _ _ (jU (Mx rfl) Oq rfl T.Fq bz (@gC _ _ _ _ _ (@aY _ _ _ (nQ (T:=.one) (NT:=za9) (NF:=za7) (js:=[0]) (lN.ok (N0:=(["_law_other","_law_one"]:List Str)) (jg:=acz _ (cO yS)) bz rfl rfl) (#[_,001,rfl]) rfl (qb (02 1)) (λb=>#[ou,(@wZ _ _ _ _ _ _ _ _ _ (Og a.iT) Yu (02 0) (02 1) 008)]))) iz (by rfl)))) 013))))),(01 1)]))))) 013) (@dj _ _ _ (@jM _ _ _ _ (jU (aaU a.ae5) ab8 rfl T.vz bz (@gC _ _ _ _ _ (@aY _ _ _ (nQ (T:=.one) (NT:=za8) (NF:=(["_law_inner"]:List Str)) (js:=[13]) (lN.ok (N0:=zay) (jg:=cO yS) bz rfl rfl) (#[_,001,rfl]) rfl (qb (02 3)) (λb=>#[(@IV _ _ _ (@kI _ _ _ _ _ _ _ _ _ (ab9 a) Oz (02 0) (02 1) 008)),(@bB _ _ _ (pv 0))]))) iz (by rfl)))))))))
theorem ajm(F:f9 K "_law_each_right" "_law_each_right" Lw f fd)(T:Txt K mg c0)(e:jz P w K mg base c0 "names" 2 zaj (spT K (mj c0)))(d:jQ P w K mg base "is_split" 6 zac (spT K (wK c0)))(h:jQ P w K mg base "_law_pick" 2 zau (spT K gr)):dG P w K mg base dJ 7 f fd za1 (spT K (Hj c0)):=
 mD (body:=(TJ c0)) F yr λg A c s H E a=>(@cJ _ _ _ _ _ (@rE _ _ _ _ _ _ _ _ _ qU rfl (zA (01 2)) (gM (i:=5) yr.nd rfl (yO rfl)) gY (@cJ _ _ _ _ _ (jV (i:=6) yr.nd rfl 007 (@afM _ _ _ _ _ _ _ _ (@kI _ _ _ _ _ _ _ _ _ (aeH a.units) afH (@aY _ _ _ (gn h 005 rfl (@aW _ _ _ _ _ (01 0) (04 (bD bT)) 00))) 03 (j6 _)) (@aoo _ _ _ _ _ _ _ (02 5) (@aY _ _ _ (@Oi _ _ _ _ 03))) (DP (Uu rfl) V3 rfl T.xm bz (@gC _ _ _ _ _ (02 5) iz 00)))) (@cJ _ _ _ _ _ (jV (i:=7) yr.nd rfl 007 (DP (Uu rfl) V3 rfl T.xm bz (@gC _ _ _ _ _ (02 6) iz 00))) (@cJ _ _ _ _ _ (@oH _ _ _ _ _ _ _ _ (PW.pt (@Ez _ _ _ _ _ _ _ (@kI _ _ _ _ _ _ _ _ _ ajs aop (@aY _ _ _ (gn d 005 rfl (@aW _ _ _ _ _ (01 1) (@aW _ _ _ _ _ (01 3) (@aW _ _ _ _ _ (01 4) (04 (01 7)) 00) 00) 00))) (@aY _ _ _ (bD vG)) (j6 _)) (@Oh _ _ _ _ (@kI _ _ _ _ _ _ _ _ _ (xg a.units) xu (02 7) (02 6) (j6 _))))) (@dj _ _ _ (@jM _ _ _ _ (bD vG))) oA) (@cJ _ _ _ _ _ (jV (i:=8) yr.nd rfl 007 (@dD _ _ _ _ _ _ _ _ _ jd je (@aY _ _ _ (@lJ _ _ _ _ (@aW _ _ _ _ _ (@JG _ _ _ _ _ _ _ _ _ (02 5) (@JF _ _ _ 03) JD) (04 (@JG _ _ _ _ _ _ _ _ _ (02 5) JD (@JF _ _ _ (@aY _ _ _ (@Oi _ _ _ _ 03))))) 00))) (@aY _ _ _ (nQ (T:=.one) (NT:=za9) (NF:=(["_law_names_here"]:List Str)) (js:=[5]) (lN.ok (N0:=za0) (jg:=cO Lw) bz rfl rfl) (#[_,001,rfl]) rfl (qb (@aY _ _ _ (@M5 _ _ _ _ _ _ _ _ _ _ _ (pv 1) T.cl e 005 00))) (λb=>#[(@IV _ _ _ (@kI _ _ _ _ _ _ _ _ _ (ab0 a.iT) amq (02 0) (02 1) 008)),(@dD _ _ _ _ _ _ _ _ _ jd je (@bJ _ _ _ (pv 1)) (@aY _ _ _ (@lJ _ _ _ _ (@aW _ _ _ _ _ (@bB _ _ _ (pv 0)) bR (by rfl)))))]))))) (@dj _ _ _ (@rE _ _ _ _ _ _ _ _ _ qU rfl (zA (@bB _ _ _ (pv 8))) (gM (i:=9) yr.nd rfl 007) gY (@cJ _ _ _ _ _ (jV (i:=7) yr.nd rfl 007 (DP (Uu rfl) V3 rfl T.xm bz (@gC _ _ _ _ _ (02 9) iz 00))) (@cJ _ _ _ _ _ (jV (i:=10) yr.nd rfl 007 (gn d 005 rfl (@aW _ _ _ _ _ (01 1) (@aW _ _ _ _ _ (01 3) (@aW _ _ _ _ _ (01 4) (04 (01 7)) 00) 00) 00))) (@dj _ _ _ (@oH _ _ _ _ _ _ _ _ (PW.pt (@Ez _ _ _ _ _ _ _ (@yR _ _ _ _ (@uq _ _ _ (@aY _ _ _ (Jm aP (02 10) (Ij (v:=.ty "bool") rfl T.Ye bz rfl) rfl T.Ad bz)) 013)) (@Ez _ _ _ _ _ _ _ (@kI _ _ _ _ _ _ _ _ _ (xg a.units) xu (02 10) (@aY _ _ _ (@wZ _ _ _ _ _ _ _ _ _ (afc a) Oz (@aY _ _ _ (jU (Uv rfl) V4 rfl T.vz bz (@gC _ _ _ _ _ (02 9) iz 00))) (02 2) 008)) (j6 _)) (@Oh _ _ _ _ (@kI _ _ _ _ _ _ _ _ _ (xg a.units) xu (@bJ _ _ _ (pv 7)) (@bJ _ _ _ (pv 9)) (j6 _)))))) (@dj _ _ _ (@jM _ _ _ _ (bD vG))) oA)))) 013)))))) 013) (@dj _ _ _ (@jM _ _ _ _ (@wZ _ _ _ _ _ _ _ _ _ akm aqb (@aY _ _ _ (gn d 005 rfl (@aW _ _ _ _ _ (01 1) (@aW _ _ _ _ _ (01 3) (@aW _ _ _ _ _ (01 4) (04 (@lJ _ _ _ _ bR)) 00) 00) 00))) (@aY _ _ _ (bD vG)) (j6 _)))))
theorem aqu(F:f9 K "law" "law" Fp f fd)(T:Txt K mg c0)(g:jz P w K mg base c0 "names" 2 zaj (spT K (mj c0)))(k:jz P w K mg base c0 "paper_of" 3 zao (spT K (qX c0)))(h:jQ P w K mg base "splits" 5 zaa (spT K (wO c0)))(m:jQ P w K mg base "_law_left" 1 zat (spT K Ef))(c:jQ P w K mg base "_law_pick" 2 zau (spT K gr))(l:jQ P w K mg base "_law_papers" 4 zaw (spT K HN))(o:jQ P w K mg base "_law_made" 5 zax (vP K (Eg c0)))(e:jQ P w K mg base "_law_due" 1 zaz (spT K Bm))(p:jQ P w K mg base "_law_each_right" 7 za1 (spT K (Hj c0))):dG P w K mg base dJ 8 f fd za3 (spT K (YQ c0)):=
 mD (body:=(YM c0)) F qx λn A d s H E a=>(@cJ _ _ _ _ _ (@rE _ _ _ _ _ _ _ _ _ qU rfl (MN rfl T.Ed (@aY _ _ _ (jU (UG rfl) WK rfl T.JQ bz (@gC _ _ _ _ _ 03 (@gC _ _ _ _ _ (@aY _ _ _ (jU (abK rfl) adX rfl T.Qv bz (@gC _ _ _ _ _ 03 (@gC _ _ _ _ _ (@aY _ _ _ (adW (pv 0) rfl T.Ft bz)) iz 00) 00))) iz 00) 00)))) (gM (i:=1) qx.nd rfl 007) gY (@cJ _ _ _ _ _ (apY (i:=2) qx.nd rfl 007 (gn m 005 rfl (@aW _ _ _ _ _ (01 0) (04 (01 1)) 00))) (@cJ _ _ _ _ _ (jV (i:=3) qx.nd rfl 007 (@oF _ _ _ _ _ _ _ _ (nO a.iT) oG (@aY _ _ _ (@lJ _ _ _ _ (@aW _ _ _ _ _ (bD bT) (@aW _ _ _ _ _ (bD bT) (@aW _ _ _ _ _ (@dD _ _ _ _ _ _ _ _ _ jd je 03 (@aY _ _ _ (gn c 005 rfl (@aW _ _ _ _ _ (01 2) (04 (bD bT)) 00)))) (@aW _ _ _ _ _ (@dD _ _ _ _ _ _ _ _ _ jd je 03 (@aY _ _ _ (gn c 005 rfl (@aW _ _ _ _ _ (01 2) (04 (@dD _ _ _ _ _ _ _ _ _ Jf Jj 03 03)) 00)))) (04 (@dD _ _ _ _ _ _ _ _ _ Jf Jj 03 03)) 00) 00) 00) 00))) (@aY _ _ _ (gn c 005 rfl (@aW _ _ _ _ _ (01 2) (04 (bD bT)) 00))) (λ_ _=>rfl))) (@cJ _ _ _ _ _ (jV (i:=4) qx.nd rfl 007 (@oF _ _ _ _ _ _ _ _ (nO a.iT) oG (@aY _ _ _ (@lJ _ _ _ _ (@aW _ _ _ _ _ (bD bT) (@aW _ _ _ _ _ (bD bT) (@aW _ _ _ _ _ (@dD _ _ _ _ _ _ _ _ _ jd je 03 (@aY _ _ _ (gn c 005 rfl (@aW _ _ _ _ _ (01 2) (04 (bD bT)) 00)))) (@aW _ _ _ _ _ (@dD _ _ _ _ _ _ _ _ _ jd je 03 (@aY _ _ _ (gn c 005 rfl (@aW _ _ _ _ _ (01 2) (04 (bD bT)) 00)))) (04 (@dD _ _ _ _ _ _ _ _ _ jd je 03 (@aY _ _ _ (gn c 005 rfl (@aW _ _ _ _ _ (01 2) (04 (bD bT)) 00))))) 00) 00) 00) 00))) (@aY _ _ _ (gn c 005 rfl (@aW _ _ _ _ _ (01 2) (04 (bD bT)) 00))) (λ_ _=>rfl))) (@cJ _ _ _ _ _ (jV (i:=5) qx.nd rfl 007 (gn l 005 rfl (@aW _ _ _ _ _ (01 2) (04 (01 3)) 00))) (@cJ _ _ _ _ _ (aor (i:=6) qx.nd rfl (yO rfl) o 005 rfl (04 (01 5))) (@cJ _ _ _ _ _ (XR (i:=7) (j:=8) rfl qx.nd rfl rfl aP rfl rfl (@sW _ _ _ _ _ (gn e 005 rfl (@aW _ _ _ _ _ (01 5) (@aW _ _ _ _ _ (01 3) (04 (01 4)) 00) 00)) (@sW _ _ _ _ _ (jU (abV a.gd a.units) adY rfl T.OJ bz (@gC _ _ _ _ _ (@aY _ _ _ (nQ (T:=.one) (NT:=za9) (NF:=(["_law_book"]:List Str)) (js:=[6]) (lN.ok (N0:=za2) (jg:=cO Fp) bz rfl rfl) (#[_,001,rfl]) rfl (qb (@aY _ _ _ (@M5 _ _ _ _ _ _ _ _ _ _ _ (pv 6) T.cl g 005 00))) (λb=>#[ou,(@pQ _ _ _ _ _ _ _ _ _ _ _ _ _ _ (pv 1) T.cl k 005 (04 (01 0)) 00 00 00)]))) iz 00)) Jl 00) 00) rfl) (@cJ _ _ _ _ _ (@rE _ _ _ _ _ _ _ _ _ qU rfl (MN rfl T.Ed 03) (gM (i:=9) qx.nd rfl 007) gY (@cJ _ _ _ _ _ (aoP (i:=10) qx.nd rfl 007 h 005 rfl (@aW _ _ _ _ _ (01 6) (@aW _ _ _ _ _ (01 3) (04 (01 4)) 00) 00)) (@cJ _ _ _ _ _ (@oH _ _ _ _ _ _ _ _ (PW.pt (@Ez _ _ _ _ _ _ _ (@yR _ _ _ _ (@uq _ _ _ (@aY _ _ _ (@aea _ _ _ (Jm aP (02 10) (Ij (v:=.ty "list") rfl T.xm bz rfl) rfl T.Ad bz))) 013)) (@Ez _ _ _ _ _ _ _ (@yR _ _ _ _ (@uq _ _ _ (@aY _ _ _ (@aea _ _ _ (jU (Mx rfl) Oq rfl T.Fq bz (@gC _ _ _ _ _ (@aY _ _ _ (nQ (T:=.one) (NT:=za8) (NF:=([]:List Str)) (js:=[]) (lN.ok (N0:=za2) (jg:=cO Fp) bz rfl rfl) (#[_,001,rfl]) rfl (qb (02 10)) (λb=>#[ou,(Jm aP (02 0) (Ij (v:=.ty "list") rfl T.xm bz rfl) rfl T.Ad bz)]))) iz 00)))) 013)) (@Oh _ _ _ _ (@aoQ _ _ _ (@kI _ _ _ _ _ _ _ _ _ (xg a.units) xu (02 10) (02 7) (j6 _))))))) (@dj _ _ _ (@jM _ _ _ _ (bD vG))) oA) (@cJ _ _ _ _ _ (aos (i:=10) (j:=11) qU rfl qx.nd rfl 007 (pv 10) (@dj _ _ _ (ad7 (pv 11) (bD gZ)))) (@dj _ _ _ (ad7 (pv 10) (@lJ _ _ _ _ bR)))))) 013) (@cJ _ _ _ _ _ (@oH _ _ _ _ _ _ _ _ (@yR _ _ _ _ (@uq _ _ _ (@aY _ _ _ (gn p 005 rfl (@aW _ _ _ _ _ (01 2) (@aW _ _ _ _ _ (01 6) (@aW _ _ _ _ _ (01 7) (@aW _ _ _ _ _ (01 3) (04 (01 4)) 00) 00) 00) 00))) 013)) (@dj _ _ _ (@jM _ _ _ _ (bD vG))) oA) (@cJ _ _ _ _ _ (jV (i:=12) qx.nd rfl 007 (@lJ _ _ _ _ (@aW _ _ _ _ _ (@kJ _ _ _ _ _ (@aW _ _ _ _ _ (@dD _ _ _ _ _ _ _ _ _ jd je (02 3) 03) (04 (01 4)) 00)) (@aW _ _ _ _ _ (@kJ _ _ _ _ _ (@aW _ _ _ _ _ (jU (UG rfl) WK rfl T.JQ bz (@gC _ _ _ _ _ 03 (@gC _ _ _ _ _ (@aY _ _ _ (@dD _ _ _ _ _ _ _ _ _ Xy XM (02 3) 03)) iz 00) 00)) (04 (01 4)) 00)) (@aW _ _ _ _ _ (@kJ _ _ _ _ _ (@aW _ _ _ _ _ (01 3) (04 (@dD _ _ _ _ _ _ _ _ _ jd je (02 4) 03)) 00)) (04 (@kJ _ _ _ _ _ (@aW _ _ _ _ _ (@dD _ _ _ _ _ _ _ _ _ DX Eb (02 3) 03) (04 (01 4)) 00))) 00) 00) 00))) (@cJ _ _ _ _ _ (@rE _ _ _ _ _ _ _ _ _ qU rfl (@Yx _ _ _ _ (@dD _ _ _ _ _ _ _ _ _ jd je (02 12) (@aY _ _ _ (@lJ _ _ _ _ (04 (@kJ _ _ _ _ _ (@aW _ _ _ _ _ (01 3) (04 (01 4)) 00))))))) (Je rfl (kj (gM (i:=13) qx.nd rfl 007) (kj (gM (i:=14) qx.nd rfl 007) Ik))) (@Jk _ _ _ _ (@kE _ _ _ _ _ gY (@kE _ _ _ _ _ gY IK))) (@dj _ _ _ (@oH _ _ _ _ _ _ _ _ (PW.pt (@Be _ _ _ _ _ _ _ (@kI _ _ _ _ _ _ _ _ _ XN Yt (02 13) (@aY _ _ _ (@dD _ _ _ _ _ _ _ _ _ Jf Jj 03 03)) (j6 _)) (@Iz _ _ _ _ (@kI _ _ _ _ _ _ _ _ _ (xg a.units) xu (@aY _ _ _ (gn h 005 rfl (@aW _ _ _ _ _ (01 6) (@aW _ _ _ _ _ (01 13) (04 (01 14)) 00) 00))) (@aY _ _ _ (gn e 005 rfl (@aW _ _ _ _ _ (01 5) (@aW _ _ _ _ _ (01 13) (04 (01 14)) 00) 00))) (j6 _))))) (@dj _ _ _ (@jM _ _ _ _ (bD vG))) oA)) 013) (@dj _ _ _ (@oH _ _ _ _ _ _ _ _ (@kI _ _ _ _ _ _ _ _ _ (xg a.units) xu (@aY _ _ _ (jU (abV a.gd a.units) adY rfl T.OJ bz (@gC _ _ _ _ _ (@aY _ _ _ (nQ (T:=.one) (NT:=za9) (NF:=(["_law_book"]:List Str)) (js:=[6]) (lN.ok (N0:=za2) (jg:=cO Fp) bz rfl rfl) (#[_,001,rfl]) rfl (qb (@aY _ _ _ (@M5 _ _ _ _ _ _ _ _ _ _ _ (pv 6) T.cl g 005 00))) (λb=>#[ou,(@pQ _ _ _ _ _ _ _ _ _ _ _ _ _ _ (pv 1) T.cl k 005 (04 (01 0)) 00 00 00)]))) iz 00))) (02 8) (j6 _)) (@dj _ _ _ (@jM _ _ _ _ (bD vG))) oA)))))))))))) 013) (@dj _ _ _ (@jM _ _ _ _ (bD vG))))
def jj(C:Ce):Prop:=∀(i:Nat)(c:Cl),C[i]?=aa c->vW C.length c=aq
theorem ac8(h:n<=m)(a:tU n x=aq):tU m x=aq:=by
 cases x with
 |dat d=>rfl
 |cD k=>exact gq (oV (of_decide_eq_true a) h)
theorem Nh(h:n<=m)(a:vW n c=aq):vW m c=aq:=by
 cases c with
 |uR=>rfl
 |_=>exact jT.mpr λx b=>ac8 h (jT.mp a x b)
theorem jj.app(h:jj C)(b:vW (C.length+1) c=aq):jj (C++[c]):=λi x hi=>by
 rw[eG,aac];by_cases a:i<C.length
 .rw[gK a] at hi;exact Nh (ud _) (h i x hi)
 .rw[gh aD] at hi;rw[gB.mp (jY hi)];exact b
theorem jj.set(h:jj C)(j:Nat)(a:vW C.length c=aq):jj (C.set j c):=λi x hi=>by
 rw[wD];rw[aaq] at hi;split at hi
 .split at hi
  .cases hi;exact a
  .cases hi
 .exact h i x hi
theorem jj.cut(h:jj C)(D:Ce):qe C.length (C++D)=C:=by
 unfold qe;split
 .rename_i e;rw[eG] at e;rw[ahw (by lia:D.length=0),jt]
 .rw[List.take_left]
  refine(yg λc a=>?_).trans (List.map_id'' (λ_=>rfl) C)
  obtain⟨i,hi⟩:=ahT.mp a
  exact bG (h i c hi)
theorem Qx(n:Nat)(ns:List Int):vW n (inC ns)=aq:=by
 refine jT.mpr λx a=>?_
 obtain⟨k,_,rfl⟩:=eO.mp a
 rfl
structure Bl(L:Nat)(C:Ce)(b k:Nat):Prop where
 box:L2.Bl L C b k
 clo:jj C
theorem Bl.mono(h:Bl L C b k)(a:j<=k):Bl L C b j:=#[h.box.mono a,h.clo]
theorem Bl.eq(h:Bl L C b k)(h':Bl L C' b' k'):C'.length=C.length:=h.box.eq h'.box
theorem X5(C:Ce)(b:jj C)(a:0<=x):Bl (C.length+1) (C++[inC [x,y,0]]) C.length 800000:=#[L2.X5 C a,b.app (Qx _ _)]
local macro_rules|`(tactic|simp_arith[$ts,*])=>do let l←("cI cS Qg Qh Qi Pk Pn Q0 Pq Q3 Pu Ga Px aN eU jo zx bN dat still cV dg aF aQ cL dw lK dY bV eV vI g8 pF fQ dX xG iB iV qj ql zM zE eF frB p8 setM vM nD cU mY bZ eE add_int sub_int le_int lt_int ge_int gt_int eq_int NB Ec yI Q6 Q7 QM QS QT QV QW QX QZ yx Q4 Ov Py Pz Q5 Option.bind_some Option.map_some List.getElem?_cons_zero List.getElem?_cons_succ List.set_cons_zero List.set_cons_succ List.map_cons List.map_nil List.length_cons List.length_nil Bool.not_true Bool.not_false if_true if_false ite_self Bool.false_eq_true Option.join id_eq Nat.reduceAdd Nat.reduceLeDiff Nat.reduceLT and_true true_and and_self String.reduceBEq Bool.or_false Bool.or_true Bool.false_or Bool.true_or Bool.and_true Bool.and_false Bool.true_and Bool.false_and decide_true decide_false reduceCtorEq eq_bool ne_bool ne_int PB PJ beq_self_eq_true List.length_map PK PL PN PX P0 Qa Qc Qd Qe Qf Dy HJ vV xU intD QG cond_true cond_false".splitOn " ").toArray.mapM λx=>`(Lean.Parser.Tactic.simpLemma|$(Lean.mkIdent x.toName):term);`(tactic|simp only[$[$l:simpLemma],*,$ts,*])
theorem afg(d:0<=k)(e:k<=1000000):∃r:Int,Jt [.im (.int c),.im (.int k)] C=aa (.im (.int r),C)/\0<=r:=by
 obtain⟨m,a⟩:∃m,(c%2147483629+k*k*7919+11)*48271%2147483647=m:=001
 have b:0<=m:=by rw[<-a];exact Lf _ aP
 have f:m<2147483647:=by rw[<-a];exact Sg _ aP
 refine#[m*m%1999999973,mC [aa (08 c),aa (08 k),ao] rfl rfl ?_ rfl rfl,Lf _ aP]
 simp_arith[Yg,mod_eq (i:=c) (j:=2147483629) aP,mul_eq (i:=k) (j:=k) (.inl aD),mul_eq (i:=k*k) (j:=7919) (.inr aP),mul_eq (i:=c%2147483629+k*k*7919+11) (j:=48271) (.inr aP),mod_eq (i:=(c%2147483629+k*k*7919+11)*48271) (j:=2147483647) aP,a,mul_eq (i:=m) (j:=m) (.inl aD),mod_eq (i:=m*m) (j:=1999999973) aP]
theorem in3(x y z:Int):kW (aa (inC [x,y,z]))=aa [.dat (.int x),.dat (.int y),.dat (.int z)]:=rfl
theorem agC(x y z:Int):Cl.lst [.dat (.int x),.dat (.int y),.dat (.int z)]=inC [x,y,z]:=rfl
theorem afZ(h:Bl L C b (k+1))(d:0<m)(h1:m<1073741824):
  ∃t C',gr [.ce b,.im (.int m)] C=aa (.im (.int t),C')/\0<=t/\t<m/\Bl L C' b k/\∀q,q≠b->C'[q]?=C[q]?:=by
 obtain⟨⟨l,x,y,z,g,r,w,u⟩,a⟩:=h
 have o:nu 3 0=aa 0:=rfl;have p:nu 3 2=aa 2:=rfl;have nl:∀i:Int,fU (.int i)=aq:=λ_=>rfl
 have e:(C.set b (inC [x,y,z+1]))[b]?=aa (inC [x,y,z+1]):=ae0 g;by_cases n:0<x
 .refine#[x%m,(C.set b (inC [x,y,z+1])).set b (inC [x / m,y,z+1]),mC [aa (.ce b),aa (08 m),ao] rfl rfl ?_ rfl bH,Lf _ aD,Sg _ d,#[#[by simpa using l,x / m,y,z+1,ae0 e,Int.ediv_nonneg r aD,aD,aD],(a.set b (Qx _ _)).set b (Qx _ _)],λq f=>by rw[qT (jK f),qT (jK f)]]
  simp_arith[NQ,uH,g,e,in3,agC,nl,n,mod_eq d,fdiv_eq d h1,JV,EY,o,p]
 .obtain⟨v,e1,p1⟩:=afg (C:=C.set b (inC [x,y,z+1])) (c:=y) (k:=z+1) aD aD
  obtain⟨s,e2,p2⟩:=afg (C:=C.set b (inC [x,y,z+1])) (c:=v) (k:=z+1+64) aD aD
  refine#[s / 64%m,C.set b (inC [x,y,z+1]),mC [aa (.ce b),aa (08 m),ao] rfl rfl ?_ rfl bH,Lf _ aD,Sg _ d,#[#[by simpa using l,x,y,z+1,e,r,aD,aD],a.set b (Qx _ _)],λq f=>qT (jK f)]
  simp_arith[NQ,uH,g,e,in3,agC,nl,n,JV,EY,o,p,e1,e2,fdiv_eq (j:=64) aD aD,mod_eq d]
theorem mq(h:Bl L C b (k+1))(d:0<m)(h1:m<1073741824):
  ∃t C',gr [.ce b,.im (.int m)] C=aa (.im (.int t),C')/\0<=t/\t<m/\Bl L C' b k:=by
 obtain⟨t,C',e,a,f,c,_⟩:=afZ h d h1
 exact#[t,C',e,a,f,c]
theorem aoV(f:0<=k)(m:k<=100):∃x y:Int,Ef [.sc ns,.im (.int k)] C=aa (.ow (.list [.int x,.int y,.int 0]),C)/\0<=x:=by
 obtain⟨c,b⟩:∃c:Int,zy (eU (bA tL (aZ 1) (aX (xJ 0)))) (JW 0 (aZ 1)) (bN (.int 0)) [aa (.sc ns),aa (.im (.int k)),ao] C=aa (.im (.int c),[aa (.sc ns),aa (08 k),ao],C):=by
  by_cases h:k<ns.length
  .obtain⟨c,b,_⟩:=X4 (xs:=ns) f h
   exact#[c,by simp_arith[xJ,JW,h,b]]
  .exact#[0,by simp_arith[xJ,h]]
 have a0:0<=(if c<0 then -c else c):=by split<;>lia
 obtain⟨a,d⟩:∃a,(if c<0 then -c else c)=a:=001
 rw[d] at a0;have l:rG (.int 10) (.int 18)=aa (08 1000000000000000000):=rfl
 obtain⟨j,g,e,n⟩:∃j:Int,(if decide (1000000000000000000<=a)=aq then(1:Int) else 0)=j/\0<=j/\j<=1:=#[_,rfl,by split<;>decide,by split<;>decide]
 refine#[a*j,c+1000003*k,mC [aa (.sc ns),aa (08 k),ao] rfl rfl ?_ rfl rfl,Int.mul_nonneg a0 e]
 simp_arith[Xf,↓b,JB,d,l,Fd,g,mul_eq (i:=a) (j:=j) (.inr aD),mul_eq (i:=1000003) (j:=k) (.inl aP)]
structure Pr where
 nm:Str
 pt:Str
 am:Int
 dy:Int
 ak:Str
 gt:Str
def qF(ds d:Int)(o:Pr):Bool:=decide (d<=o.dy)&&decide (o.dy<d+ds)
def sr(bd:Int)(k:Str×Str)(o:Pr):Bool:=decide (o.am<bd)&&decide ((o.ak,o.pt)=k)
def nearF(bd ds:Int)(k:Str×Str)(d:Int)(o:Pr):Bool:=qF ds d o&&sr bd k o
def lg(l:List Pr):Int:=(l.map (·.am)).sum
def win(bd ds:Int)(g:List Pr)(d:Int):List Str:=if lg (g.filter (qF ds d))<bd then[] else(g.filter (qF ds d)).map (·.nm)
def another(L:009)(ls:List (List Str)):Bool:=ls.any λo=>decide (o≠L)&&L.all λx=>decide (x∈o)
def jn(g:List Pr):List Int:=dW ltI (dedup (g.map (·.dy)))
def longest(bd ds:Int)(g:List Pr):List (List Str):=((jn g).map (win bd ds g)).filter λL=>decide (L≠[])&&!another L ((jn g).map (win bd ds g))
def gR(bd ds:Int)(ps:List Pr):List Pr->List (List Str)->List (List Str)
 |[],aM=>aM
 |p::r,aM=>gR bd ds ps r (if 1<(ps.filter (nearF bd ds (p.ak,p.pt) p.dy)).length/\bd<=lg (ps.filter (nearF bd ds (p.ak,p.pt) p.dy))/\dW strLt ((ps.filter (nearF bd ds (p.ak,p.pt) p.dy)).map (·.nm))∉aM then aM++[dW strLt ((ps.filter (nearF bd ds (p.ak,p.pt) p.dy)).map (·.nm))] else aM)
def pY(one o:009):Bool:=decide (one≠o)&&one.all λx=>decide (x∈o)
def pW(l:List (List Str)):List (List Str):=l.flatMap λone=>(l.filter (pY one)).map λ_=>one
def iG(bd ds:Int)(ps:List Pr):List (List Str):=dW ie ((gR bd ds ps ps []).filter λx=>decide (x∉pW (gR bd ds ps ps [])))
theorem afh{α β:Type}{f:α->β}:∀{l:List α},(l.map f).Nodup->∀{a b},a∈l->b∈l->f a=f b->a=b
 |x::l,h,a,b,ha,hb,e=>by
  rw[cM,mU] at h;rcases cC.mp ha with p|p<;>rcases cC.mp hb with q|q
  .rw[p,q]
  .exact absurd (eO.mpr #[b,q,by rw[<-p,e]]) h.1
  .exact absurd (eO.mpr #[a,p,by rw[<-q,e]]) h.1
  .exact afh h.2 p q e
theorem af0:∀{l:List Pr},(∀o∈l,0<=o.am)->(∀o∈l,f o=aq->g o=aq)->lg (l.filter f)<=lg (l.filter g)
 |[],_,_=>Ud _
 |o::l,h,hs=>by
  have a:=af0 (l:=l) (λo m=>h o (dI _ m)) λo m=>hs o (dI _ m)
  have b:=h o cR;have h1:=hs o cR;rw[SQ,SQ];unfold lg at a⊢;cases hf:f o with
  |true=>
   rw[h1 hf,bG rfl,bG rfl,cM,cM,t8,t8];lia
  |false=>
   rw[bK aP];split
   .rw[cM,t8];lia
   .exact a
theorem afi:∀{l:List Pr},l≠[]->∃o∈l,∀q∈l,o.dy<=q.dy
 |[o],_=>#[o,cR,λq m=>by rw[gB.mp m];exact Ud _]
 |o::p::l,_=>by
  obtain⟨x,m,h⟩:=afi (l:=p::l) bH
  by_cases c:o.dy<=x.dy
  .refine#[o,cR,λq a=>?_]
   rcases cC.mp a with rfl|a
   .exact Ud _
   .have:=h q a;lia
  .refine#[x,dI _ m,λq a=>?_]
   rcases cC.mp a with rfl|a
   .lia
   .exact h q a
theorem aqv(c:∀o,f o=aq->o.am<bd){l:List Pr}(h:bd<=lg (l.filter f))(a:l.filter f≠[]):1<(l.filter f).length:=by
 have b:∀o∈l.filter f,o.am<bd:=λo m=>c o (mR.mp m).2
 generalize l.filter f=r at h a b
 match r,a with
 |[o],_=>
  have:=b o cR;unfold lg at h;rw[cM,t8,sG,List.sum_nil] at h;lia
 |_::_::_,_=>simp
theorem um:sr bd k o=aq↔o.am<bd/\(o.ak,o.pt)=k:=by
 unfold sr;rw[jc,decide_eq_true_iff,decide_eq_true_iff]
theorem vB:nearF bd ds k d o=aq↔(d<=o.dy/\o.dy<d+ds)/\sr bd k o=aq:=by
 unfold nearF qF;rw[jc,jc,decide_eq_true_iff,decide_eq_true_iff]
theorem aoW(h:nearF bd ds k d o=aq):o.am<bd:=(um.mp (vB.mp h).2).1
theorem ace(h:sr bd k o=aq)(a:0<ds):nearF bd ds k o.dy o=aq:=vB.mpr #[aD,h]
theorem Vo:∀{r:List Pr}{aM:List (List Str)},x∈gR bd ds ps r aM↔x∈aM\/∃p∈r,1<(ps.filter (nearF bd ds (p.ak,p.pt) p.dy)).length/\bd<=lg (ps.filter (nearF bd ds (p.ak,p.pt) p.dy))/\x=dW strLt ((ps.filter (nearF bd ds (p.ak,p.pt) p.dy)).map (·.nm))
 |[],aM=>by unfold gR;simp
 |p::r,aM=>by
  unfold gR;rw[Vo];constructor
  .rintro(h|⟨q,a,h⟩)
   .split at h
    .rename_i c;rcases dU.mp h with h|h
     .exact .inl h
     .exact .inr #[p,cR,c.1,c.2.1,gB.mp h]
    .exact .inl h
   .exact .inr #[q,dI _ a,h]
  .rintro(h|⟨q,a,h1,h2,h3⟩)
   .refine .inl ?_;split
    .exact jG _ h
    .exact h
   .rcases cC.mp a with rfl|a
    .refine .inl ?_;subst h3;split
     .exact fJ _ cR
     .rename_i c;exact ahA λn=>c #[h1,h2,n]
    .exact .inr #[q,a,h1,h2,h3]
theorem Wg:∀{r:List Pr}{aM:List (List Str)},aM.Nodup->(gR bd ds ps r aM).Nodup
 |[],aM,h=>h
 |p::r,aM,h=>by
  unfold gR;refine Wg ?_;split
  .rename_i c;rw[lX]
   exact#[h,bH,λa d b f e=>c.2.2 (by rw[<-gB.mp f,<-e];exact d)]
  .exact h
theorem acf:x∈pW l↔x∈l/\∃o∈l,pY x o=aq:=by
 unfold pW;rw[aiY];constructor
 .rintro⟨a,ha,h⟩
  obtain⟨o,b,rfl⟩:=eO.mp h
  exact#[ha,o,(mR.mp b).1,(mR.mp b).2]
 .rintro⟨h,o,b,hl⟩
  exact#[x,h,eO.mpr #[o,mR.mpr #[b,hl],rfl]]
theorem aej:pY x o=aq↔x≠o/\∀z∈x,z∈o:=by
 unfold pY;rw[jc,decide_eq_true_iff,jT];exact and_congr Iff.rfl #[λh z m=>of_decide_eq_true (h z m),λh z m=>gq (h z m)]
theorem Mg:L∈longest bd ds g↔L≠[]/\(∃o∈g,L=win bd ds g o.dy)/\∀o∈g,win bd ds g o.dy≠L->∃z∈L,z∉win bd ds g o.dy:=by
 have a:∀d,d∈jn g↔∃o∈g,o.dy=d:=λd=>by
  unfold jn;rw[(pM _).mem_iff,abW,eO]
 unfold longest;rw[mR,eO,jc,decide_eq_true_iff,aiJ];unfold another;rw[aiw];constructor
 .rintro⟨⟨d,f,rfl⟩,h0,h⟩
  obtain⟨o,e,rfl⟩:=(a d).mp f
  refine#[h0,#[o,e,rfl],λq b i=>?_]
  have h1:=h _ (eO.mpr #[q.dy,(a _).mpr #[q,b,rfl],rfl]);rw[jc,decide_eq_true_iff] at h1;refine RN λn=>h1 #[i,jT.mpr λz m=>gq (RN λc=>n #[z,m,c])]
 .rintro⟨h0,⟨o,e,rfl⟩,h⟩
  refine#[#[o.dy,(a _).mpr #[o,e,rfl],rfl],h0,λw l c=>?_]
  obtain⟨d,f,rfl⟩:=eO.mp l
  obtain⟨q,b,rfl⟩:=(a d).mp f
  rw[jc,decide_eq_true_iff] at c
  obtain⟨z,j,k⟩:=h q b c.1
  exact k (of_decide_eq_true (jT.mp c.2 z j))
def wn(bd ds:Int)(qs:List Pr)(k:Str×Str)(d:Int):List Str:=(qs.filter (nearF bd ds k d)).map (·.nm)
def grp(bd:Int)(qs:List Pr)(k:Str×Str):List Pr:=qs.filter (sr bd k)
structure gJ(qs ps:List Pr):Prop where
 perm:qs.Perm ps
 up:(qs.map (·.nm)).Pairwise (λa b=>strLt b a=aH)
 nd:(qs.map (·.nm)).Nodup
 am:∀o∈qs,0<=o.am
theorem anb{l m:List Int}(h:l.Perm m):l.sum=m.sum:=by
 induction h with
 |nil=>rfl
 |cons x _ ih=>rw[t8,t8,ih]
 |swap x y l=>rw[t8,t8,t8,t8];lia
 |trans _ _ a b=>exact a.trans b
section
variable{bd ds:Int}{ks:List (Str×Str)}{d d':Int}{L w:List Str}
theorem gJ.sorted(P:gJ qs ps)(f:Pr->Bool):dW strLt ((ps.filter f).map (·.nm))=(qs.filter f).map (·.nm):=
 (Aw uG (λ_ _=>trivial) ((P.perm.filter f).map _) (P.up.sublist (List.filter_sublist.map _))).symm
theorem gJ.sm(P:gJ qs ps)(f:Pr->Bool):lg (ps.filter f)=lg (qs.filter f):=anb ((P.perm.symm.filter f).map _)
theorem gJ.len(P:gJ qs ps)(f:Pr->Bool):(ps.filter f).length=(qs.filter f).length:=(P.perm.symm.filter f).length_eq
theorem xq:z∈wn bd ds qs k d↔∃o∈qs,nearF bd ds k d o=aq/\o.nm=z:=by
 unfold wn;rw[eO];constructor
 .rintro⟨o,h,e⟩
  exact#[o,(mR.mp h).1,(mR.mp h).2,e]
 .rintro⟨o,h,n,e⟩
  exact#[o,mR.mpr #[h,n],e]
theorem gJ.Ja(P:gJ qs ps)(b:o∈qs)(h:o.nm∈wn bd ds qs k d):nearF bd ds k d o=aq:=by
 obtain⟨q,a,n,e⟩:=xq.mp h
 rwa [afh P.nd a b e] at n
theorem gJ.ext(P:gJ qs ps)(h1:∀z∈wn bd ds qs k d,z∈wn bd ds qs k' d')(h2:∀z∈wn bd ds qs k' d',z∈wn bd ds qs k d):wn bd ds qs k d=wn bd ds qs k' d':=by
 unfold wn;refine congrArg _ (List.filter_congr λo a=>?_);cases c:nearF bd ds k d o with
 |true=>exact(P.Ja a (h1 _ (xq.mpr #[o,a,c,rfl]))).symm
 |false=>
  cases c':nearF bd ds k' d' o with
  |false=>rfl
  |true=>rw[P.Ja a (h2 _ (xq.mpr #[o,a,c',rfl]))] at c;cases c
theorem aek:win bd ds (grp bd qs k) d=if lg (qs.filter (nearF bd ds k d))<bd then[] else wn bd ds qs k d:=by
 unfold win grp;rw[List.filter_filter];rfl
theorem Ei:o∈grp bd qs k↔o∈qs/\sr bd k o=aq:=mR
theorem Et(h:win bd ds (grp bd qs k) d≠[]):bd<=lg (qs.filter (nearF bd ds k d))/\win bd ds (grp bd qs k) d=wn bd ds qs k d:=by
 rw[aek] at h⊢;split at h
 .exact absurd rfl h
 .rename_i c
  exact#[aD,bK c]
theorem Yi(h:bd<=lg (qs.filter (nearF bd ds k d))):win bd ds (grp bd qs k) d=wn bd ds qs k d:=by
 rw[aek,bK aD]
theorem gJ.some(P:gJ qs ps):x∈gR bd ds ps ps []↔∃p∈qs,1<(qs.filter (nearF bd ds (p.ak,p.pt) p.dy)).length/\bd<=lg (qs.filter (nearF bd ds (p.ak,p.pt) p.dy))/\x=wn bd ds qs (p.ak,p.pt) p.dy:=by
 rw[Vo];constructor
 .rintro(h|⟨p,hp,h1,h2,h3⟩)
  .cases h
  .exact#[p,P.perm.mem_iff.mpr hp,by rwa [P.len] at h1,by rwa [P.sm] at h2,by rwa [P.sorted] at h3]
 .rintro⟨p,hp,h1,h2,h3⟩
  exact .inr #[p,P.perm.mem_iff.mp hp,by rwa [P.len],by rwa [P.sm],by rwa [P.sorted]]
theorem gJ.first(P:gJ qs ps)(h:qs.filter (nearF bd ds k d)≠[])(j:bd<=lg (qs.filter (nearF bd ds k d))):∃o∈qs,sr bd k o=aq/\(∀z∈wn bd ds qs k d,z∈wn bd ds qs k o.dy)/\bd<=lg (qs.filter (nearF bd ds k o.dy)):=by
 obtain⟨o,f,l⟩:=afi h
 obtain⟨f,i⟩:=mR.mp f
 have m:=vB.mp i;have sub:∀q∈qs,nearF bd ds k d q=aq->nearF bd ds k o.dy q=aq:=λq c n=>by
  have a:=l q (mR.mpr #[c,n]);have b:=vB.mp n;exact vB.mpr #[#[a,aD],b.2]
 refine#[o,f,m.2,λz g=>?_,Int.le_trans j (af0 P.am sub)]
 obtain⟨q,c,n,e⟩:=xq.mp g
 exact xq.mpr #[q,c,sub q c n,e]
theorem gJ.Xl(P:gJ qs ps)(b:o∈qs)(c:sr bd k o=aq)(e:0<ds)(a:bd<=lg (qs.filter (nearF bd ds k o.dy))):wn bd ds qs k o.dy∈gR bd ds ps ps []/\wn bd ds qs k o.dy≠[]:=by
 have d:=(um.mp c).2;subst d;have m:o∈qs.filter (nearF bd ds (o.ak,o.pt) o.dy):=mR.mpr #[b,ace c e]
 exact#[P.some.mpr #[o,b,aqv (λq=>aoW) a (aag m),a,rfl],aag (eO.mpr #[o,m,rfl])]
theorem gJ.to(P:gJ qs ps)(D:0<ds)(h:L∈longest bd ds (grp bd qs k)):L∈gR bd ds ps ps []/\L∉pW (gR bd ds ps ps []):=by
 obtain⟨n,⟨o,j,e⟩,i⟩:=Mg.mp h
 obtain⟨j,s⟩:=Ei.mp j
 obtain⟨u,y⟩:=Et (e▸n)
 rw[y] at e;subst e
 refine#[(P.Xl j s D u).1,λhi=>?_]
 obtain⟨_,w,C,v⟩:=acf.mp hi
 obtain⟨d,a⟩:=aej.mp v
 obtain⟨p,E,g,s1,rfl⟩:=P.some.mp C
 obtain⟨z,b⟩:=ZZ _ n
 obtain⟨q,A,t,x⟩:=xq.mp b
 have n2:=P.Ja A (by rw[x];exact a z b);have r:(p.ak,p.pt)=k:=(um.mp (vB.mp n2).2).2.symm.trans (um.mp (vB.mp t).2).2;rw[r] at a d s1 g
 obtain⟨o0,h1,B,f,l⟩:=P.first (λe=>by rw[e] at g;simp at g) s1
 by_cases c:win bd ds (grp bd qs k) o0.dy=wn bd ds qs k o.dy
 .rw[Yi l] at c;exact d (P.ext a λz b=>by rw[<-c];exact f z b)
 .obtain⟨z,b,m⟩:=i o0 (Ei.mpr #[h1,B]) c
  rw[Yi l] at m;exact m (f z (a z b))
theorem gJ.from(P:gJ qs ps)(s:0<ds)(h:L∈gR bd ds ps ps [])(B:L∉pW (gR bd ds ps ps [])):∃o∈qs,o.am<bd/\L∈longest bd ds (grp bd qs (o.ak,o.pt)):=by
 have big:∀w,w∈gR bd ds ps ps []->(∀z∈L,z∈w)->L=w:=λw C u=>ahA λc=>B (acf.mpr #[h,w,C,aej.mpr #[c,u]])
 obtain⟨p,D,b,s1,e⟩:=P.some.mp h
 generalize hk:(p.ak,p.pt)=k at b s1 e
 obtain⟨o,f,v,sub,m⟩:=P.first (λe=>by rw[e] at b;simp at b) s1
 obtain⟨x,r⟩:=P.Xl f v s m
 have i:=big _ x (by rw[e];exact sub);have j:=(um.mp v).2
 refine#[o,f,(um.mp v).1,?_]
 rw[j,i];refine Mg.mpr #[r,#[o,Ei.mpr #[f,v],(Yi m).symm],λq l a=>RN λc=>?_]
 obtain⟨l,t⟩:=Ei.mp l
 have g:∀z∈wn bd ds qs k o.dy,z∈win bd ds (grp bd qs k) q.dy:=λz d=>RN λn=>c #[z,d,n]
 obtain⟨z,d⟩:=ZZ _ r
 obtain⟨A,y⟩:=Et (aag (g z d))
 rw[y] at a g;exact a (by rw[<-i];exact(big _ (P.Xl l t s A).1 (by rw[i];exact g)).symm)
theorem gJ.aoX(P:gJ qs ps)(n:0<ds):(longest bd ds (grp bd qs k)).Nodup:=by
 unfold longest;have g:∀x∈jn (grp bd qs k),∀y∈jn (grp bd qs k),x<y->win bd ds (grp bd qs k) x≠[]->win bd ds (grp bd qs k) x≠win bd ds (grp bd qs k) y:=λx d y i j f e=>by
  have d:x∈jn (grp bd qs k):=d;unfold jn at d;rw[(pM _).mem_iff,abW,eO] at d
  obtain⟨o,h,rfl⟩:=d
  obtain⟨h,l⟩:=Ei.mp h
  obtain⟨_,e1⟩:=Et f
  obtain⟨_,e2⟩:=Et (e▸f)
  have m:=xq.mpr #[o,h,ace l n,rfl];rw[<-e1,e,e2] at m;have:=(vB.mp (P.Ja h m)).1.1;lia
 have p:(jn (grp bd qs k)).Nodup:=(pM _).nodup_iff.mpr (aj1 _);unfold List.Nodup;rw[List.pairwise_filter,K7];refine p.imp_of_mem λ{x y} d i hxy a b e=>?_
 have a:=of_decide_eq_true (ah4.mp a).1;have b:=of_decide_eq_true (ah4.mp b).1;rcases Int.lt_or_gt_of_ne hxy with c|c
 .exact g x d y i c a e
 .exact g y i x d c b e.symm
theorem gJ.aoY(P:gJ qs ps)(l:0<ds)(c:ks.Nodup):((ks.map (grp bd qs)).flatMap (longest bd ds)).Nodup:=by
 unfold List.Nodup;rw[List.pairwise_flatMap]
 refine#[λg j=>?_,?_]
 .obtain⟨k,_,rfl⟩:=eO.mp j
  exact P.aoX l
 .rw[K7];refine c.imp λ{k k'} hne x hx y hy e=>hne ?_
  subst e
  obtain⟨a,⟨o,p,e1⟩,_⟩:=Mg.mp hx
  obtain⟨_,⟨o',m,e2⟩,_⟩:=Mg.mp hy
  obtain⟨z,b⟩:=ZZ _ a
  have d:z∈wn bd ds qs k o.dy:=by rw[<-(Et (e1▸a)).2,<-e1];exact b
  have f:z∈wn bd ds qs k' o'.dy:=by rw[<-(Et (e2▸a)).2,<-e2];exact b
  obtain⟨q,i,n,h⟩:=xq.mp d
  exact(um.mp (vB.mp n).2).2.symm.trans (um.mp (vB.mp (P.Ja i (by rw[h];exact f))).2).2
theorem gJ.acg(P:gJ qs ps)(a:0<ds)(d:ks.Nodup)(c:∀o∈qs,o.am<bd->(o.ak,o.pt)∈ks):((ks.map (grp bd qs)).flatMap (longest bd ds)).Perm ((gR bd ds ps ps []).filter λx=>decide (x∉pW (gR bd ds ps ps []))):=by
 refine(List.perm_ext_iff_of_nodup (P.aoY a d) (ah5 _ (Wg .nil))).mpr λL=>?_
 rw[aiY,mR,decide_eq_true_iff];constructor
 .rintro⟨g,hg,h⟩
  obtain⟨k,_,rfl⟩:=eO.mp hg
  exact P.to a h
 .rintro⟨h1,h2⟩
  obtain⟨o,b,e,h⟩:=P.from a h1 h2
  exact#[_,eO.mpr #[_,c o b e,rfl],h]
theorem gJ.anc(P:gJ qs ps)(c:0<ds)(b:ks.Nodup)(a:∀o∈qs,o.am<bd->(o.ak,o.pt)∈ks):dW ie ((ks.map (grp bd qs)).flatMap (longest bd ds))=iG bd ds ps:=
 Aw YH (λ_ _=>trivial) ((pM _).trans (P.acg c b a)) (Ia YH λ_ _=>trivial)
theorem Mv:∀{r:List Pr}{aM:List (List Str)},(gR bd ds ps r aM).length<=aM.length+r.length
 |[],aM=>by unfold gR;simp
 |p::r,aM=>by
  unfold gR;refine jl Mv ?_;split<;>simp<;>lia
theorem gJ.ane(P:gJ qs ps)(a:0<ds)(c:ks.Nodup)(b:∀o∈qs,o.am<bd->(o.ak,o.pt)∈ks):((ks.map (grp bd qs)).flatMap (longest bd ds)).length<=ps.length:=by
 rw[(P.acg a c b).length_eq];refine jl (sy _ _) (jl Mv ?_);simp
theorem gJ.NZ(P:gJ qs ps)(h:L∈iG bd ds ps):1<L.length/\dW strLt L=L/\L.Nodup/\∀z∈L,z∈qs.map (·.nm):=by
 unfold iG at h;rw[(pM _).mem_iff,mR] at h
 obtain⟨p,c,h1,h2,rfl⟩:=P.some.mp h.1
 refine#[by unfold wn;rw[bC];exact h1,(Aw uG (λ_ _=>trivial) (G7 _) (P.up.sublist (List.filter_sublist.map _))).symm,P.nd.sublist (List.filter_sublist.map _),λz a=>?_]
 obtain⟨o,b,_,e⟩:=xq.mp a
 exact eO.mpr #[o,b,e]
theorem aqw:(iG bd ds ps).Nodup:=(pM _).nodup_iff.mpr (ah5 _ (Wg .nil))
theorem ael:(iG bd ds ps).length<=ps.length:=by
 unfold iG;rw[(pM _).length_eq];refine jl (sy _ _) (jl Mv ?_);simp
end
end zQ
namespace zQ
open PySem PySem.Builtin.Str L2
local macro_rules|`(tactic|simp_arith[$ts,*])=>do let l←("cI cS Qg Qh Qi Pk Pn Q0 Pq Q3 Pu Ga Px aN eU jo zx bN dat still cV dg aF aQ cL dw lK dY bV eV vI g8 pF fQ dX xG iB iV qj ql zM zE eF frB p8 setM vM nD cU mY bZ eE add_int sub_int le_int lt_int ge_int gt_int eq_int NB Ec yI Q6 Q7 QM QS QT QV QW QX QZ yx Q4 Ov Py Pz Q5 Option.bind_some Option.map_some List.getElem?_cons_zero List.getElem?_cons_succ List.set_cons_zero List.set_cons_succ List.map_cons List.map_nil List.length_cons List.length_nil Bool.not_true Bool.not_false if_true if_false ite_self Bool.false_eq_true Option.join id_eq Nat.reduceAdd Nat.reduceLeDiff Nat.reduceLT and_true true_and and_self String.reduceBEq Bool.or_false Bool.or_true Bool.false_or Bool.true_or Bool.and_true Bool.and_false Bool.true_and Bool.false_and decide_true decide_false reduceCtorEq eq_bool ne_bool ne_int PB PJ beq_self_eq_true List.length_map PK PL PN PX P0 Qa Qc Qd Qe Qf Dy HJ vV xU intD QG cond_true cond_false".splitOn " ").toArray.mapM λx=>`(Lean.Parser.Tactic.simpLemma|$(Lean.mkIdent x.toName):term);`(tactic|simp only[$[$l:simpLemma],*,$ts,*])
theorem x1(n m:Nat)(h1:1<=n)(h:n<=m):0∈strSliceIndices ao (aa (n:Int)) 1 m:=by
 unfold strSliceIndices Ml;simp only[show(1:Int)>0 from by decide,if_true];refine eO.mpr #[0,qp.mpr ?_,bH];have e:(if(n:Int)<0 then(n:Int)+m else n)=n:=bK aD;rw[e,abd];split<;>lia
theorem x2(n m:Nat)(h:n<m):n∈strSliceIndices (aa (n:Int)) ao 1 m:=by
 unfold strSliceIndices Ml;simp only[show(1:Int)>0 from by decide,if_true];have e:(if(n:Int)<0 then(n:Int)+m else n)=n:=bK aD;rw[e,abd];refine eO.mpr #[0,qp.mpr ?_,?_]
 .split<;>lia
 .lia
theorem afj(hz:i<z.length)(h:i∈strSliceIndices lo hi 1 z.length):0<(G6 z lo hi).length:=by
 unfold G6;split
 .lia
 .show 0<(aaR _ _).toArray.size;rw[oX];have m:z.cps[i]'hz∈aaR (λx=>z.cps[x]?) (strSliceIndices lo hi 1 z.length):=R8.mpr #[i,h,lV hz];exact Z7 m
theorem aoZ(h:Bl L C b (j+7))(h1:n<=7):
  ∃(cs:List Nat)(C':Ce),gQ .one dh Uk [aa (.im (.str abc)),aa (.ce b)] (qH 0 n) C=aa ((cs.map λc=>.str #[#v[c]]),C')/\cs.length=n/\(∀c∈cs,97<=c/\c<=122)/\Bl L C' b j:=by
 obtain⟨ys,C',e,a,g,q⟩:=ab4 (T:=.one) (fe:=Uk) (fs:=[aa (.im (.str abc)),aa (.ce b)]) (λi C1=>Bl L C1 b (j+(7-i))) (λ_ y=>∃c:Nat,y=.str ⟨#v[c]⟩/\97<=c/\c<=122) (aK:=qH 0 n) (C:=C) (k:=0) h (λi d C1 u a=>by
  obtain⟨rfl,hi⟩:=WQ u
  rw[Hs] at a⊢;rw[ap8 j (by lia:i<7)] at a
  obtain⟨f,C2,e1,t,l,s⟩:=mq (m:=26) a aP aP
  refine#[_,.im (.str #[#v[97+f.toNat]]),[aa (08 (0+i)),aa (.im (.str abc)),aa (.ce b)],C2,.str #[#v[97+f.toNat]],rfl,?_,rfl,#[_,rfl,aD,aD],s]
  simp_arith[cW,j9,kh,e1,fY,letters f t l])
 rw[acV] at a g
 obtain⟨cs,rfl,r⟩:=ad5 (D:=λc:Nat=>fP #[#v[c]]) (R:=λ_ c=>97<=c/\c<=122) (k:=0) (ys:=ys) λi y o=>(let ⟨c,e,p⟩:=q i y o;#[c,e,p])
 exact#[cs,C',e,by simpa using g,λc m=>by obtain⟨i,hi⟩:=ahT.mp m;exact r i c hi,a.mono (aaE _ _)]
theorem ao0{cs:List Nat}(h1:1<=cs.length)(h:cs.length<=8)(a:∀c∈cs,97<=c/\c<=122):∃z:Str,Ot (.str (aO "")) (.list (cs.map λc=>.str #[#v[c]]))=aa (.im (.str z))/\z.length=cs.length/\iH 8 z:=by
 refine#[Txt.join (aO "") (cs.map λc=>#[#v[c]]),?_,?_,iH.name (ale h1 h a)]
 .simp only[Ot,abb];refine bG ?_;rw[eZ,adZ,alh,Nat.mul_zero];unfold eE;lia
 .have:=congrArg ue (abD cs);rw[<-this];show _=(Txt.join (aO "") (cs.map λc=>#[#v[c]])).cps.toList.length;simp;rfl
theorem af1(h:x.length+y.length<=1000000):dM (.str x) (.str y)=aa (.im (.str (x++y))):=bG h
theorem len_app(x y:Str):(x++y).length=x.length+y.length:=by
 show(x.cps++y.cps).size=x.cps.size+y.cps.size
 rw[aar]
def sgn(f:Int)(k:Nat):Str:=#[#v[97+((f+7*(k:Int))%26).toNat]]
def Dc(A B:Str)(f:Int)(k:Nat):Str:=if k%2=0 then(A++sgn f k)++B else sgn f k
abbrev nE(b:Nat)(m:Int)(z:Str)(a f:Int)(aM:List aB)(v7 v8:Option Vl):En:=[aa (.ce b),aa (.im (.int m)),aa (.im (.str abc)),aa (.im (.str z)),aa (.im (.int a)),aa (.im (.int f)),aa (.ow (.list aM)),v7,v8]
theorem aq7(v:0<=k)(w:k<40)(hz:z.length<=7)(c:G6 z ao (aa a)=A)(d:G6 z (aa a) ao=B)(g:CK (.str abc) (.int ((f+7*k)%26))=aa (.str s))(ls:s.length=1)
  (p:k%2=r)(e:fG [fP ((A++s)++B),.str s] r=aa (.str nm))(o:(aM.length<1000000)=True):
  Mf (nE b m z a f aM (aa (08 k)) v8) C=aa (.nx,nE b m z a f (aM++[.str nm]) (aa (08 k)) (aa (.im (.str s))),C):=by
 have t:A.length<=7:=by rw[<-c];exact jl (PyProof.Txt.length_slice_le _ _ _) hz
 have u:B.length<=7:=by rw[<-d];exact jl (PyProof.Txt.length_slice_le _ _ _) hz
 have s1:dY 8 (bA fY (aZ 2) (aX (bA tB (aX (bA dM (aZ 5) (aX (bA rH (cI 7) (aZ 7))))) (cI 26)))) (nE b m z a f aM (aa (.im (.int k))) v8) C=aa (.nx,nE b m z a f aM (aa (08 k)) (aa (.im (.str s))),C):=by
  simp_arith[nE,mul_eq (i:=7) (j:=k) (.inl aP),mod_eq (i:=f+7*k) (j:=26) aP,fY,g]
 have l:(z.length<=1000000)=True:=eqT;have n:dM (.str A) (.str s)=aa (.im (.str (A++s))):=af1 aD;have h:dM (.str (A++s)) (.str B)=aa (.im (.str ((A++s)++B))):=af1 (by rw[len_app];lia);have q:tB (.int k) (.int 2)=aa (08 r):=by rw[<-p];exact mod_eq aP
 unfold Mf;simp only[bV,s1];simp_arith[nE,qQ,rY,qP,Kq,l,c,d,n,h,q,vN,xH,e,o]
theorem anf(h:Bl L C b (j+10)):
  ∃(zs:009)(C':Ce),Nb [.ce b,.im (.int 10)] C=aa (.ow (.list (zs.map .str)),C')/\zs.Nodup/\zs.length=10/\(∀z∈zs,iH 17 z)/\Bl L C' b j:=by
 refine hide λGG Z=>?_
 obtain⟨t,C1,e1,t0,t1,W⟩:=mq (m:=7) (k:=j+9) h aP aP
 obtain⟨n,F⟩:∃n:Nat,(1+t).toNat=n:=001
 obtain⟨cs,C2,e2,l2,S,u⟩:=aoZ (n:=n) (j:=j+2) W aD
 obtain⟨z,s,lz,sz⟩:=ao0 (cs:=cs) aD aD S
 obtain⟨a,C3,l,a0,a1,D⟩:=mq (m:=(z.length:Int)+1) (k:=j+1) u aD aD
 obtain⟨f,I,Q,f0,f1,K⟩:=mq (m:=26) (k:=j) D aP aP
 obtain⟨A,G⟩:∃A,G6 z ao (aa a)=A:=001
 obtain⟨B,v⟩:∃B,G6 z (aa a) ao=B:=001
 have AB:1<=A.length+B.length:=by
  obtain⟨i,rfl⟩:∃i:Nat,a=i:=#[a.toNat,aD]
  by_cases hi:i=0
  .have:=afj (z:=z) (lo:=aa (i:Int)) (hi:=ao) (i:=i) aD (x2 i _ aD);rw[v] at this;omega
  .have:=afj (z:=z) (lo:=ao) (hi:=aa (i:Int)) (i:=0) aD (x1 i _ aD aD);rw[G] at this;omega
 obtain⟨e',C5,M,⟨w,v8,rfl,rfl⟩⟩:=HH (g:=bZ 7) (body:=Mf) (aK:=qH 0 10) (aj:=nE b 10 z a f [] ao ao) (C:=I)
  (λi aj C1=>∃w v8,aj=nE b 10 z a f (((gj i).map (Dc A B f)).map .str) w v8/\C1=I) ⟨ao,ao,rfl,rfl⟩ (λi d aj C1 hd T=>by
   obtain⟨w,v8,rfl,rfl⟩:=T
   obtain⟨rfl,hi⟩:=WQ hd
   rw[Int.zero_add]
   obtain⟨k,H⟩:∃k:Int,(i:Int)=k:=001
   have X:0<=(f+7*k)%26:=Lf _ aP;have s1:(f+7*k)%26<26:=Sg _ aP;have J:=letters _ X s1
   obtain⟨r,U⟩:∃r,k%2=r:=001
   have es:(#[#v[97+((f+7*k)%26).toNat]]:Str)=sgn f i:=by unfold sgn;rw[H]
   rw[es] at J;have F:fG [fP ((A++sgn f i)++B),.str (sgn f i)] r=aa (.str (Dc A B f i)):=by
    unfold Dc;by_cases c:i%2=0
    .rw[bG c];have:r=0:=aD;subst this;rfl
    .rw[bK c];have:r=1:=aD;subst this;rfl
   have:=aq7 (C:=C1) (b:=b) (m:=10) (z:=z) (a:=a) (f:=f) (k:=k) (aM:=((gj i).map (Dc A B f)).map .str) (v8:=v8) aD aD aD G v J rfl U F (eq_true (by simp;omega));rw[H]
   refine#[_,.nx,_,C1,rfl,this,.inl rfl,aa (08 k),aa (.im (.str (sgn f i))),?_,rfl]
   rw[ai1,jH,jH];rfl)
 rw[acV] at M;have nd:((gj 10).map (Dc A B f)).Nodup:=by
  refine K7.mpr (List.nodup_range.imp_of_mem λ{x y} O p hxy e=>?_);have O:=qp.mp O;have p:=qp.mp p;have P:sgn f x=sgn f y->False:=λq=>by
   have q:97+((f+7*(x:Int))%26).toNat=97+((f+7*(y:Int))%26).toNat:=by
    unfold sgn at q;injection q with q
    injection q with q
    injection q with q
   omega
  have N:∀k,((A++sgn f k)++B).length=A.length+1+B.length:=λk=>by rw[len_app,len_app];rfl
  have o:∀k,(sgn f k).length=1:=λ_=>rfl
  unfold Dc at e;split at e<;>split at e
  .have e2:(A.cps++(sgn f x).cps)++B.cps=(A.cps++(sgn f y).cps)++B.cps:=congrArg Str.cps e;have s:=congrArg ajE e2;simp only[Array.toList_append,iK] at s;have l:=List.append_cancel_left s;simp only[sgn,j9,kh] at l;injection l with l
   exact P (by unfold sgn;rw[l])
  .have:=congrArg Str.length e;rw[N,o] at this;omega
  .have:=congrArg Str.length e;rw[N,o] at this;omega
  .exact P e
 refine Z #[_,C5,mC [aa (.ce b),aa (08 10),ao,ao,ao,ao,ao,ao,ao] rfl rfl ?_ rfl (h.eq K),nd,bH,λy p=>?_,K]
 .have Y:aO "abcdefghijklmnopqrstuvwxyz"=abc:=rfl;have n1:(n<=1000000)=True:=eqT;have R:JX (.str z)=aa z.length:=bG (by show z.length<=1000000;omega);have V:vJ [.str z]=aa (.im (.int z.length)):=by
   unfold vJ;simp only[R];rfl
  simp_arith[Wd,Pj,Y,n1,V,uU,e1,F,agt (m:=1+t) aD aD,e2,abE,l2,↓s,l,Q,iD,agt (m:=10) aD aD,show Int.toNat 10=10 from rfl,M]
 .obtain⟨k,_,rfl⟩:=eO.mp p
  have o:iH 1 (sgn f k):=by
   refine#[λc E=>?_,bQ _]
   have E:c∈[97+((f+7*(k:Int))%26).toNat]:=E;rw[gB.mp E];omega
  unfold Dc;split
  .rw[<-G,<-v]
   exact((sz.slice _ _).add o).add (sz.slice _ _)
  .exact o.mono aP
end zQ
namespace zQ
open PySem L2
local macro_rules|`(tactic|simp_arith[$ts,*])=>do let l←("cI cS Qg Qh Qi Pk Pn Q0 Pq Q3 Pu Ga Px aN eU jo zx bN dat still cV dg aF aQ cL dw lK dY bV eV vI g8 pF fQ dX xG iB iV qj ql zM zE eF frB p8 setM vM nD cU mY bZ eE add_int sub_int le_int lt_int ge_int gt_int eq_int NB Ec yI Q6 Q7 QM QS QT QV QW QX QZ yx Q4 Ov Py Pz Q5 Option.bind_some Option.map_some List.getElem?_cons_zero List.getElem?_cons_succ List.set_cons_zero List.set_cons_succ List.map_cons List.map_nil List.length_cons List.length_nil Bool.not_true Bool.not_false if_true if_false ite_self Bool.false_eq_true Option.join id_eq Nat.reduceAdd Nat.reduceLeDiff Nat.reduceLT and_true true_and and_self String.reduceBEq Bool.or_false Bool.or_true Bool.false_or Bool.true_or Bool.and_true Bool.and_false Bool.true_and Bool.false_and decide_true decide_false reduceCtorEq eq_bool ne_bool ne_int PB PJ beq_self_eq_true List.length_map PK PL PN PX P0 Qa Qc Qd Qe Qf Dy HJ vV xU intD QG cond_true cond_false".splitOn " ").toArray.mapM λx=>`(Lean.Parser.Tactic.simpLemma|$(Lean.mkIdent x.toName):term);`(tactic|simp only[$[$l:simpLemma],*,$ts,*])
def pD(p:Pr):aB:=.tuple [.str p.nm,.str p.pt,.int p.am,.int p.dy,.str p.ak,.str p.gt]
def Gf:List Str:=[aO "p",aO "q",aO "pq"]
structure Cj(p:Pr):Prop where
 nm:iH 17 p.nm
 am0:0<=p.am
 am1:p.am<=1000000000
 dy0:0<=p.dy
 dy1:p.dy<=300000
 pt:p.pt∈Gf
 ak:iH 2 p.ak
 gt:iH 1 p.gt
theorem Ju{xs:List Int}{k:Int}(a:0<=k)(h1:k<xs.length):∃c∈xs,fG (xs.map Hz) k=aa (.int c):=by
 obtain⟨x,e,e2⟩:=X4 (xs:=xs.map Hz) a (by rw[bC];exact h1)
 rw[jr] at e2
 obtain⟨c,b,rfl⟩:=lW.mp e2
 exact#[c,jY b,e]
theorem afk{xs:009}{k:Int}(a:0<=k)(h1:k<xs.length):∃c∈xs,fG (xs.map fP) k=aa (.str c):=by
 obtain⟨x,e,e2⟩:=X4 (xs:=xs.map fP) a (by rw[bC];exact h1)
 rw[jr] at e2
 obtain⟨c,b,rfl⟩:=lW.mp e2
 exact#[c,jY b,e]
theorem zg(h:(z.cps.toList.all λc=>decide (c<128))=aq)(a:z.length<=n):iH n z:=#[λc m=>of_decide_eq_true (jT.mp h c m),a]
theorem abcd(a:0<=k)(h1:k<4):∃z,fY (.str (aO "abcd")) (.int k)=aa (.im (.str z))/\iH 1 z:=by
 have:k=0\/k=1\/k=2\/k=3:=aD;rcases this with rfl|rfl|rfl|rfl
 .exact#[#[#v[97]],rfl,zg rfl (bQ _)]
 .exact#[#[#v[98]],rfl,zg rfl (bQ _)]
 .exact#[#[#v[99]],rfl,zg rfl (bQ _)]
 .exact#[#[#v[100]],rfl,zg rfl (bQ _)]
abbrev pE(b:Nat)(bd wide first most:Int)(ns:Vl)(aM:List aB)(v7 v8 v9 v10:Option Vl):En:=[aa (.ce b),aa (.im (.int bd)),aa ns,aa (.im (.int wide)),aa (.im (.int first)),aa (.im (.int most)),aa (.ow (.list aM)),v7,v8,v9,v10]
theorem ang(h:Bl L C b (j+5))(Y:0<=bd)(R:bd<=1000000000)(S:1<=wide)(w1:wide<=99999)(T:0<=first)(Q:first<=99900)(m0:1<=most)(m1:most<=3)(hz:iH 17 z)(V:aM.length<100):
  ∃p C' E A f,LC (pE b bd wide first most ns aM (aa (.im (.str z))) v8 v9 v10) C=aa (.nx,pE b bd wide first most ns (aM++[pD p]) (aa (.im (.str z))) E A f,C')/\p.nm=z/\Cj p/\Bl L C' b j:=by
 refine hide λGG I=>?_
 obtain⟨t1,C1,e1,x1,t,G⟩:=mq (m:=7) (k:=j+4) h aP aP
 obtain⟨M,C2,e2,x2,Z,c⟩:=mq (m:=most) (k:=j+3) G aD aD
 obtain⟨t3,C3,x,P,F,g⟩:=mq (m:=4) (k:=j+2) c aP aP
 obtain⟨d,U,H,x4,W,B⟩:=mq (m:=wide) (k:=j+1) g aD aD
 obtain⟨X,N,q,v,w,D⟩:=mq (m:=4) (k:=j) B aP aP
 obtain⟨a,_,l⟩:=Ju (xs:=[bd-1,bd,bd / 2,bd-bd / 2,bd / 3+1,0,bd+1]) x1 t
 obtain⟨e,mk,i⟩:=afk (xs:=[aO "a",aO "ap",aO "b"]) x2 (by show M<3;lia)
 obtain⟨pt,o,n⟩:=afk (xs:=[aO "p",aO "p",aO "q",aO "pq"]) P F
 obtain⟨r,J,O⟩:=abcd v w
 have K:qw (.int bd) (.int 2)=aa (08 (bd / 2)):=fdiv_eq aP aP;have u:qw (.int bd) (.int 3)=aa (08 (bd / 3)):=fdiv_eq aP aP;have y:rG (.int 10) (.int 9)=aa (08 1000000000):=rfl;have s:(aM.length<1000000)=True:=eqT;refine I #[#[z,pt,if(if a<1000000000 then a else 1000000000)>0 then(if a<1000000000 then a else 1000000000) else 0,first+d,e,r],N,aa (.im (.int (if(if a<1000000000 then a else 1000000000)>0 then(if a<1000000000 then a else 1000000000) else 0))),aa (.im (.str e)),aa (.im (.str pt)),?_,rfl,#[hz,?_,?_,by show 0<=first+d;lia,by show first+d<=300000;lia,?_,?_,O],D]
 .simp only[cM,sG] at l i n;simp_arith[LC,pE,K,u,e1,l,y,ur,Bh,e2,i,x,n,H,q,J,vN,xH,s,pD]
 .dsimp only
  grind
 .dsimp only
  grind
 .show pt∈Gf;unfold Gf;simp only[cC,mQ,or_false] at o⊢;rcases o with rfl|rfl|rfl|rfl
  .exact .inl rfl
  .exact .inl rfl
  .exact .inr (.inl rfl)
  .exact .inr (.inr rfl)
 .show iH 2 e;simp only[cC,mQ,or_false] at mk;rcases mk with rfl|rfl|rfl
  .exact zg rfl aP
  .exact zg rfl aP
  .exact zg rfl aP
structure zH(ps:List Pr):Prop where
 one:∀p∈ps,Cj p
 nd:(ps.map (·.nm)).Nodup
 few:ps.length<=10
theorem arQ(zs:009)(m:Nat):iY (zs.map fP) ao (aa (m:Int))=(zs.take m).map .str:=by
 unfold iY;rw[bC,show HT.eX zs.length 0 ao=0 from rfl,List.drop_zero,Nat.sub_zero,HT.anM,ajB];by_cases c:m<=zs.length
 .rw[Nat.min_eq_left c]
 .rw[Nat.min_eq_right aD,RW (by rw[bC];exact bQ _),RW (by rw[bC];lia)]
theorem alF(h:Bl L C b (j+70))(b0:0<=bd)(N:bd<=1000000000):
  ∃(ps:List Pr)(C':Ce),HN [.ce b,.im (.int bd)] C=aa (.ow (.list (ps.map pD)),C')/\zH ps/\Bl L C' b j:=by
 refine hide λGG gg=>?_
 obtain⟨zs,C1,e1,nd,lz,sz,Z⟩:=anf (j:=j+60) h
 obtain⟨t2,C2,e2,x2,y2,c⟩:=mq (m:=4) (k:=j+59) Z aP aP
 obtain⟨t3,C3,Q,S,y3,t⟩:=mq (m:=3) (k:=j+58) c aP aP
 obtain⟨v,C4,e4,x4,y4,X⟩:=mq (m:=3) (k:=j+57) t aP aP
 obtain⟨E,C5,O,x5,y5,Kv⟩:=mq (m:=11) (k:=j+56) X aP aP
 obtain⟨a,mw,G⟩:=Ju (xs:=[3,9,60,99999]) x2 y2
 obtain⟨r,R,M⟩:=Ju (xs:=[0,500,99900]) S y3
 have F:1<=a/\a<=99999:=by
  simp only[cC,mQ,or_false] at mw;lia
 have k0:0<=r/\r<=99900:=by
  simp only[cC,mQ,or_false] at R;lia
 obtain⟨n,w,U⟩:∃n:Int,(if decide (a<99)=aq then(1:Int) else 0)=n/\(n=0\/n=1):=#[_,rfl,by split<;>simp]
 obtain⟨first,f⟩:∃x,r*n=x:=001
 have J:0<=first/\first<=99900:=by
  rcases U with rfl|rfl
  .rw[Int.mul_zero] at f;lia
  .rw[Int.mul_one] at f;lia
 have T:rH (.int r) (.int n)=aa (08 first):=by rw[<-f];exact mul_eq (.inl aD)
 obtain⟨m,hm⟩:∃m:Nat,E=m:=#[E.toNat,aD]
 subst hm;have tl:(zs.take m).length=m:=by rw[GJ];lia
 obtain⟨e',Y,e6,⟨ps,D,v8,v9,v10,rfl,ep,W,u⟩⟩:=HH (g:=bZ 7) (body:=LC) (aK:=(zs.take m).map .str) (aj:=pE b bd a first (1+v) (.ow (.list (zs.map .str))) [] ao ao ao ao) (C:=C5)
  (λi aj C1=>∃(l:List Pr)(D v8 v9 v10:Option Vl),aj=pE b bd a first (1+v) (.ow (.list (zs.map .str))) (l.map pD) D v8 v9 v10/\l.map (·.nm)=(zs.take m).take i/\(∀p∈l,Cj p)/\Bl L C1 b (j+5*(m-i))) ⟨[],ao,ao,ao,ao,rfl,rfl,(λ_ m=>nomatch m),Kv.mono aD⟩ (λi d aj C1 H P=>by
   obtain⟨l,D,v8,v9,v10,rfl,I,V,K⟩:=P
   rw[jr] at H
   obtain⟨z,B,rfl⟩:=lW.mp H
   have hi:i<m:=by
    have:=(jk.mp B).1;lia
   have ll:l.length=i:=by
    have:=congrArg ue I;rw[bC,GJ,tl] at this;lia
   rw[aq3 j 5 hi] at K
   obtain⟨p,C2,w8,w9,y,e,en,ok,c⟩:=ang (j:=j+5*(m-(i+1))) (ns:=.ow (.list (zs.map .str))) (aM:=l.map pD) (z:=z) (v8:=v8) (v9:=v9) (v10:=v10) K b0 N F.1 F.2 J.1 J.2 (by lia:1<=1+v) aD (sz z (ah6 (jY B))) (by rw[bC];lia)
   refine#[_,.nx,_,C2,rfl,e,.inl rfl,l++[p],_,w8,w9,y,by rw[jH];rfl,?_,λq o=>?_,c]
   .rw[jH,I,aaY,B,<-en];rfl
   .rcases dU.mp o with o|o
    .exact V q o
    .rw[gB.mp o];exact ok)
 rw[bC,tl] at ep u;rw[RW aD] at ep;refine gg #[ps,Y,mC [aa (.ce b),aa (08 bd),ao,ao,ao,ao,ao,ao,ao,ao,ao] rfl rfl ?_ rfl (h.eq u),#[W,by rw[ep];exact nd.sublist (aal _ _),by have:=congrArg ue ep;rw[bC] at this;lia],u.mono aD];simp only[cM,sG] at G M;have c1:=arQ zs m;have s:(zs.length<=1000000)=True:=eqT;have A:((zs.take m).length<=1000000)=True:=eqT;simp_arith[Vh,e1,e2,G,Q,M,w,Fd,T,e4,qQ,rY,qP,Kq,O,c1,s,A,iD,e6]
end zQ
namespace zQ
open PySem L2
local macro_rules|`(tactic|simp_arith[$ts,*])=>do let l←("cI cS Qg Qh Qi Pk Pn Q0 Pq Q3 Pu Ga Px aN eU jo zx bN dat still cV dg aF aQ cL dw lK dY bV eV vI g8 pF fQ dX xG iB iV qj ql zM zE eF frB p8 setM vM nD cU mY bZ eE add_int sub_int le_int lt_int ge_int gt_int eq_int NB Ec yI Q6 Q7 QM QS QT QV QW QX QZ yx Q4 Ov Py Pz Q5 Option.bind_some Option.map_some List.getElem?_cons_zero List.getElem?_cons_succ List.set_cons_zero List.set_cons_succ List.map_cons List.map_nil List.length_cons List.length_nil Bool.not_true Bool.not_false if_true if_false ite_self Bool.false_eq_true Option.join id_eq Nat.reduceAdd Nat.reduceLeDiff Nat.reduceLT and_true true_and and_self String.reduceBEq Bool.or_false Bool.or_true Bool.false_or Bool.true_or Bool.and_true Bool.and_false Bool.true_and Bool.false_and decide_true decide_false reduceCtorEq eq_bool ne_bool ne_int PB PJ beq_self_eq_true List.length_map PK PL PN PX P0 Qa Qc Qd Qe Qf Dy HJ vV xU intD QG cond_true cond_false".splitOn " ").toArray.mapM λx=>`(Lean.Parser.Tactic.simpLemma|$(Lean.mkIdent x.toName):term);`(tactic|simp only[$[$l:simpLemma],*,$ts,*])
abbrev sP:Str:=aO "pages"
abbrev uW:Str:=aO "papers"
abbrev uX:Str:=aO "parts"
def page(P:aB)(r:Nat):List (aB×Ci):=[(.str uX,.dat P),(.str (aO "ranks"),.dat (.tuple [])),(.str (aO "leaves"),.dat (.tuple [])),(.str (aO "back"),.dat (.tuple [])),(.str (aO "rules"),.dat (.tuple [])),(.str uW,.cD r)]
def oK(p:Pr):aB:=.tuple [.tuple [.str p.pt,.int p.am,.str p.ak,.str p.gt],.int p.dy,.tuple []]
def jC(p:Pr):aB×Ci:=(.str p.nm,.dat (oK p))
def fB(l:List (Str×Str)):aB:=.tuple (l.map jf)
structure Bk(c0:az)(C:Ce)(n p q r:Nat)(cN:List Ci)(P:List (Str×Str))(aL:List Pr):Prop where
 bk:C[n]?=aa (.obj c0 [sP] [.cD p])
 pg:C[p]?=aa (.lst (cN++[.cD q]))
 pa:C[q]?=aa (.b8 (page (fB P) r))
 ro:C[r]?=aa (.b8 (aL.map jC))
 np:n<p
 pf:P.length<=10
 gf:cN.length<=100
 clo:jj C
theorem acu(xs:List α)(x:α):fG (xs++[x]) (-1)=aa x:=by
 unfold fG nu;rw[bK aP,bG (by rw[eG,aac];lia),bU,show(-1+((xs++[x]).length:Int)).toNat=xs.length by rw[eG,aac];lia,gh (bQ _),pK];rfl
theorem aqx(P:aB)(r r':Nat):xM uW (.cD r') (page P r)=page P r':=rfl
theorem aqy(P P':aB)(r:Nat):xM uX (.dat P') (page P r)=page P' r:=rfl
section
variable{c0:az}{C C1:Ce}{n p q r i:Nat}{cN:List Ci}{aj e1:En}
theorem Yj(h:C[n]?=aa (.obj c0 [sP] [.cD p])):Gb c0 C[n]?=aa ([sP],[.cD p]):=by
 rw[h];exact bG rfl
theorem afl(a:C[n]?=aa (.obj c0 [sP] [.cD p]))(h:aj[i]?=aa (aa (.ce n))):xK c0 sP (aN i) aj C=aa (.ce p,aj,C):=by
 unfold xK;rw[ap5 h,bU];dsimp only;rw[Yj a,bU];rfl
theorem Bk.top(B:Bk c0 C n p q r cN P aL)(h:aj[i]?=aa (aa (.ce n))):qJ (xK c0 sP (aN i)) (aX (pF (cI 1))) aj C=aa (.ce q,aj,C):=by
 unfold qJ;rw[afl B.bk h,bU];dsimp only;rw[show aX (pF (cI 1)) aj C=aa (.int (-1),aj,C) from rfl,bU];dsimp only;rw[B.pg,bU,show Gm (.lst (cN++[.cD q])) (.int (-1))=aa (.cD q) from acu _ _];rfl
theorem oE(e:C[n]?=aa (.obj c0 [sP] [.cD p]))(h:aj[i]?=aa (aa (.ce n)))(d:m≠sP)(b:g aj C=aa (xs,aj,C))(c:f (.ce n::xs) C=aa (v,C1))(a:BV v=aH):cZ c0 m i f g aj C=aa (v,aj,C1):=by
 unfold cZ;rw[h];dsimp only;rw[Yj e,bU,bK (λz=>d (gB.mp z)),b,bU];dsimp only;rw[c,bU];dsimp only;rw[a,bK aP,yx]
theorem Bk.O4(B:Bk c0 C n p q r cN P aL):jw c0 [.ce n,.im (.str uW)] C=aa (.ce r,C):=by
 refine mC [aa (.ce n),aa (.im (.str uW))] rfl rfl ?_ (gq (jk.mp B.ro).1) rfl;unfold O1 eV qJ;have t:=B.top (aj:=[aa (.ce n),aa (.im (.str uW))]) (i:=0) rfl;unfold qJ at t;rw[t,bU];dsimp only;rw[show aZ 1 [aa (.ce n),aa (.im (.str uW))] C=aa (.str uW,[aa (.ce n),aa (.im (.str uW))],C) from rfl,bU];dsimp only;rw[B.pa,bU,show Gm (.b8 (page (fB P) r)) (.str uW)=aa (.cD r) from rfl];rfl
theorem Bk.afm(B:Bk c0 C n p q r cN P aL):jw c0 [.ce n,.im (.str uX)] C=aa (.im (fB P),C):=by
 refine mC [aa (.ce n),aa (.im (.str uX))] rfl rfl ?_ rfl rfl;unfold O1 eV qJ;have t:=B.top (aj:=[aa (.ce n),aa (.im (.str uX))]) (i:=0) rfl;unfold qJ at t;rw[t,bU];dsimp only;rw[show aZ 1 [aa (.ce n),aa (.im (.str uX))] C=aa (.str uX,[aa (.ce n),aa (.im (.str uX))],C) from rfl,bU];dsimp only;rw[B.pa,bU,show Gm (.b8 (page (fB P) r)) (.str uX)=aa (.dat (fB P)) from rfl];rfl
end
theorem aqz(a:En)(d:xs.length=k)(c:xs.map aa++cH (n-xs.length) ao=a)(h:(body a C).map (λp=>(p.1,p.2.2))=aa (.nx,C1))(b:C1.length=C.length):fN k n body xs C=aa (.im .none,C1):=by
 unfold fN;rw[bG d,c];cases hb:body a C with
 |none=>rw[hb] at h;cases h
 |some p=>
  rw[hb] at h
  obtain⟨e,e1,C2⟩:=p
  have h:(e,C2)=(Fl.nx,C1):=lY h;injection h with h1 h2
  subst h1 h2;simp only[adV b]
theorem Jv(a:En)(c:xs.length=k)(b:xs.map aa++cH (n-xs.length) ao=a)(h:(body a C).map (λp=>(p.1,p.2.2))=aa (.nx,C1)):wg k n body xs C=aa (.im .none,C1):=by
 unfold wg;rw[bG c,b];cases hb:body a C with
 |none=>rw[hb] at h;cases h
 |some p=>
  rw[hb] at h
  obtain⟨d,e1,C2⟩:=p
  have h:(d,C2)=(Fl.nx,C1):=lY h;injection h with h1 h2
  subst h1 h2;rfl
theorem aqA(P:List (Str×Str)):gQ (.many 2) dh (aaX c0) [] (P.map jf) C=aa ((P.map (·.1)).map .str,C):=by
 rw[eZ];exact qZ jf _ λa _=>#[[.str a.1,.str a.2],rfl,rfl,.im (.str a.1),_,rfl,rfl]
theorem Bk.has(B:Bk c0 C n p q r cN P aL)(z:Str):wI c0 [.ce n,.im (.str z)] C=aa (.im (.bool (decide (z∈P.map (·.1)))),C):=by
 refine mC [aa (.ce n),aa (.im (.str z))] rfl rfl ?_ rfl rfl;have m:cZ c0 (aO "now") 0 (jw c0) (aF (bN (.str (aO "parts"))) aQ) [aa (.ce n),aa (.im (.str z))] C=aa (.im (fB P),[aa (.ce n),aa (.im (.str z))],C):=oE B.bk rfl aP rfl B.afm rfl;have f:=aqA (c0:=c0) (C:=C) P;unfold fB at m;have l:=eq_true (show P.length<=1000000 from jl B.pf aP);simp_arith[Uh,m,f,l,yI]
theorem Bk.need(B:Bk c0 C n p q r cN P aL)(h:z∈P.map (·.1)):u9 c0 [.ce n,.im (.str z)] C=aa (.im .none,C):=by
 refine aqz [aa (.ce n),aa (.im (.str z))] rfl rfl ?_ rfl;have e:=B.has z;rw[gq h] at e;have m:cZ c0 (aO "has_part") 0 (wI c0) (aF (aN 1) aQ) [aa (.ce n),aa (.im (.str z))] C=aa (.im (.bool aq),[aa (.ce n),aa (.im (.str z))],C):=oE B.bk rfl aP rfl e rfl;simp_arith[T6,m,fZ]
def pZ(C:Ce)(p q:Nat)(cN:List Ci)(pg:List (aB×Ci)):Ce:=Am (C++[Cl.b8 pg]) p (Cl.lst ((cN++[Ci.cD q])++[Ci.cD C.length]))
theorem Ax(h:o=aa (.b8 au))(a:(cj fL (au.map λp=>(p.1,j4))).isSome=aq):Ca o=aa au:=by
 rw[h];exact bG a
theorem Bk.turn(B:Bk c0 C n p q r cN P aL)(b:zP v=aa x)(e:xM key x (page (fB P) r)=page (fB P') r'):yK c0 [.ce n,.im (.str key),v] C=aa (.im .none,pZ C p q cN (page (fB P') r')):=by
 have lt:∀{j:Nat}{c:Cl},C[j]?=aa c->j<C.length:=λh=>(jk.mp h).1
 refine Jv [aa (.ce n),aa (.im (.str key)),aa v,ao] rfl rfl ?_;have g:∀(a:Option Vl)(D:Ce),aN 2 [aa (.ce n),aa (.im (.str key)),aa v,a] D=aa (v,[aa (.ce n),aa (.im (.str key)),aa v,a],D):=λa D=>by
  cases v<;>first|rfl|cases b
 have s1:zb 3 (qJ (xK c0 (aO "pages") (aN 0)) (aX (pF (cI 1)))) [aa (.ce n),aa (.im (.str key)),aa v,ao] C=aa (.nx,[aa (.ce n),aa (.im (.str key)),aa v,aa (.ce C.length)],C++[.b8 (page (fB P) r)]):=by
  unfold zb;rw[B.top rfl,bU];dsimp only;rw[Ax B.pa rfl];rfl
 have i:Bw 3 (aZ 1) (aN 2) [aa (.ce n),aa (.im (.str key)),aa v,aa (.ce C.length)] (C++[.b8 (page (fB P) r)])=aa (.nx,[aa (.ce n),aa (.im (.str key)),aa v,aa (.ce C.length)],C++[.b8 (page (fB P') r')]):=by
  unfold Bw;rw[g,bU,b,bU];dsimp only[KC,KD];rw[show aZ 1 [aa (.ce n),aa (.im (.str key)),aa v,aa (.ce C.length)] (C++[.b8 (page (fB P) r)])=aa (.str key,[aa (.ce n),aa (.im (.str key)),aa v,aa (.ce C.length)],C++[.b8 (page (fB P) r)]) from rfl,bU];dsimp only;rw[Ax (au:=page (fB P) r) (by rw[gh (bQ _),pK];rfl) rfl,bU,bG (by show 6<1000000;decide),e,De _ _ (bQ _),pK];rfl
 have k:Ql (xK c0 (aO "pages") (aN 0)) (aN 3) [aa (.ce n),aa (.im (.str key)),aa v,aa (.ce C.length)] (C++[.b8 (page (fB P') r')])=aa (.nx,[aa (.ce n),aa (.im (.str key)),aa v,aa (.ce C.length)],pZ C p q cN (page (fB P') r')):=by
  have f:(C++[.b8 (page (fB P') r')])[n]?=aa (.obj c0 [sP] [.cD p]):=by rw[gK (lt B.bk)];exact B.bk
  have d:(C++[.b8 (page (fB P') r')])[p]?=aa (.lst (cN++[.cD q])):=by rw[gK (lt B.pg)];exact B.pg
  unfold Ql;rw[afl f rfl,bU];dsimp only;rw[d,show kW (aa (.lst (cN++[.cD q])))=aa (cN++[.cD q]) from rfl,bU,show aN 3 [aa (.ce n),aa (.im (.str key)),aa v,aa (.ce C.length)] (C++[.b8 (page (fB P') r')])=aa (.ce C.length,[aa (.ce n),aa (.im (.str key)),aa v,aa (.ce C.length)],C++[.b8 (page (fB P') r')]) from rfl,bU];dsimp only;rw[show zP (.ce C.length)=aa (.cD C.length) from rfl,bU,d,show kW (aa (.lst (cN++[.cD q])))=aa (cN++[.cD q]) from rfl,bU,bG (by have:=B.gf;rw[eG];show _+1<1000000;lia)];rfl
 unfold Xe;simp only[bV,s1,i,k,pI]
theorem Bk.turned(B:Bk c0 C n p q r cN P aL)(a:C[r']?=aa (.b8 (rows'.map jC)))(f:P'.length<=10)(l:cN.length<100):Bk c0 (pZ C p q cN (page (fB P') r')) n p C.length r' (cN++[.cD q]) P' rows'/\(∀i,i<C.length->i≠p->(pZ C p q cN (page (fB P') r'))[i]?=C[i]?)/\(pZ C p q cN (page (fB P') r')).length=C.length+1:=by
 have lt:∀{j:Nat}{c:Cl},C[j]?=aa c->j<C.length:=λh=>(jk.mp h).1
 have k:(pZ C p q cN (page (fB P') r')).length=C.length+1:=by unfold pZ;rw[wD,eG];rfl
 have b:∀i,i<C.length->i≠p->(pZ C p q cN (page (fB P') r'))[i]?=C[i]?:=λi hi d=>by
  unfold pZ;rw[qT (jK d),gK hi]
 have g:=lt B.pg;have o:=B.np
 refine#[#[?_,?_,?_,?_,o,f,by rw[eG];exact l,?_],b,k]
 .rw[b n (lt B.bk) aD];exact B.bk
 .unfold pZ;rw[Z4 (by rw[eG];exact yj g)]
 .unfold pZ;rw[qT aD,gh (bQ _),pK];rfl
 .rw[b r' (lt a) λe=>by rw[e,B.pg] at a;cases a];exact a
 .have s:=lt B.pa;unfold pZ
  refine(B.clo.app ?_).set p ?_
  .have:=lt a
   show(aq&&(aq&&(aq&&(aq&&(aq&&(decide (r'<C.length+1)&&aq))))))=aq
   rw[gq aD];rfl
  .have h:=B.clo p _ B.pg;show List.all ((cN++[Ci.cD q])++[Ci.cD C.length]) (tU (C++[Cl.b8 (page (fB P') r')]).length)=aq;rw[ajc,jc]
   refine#[jT.mpr λx m=>ac8 (by rw[eG];exact aaE _ _) (jT.mp h x m),?_]
   show(decide (C.length<(C++[Cl.b8 (page (fB P') r')]).length)&&aq)=aq
   rw[gq (by rw[eG];exact zW _)];rfl
theorem N5{α:Type}{D:α->aB}(h:∀a,fU (D a)=aq):∀l:List α,iW (l.map D)=aq
 |[]=>rfl
 |a::l=>by
  show(fU (D a)&&iW (l.map D))=aq
  rw[h,N5 h l];rfl
theorem Ay(d:C[n]?=aa (.obj c0 [sP] [.cD p]))(h:aj[i]?=aa (aa (.ce n)))(c:m≠sP)(a:g aj C=aa (xs,aj,C))(b:f (.ce n::xs) C=aa (v,C1)):m6 c0 m i f g aj C=aa (.nx,aj,C1):=by
 unfold m6;rw[h];dsimp only;rw[Yj d,bU,bK (λz=>c (gB.mp z)),a,bU];dsimp only;rw[b,bU]
theorem anh(h1:dM (fB l) (.tuple [jf ab])=aa (.im (.tuple xs)))(h2:yJ [.tuple xs]=aa (.ow (.list (l'.map jf)))):IW [.im (fB l),.im (jf ab)] C=aa (.im (fB l'),C):=by
 refine mC [aa (.im (fB l)),aa (.im (jf ab))] rfl rfl ?_ rfl rfl;have a:Ny [.list (l'.map jf)]=aa (.im (fB l')):=rfl;simp_arith[Xc,h1,h2,a]
theorem Bk.add(B:Bk c0 C n p q r cN P aL){a w:Str}{P':List (Str×Str)}{xs:016}(k:a∉P.map (·.1))(e:w=aO ""\/(w≠aO ""/\w∈P.map (·.1)))(h1:dM (fB P) (.tuple [jf (a,w)])=aa (.im (.tuple xs)))(h2:yJ [.tuple xs]=aa (.ow (.list (P'.map jf)))):sH c0 [.ce n,.im (.str a),.im (.str w)] C=aa (.im .none,pZ C p q cN (page (fB P') r)):=by
 obtain⟨aj,b⟩:∃aj:En,aj=[aa (.ce n),aa (.im (.str a)),aa (.im (.str w))]:=001
 refine Jv aj rfl b.symm ?_;have c:aj[0]?=aa (aa (.ce n)):=by rw[b];rfl
 have h:=B.has a;rw[m7 k] at h;have s1:fZ (jo (aX (cZ c0 (aO "has_part") 0 (wI c0) (aF (aN 1) aQ)))) zG g8 aj C=aa (.nx,aj,C):=by
  have m:cZ c0 (aO "has_part") 0 (wI c0) (aF (aN 1) aQ) aj C=aa (.im (.bool aH),aj,C):=oE B.bk c aP (by rw[b];rfl) h rfl;simp_arith[m,fZ]
 have j:fZ (eU (bA jy (aZ 2) (cS ""))) (vL (cZ c0 (aO "need_part") 0 (u9 c0) (aF (aN 2) aQ))) g8 aj C=aa (.nx,aj,C):=by
  have g:aZ 2 aj C=aa (.str w,aj,C):=by rw[b];rfl
  rcases e with rfl|⟨d,e⟩
  .have:jy (.str (aO "")) (.str (aO ""))=aa (.im (.bool aH)):=rfl;simp_arith[fZ,↓g,this]
  .have m:cZ c0 (aO "need_part") 0 (u9 c0) (aF (aN 2) aQ) aj C=aa (.im .none,aj,C):=oE B.bk c aP (by rw[b];rfl) (B.need e) rfl;have:jy (.str w) (.str (aO ""))=aa (.im (.bool aq)):=by rw[Ec,m7 d];rfl
   simp_arith[fZ,↓g,this,vL,m]
 have l:m6 c0 (aO "turn") 0 (yK c0) (aF (bN (.str (aO "parts"))) (aF (cV IW (aF (cZ c0 (aO "now") 0 (jw c0) (aF (bN (.str (aO "parts"))) aQ)) (aF (dX (aF (aN 1) (aF (aN 2) aQ))) aQ))) aQ)) aj C=aa (.nx,aj,pZ C p q cN (page (fB P') r)):=by
  have m:cZ c0 (aO "now") 0 (jw c0) (aF (bN (.str (aO "parts"))) aQ) aj C=aa (.im (fB P),aj,C):=oE B.bk c aP rfl B.afm rfl;have f:=anh (C:=C) h1 h2;have e1:aN 1 aj C=aa (.im (.str a),aj,C):=by rw[b];rfl
  have e2:aN 2 aj C=aa (.im (.str w),aj,C):=by rw[b];rfl
  have i:jf (a,w)=.tuple [.str a,.str w]:=rfl;rw[i] at f;refine Ay B.bk c aP (xs:=[.im (.str uX),.im (fB P')]) ?_ (B.turn (x:=.dat (fB P')) ?_ (aqy _ _ _))
  .simp_arith[m,↓e1,↓e2,f]
  .exact bG (N5 (λ_=>rfl) P')
 unfold Ui;simp only[bV,s1,j,l,pI]
theorem ac9(aL:List Pr):strsOf ((aL.map jC).map (·.1))=aa (aL.map (·.nm)):=by
 have:=Mj (aL.map (·.nm));rw[eZ] at this⊢;exact this
theorem DN(aL:List Pr):(cj fL ((aL.map jC).map λp=>(p.1,j4))).isSome=aq:=by
 rw[Vb (ns:=aL.map (·.nm)) (by rw[eZ];exact ac9 aL)];rfl
theorem lk_row:∀{aL:List Pr},(aL.map (·.nm)).Nodup->∀{o:Pr},o∈aL->Gd (.inr o.nm) (aL.map jC)=aa (.dat (oK o))
 |a::aL,nd,o,h=>by
  rw[cM,mU] at nd;rw[cM];unfold Gd;rw[show fL (jC a).1=aa (.inr a.nm) from rfl];rcases cC.mp h with e|h
  .rw[e,bG rfl];rfl
  .rw[bK λz=>nd.1 (by rw[LR (lY z)];exact eO.mpr #[o,h,rfl])];exact lk_row nd.2 h
theorem Xm(aL:List Pr)(z:Str):Qo z (aL.map jC)=decide (z∈aL.map (·.nm)):=by
 unfold Qo;induction aL with
 |nil=>rfl
 |cons a aL ih=>
  rw[cM,yt,ih,cM];by_cases c:a.nm=z
  .rw[gq (show fL (jC a).1=aa (.inr z) from congrArg (λx=>aa (ju x)) c),gq (show z∈a.nm::aL.map (·.nm) from cC.mpr (.inl c.symm))];rfl
  .rw[m7 (λe:fL (jC a).1=aa (.inr z)=>c (LR (lY e))),Bool.false_or];exact decide_eq_decide.mpr #[λh=>dI _ h,λh=>(cC.mp h).resolve_left λe=>c e.symm]
theorem ao1(h:o.nm∉aL.map (·.nm)):xM o.nm (.dat (oK o)) (aL.map jC)=(aL++[o]).map jC:=by
 have:=Xm aL o.nm;rw[m7 h] at this;unfold xM;unfold Qo at this;rw[this,bK aP,jH];rfl
theorem Bk.names(B:Bk c0 C n p q r cN P aL)(h:aL.length<64):mj c0 [.ce n] C=aa (.ow (.list ((dW strLt (aL.map (·.nm))).map .str)),C):=by
 refine mC [aa (.ce n)] rfl rfl ?_ rfl rfl;have m:cZ c0 (aO "now") 0 (jw c0) (aF (bN (.str (aO "papers"))) aQ) [aa (.ce n)] C=aa (.ce r,[aa (.ce n)],C):=oE B.bk rfl aP rfl B.O4 rfl;unfold Wb eV X8;rw[m,bU];dsimp only;rw[Ax B.ro (DN aL),bU,ac9,bU,bG (by rw[bC];exact h)];rfl
def qy(o:Pr):aB:=.tuple [.str o.pt,.int o.am,.str o.ak,.str o.gt,.int o.dy]
theorem Bk.kept(B:Bk c0 C n p q r cN P aL)(b:(aL.map (·.nm)).Nodup)(h:o∈aL):Hg c0 [.ce n,.im (.str o.nm)] C=aa (.im (oK o),C):=by
 refine mC [aa (.ce n),aa (.im (.str o.nm)),ao] rfl rfl ?_ rfl rfl;have m:cZ c0 (aO "now") 0 (jw c0) (aF (bN (.str (aO "papers"))) aQ) [aa (.ce n),aa (.im (.str o.nm)),ao] C=aa (.ce r,[aa (.ce n),aa (.im (.str o.nm)),ao],C):=oE B.bk rfl aP rfl B.O4 rfl
 obtain⟨aj,a⟩:∃aj:En,aj=[aa (.ce n),aa (.im (.str o.nm)),aa (.ce r)]:=001
 have s1:dY 2 (cZ c0 (aO "now") 0 (jw c0) (aF (bN (.str (aO "papers"))) aQ)) [aa (.ce n),aa (.im (.str o.nm)),ao] C=aa (.nx,aj,C):=by
  simp_arith[m,a]
 have e1:aZ 1 aj C=aa (.str o.nm,aj,C):=by rw[a];rfl
 have e2:aN 2 aj C=aa (.ce r,aj,C):=by rw[a];rfl
 have c:fZ (Fo (aZ 1) (aN 2)) zG g8 aj C=aa (.nx,aj,C):=by
  have:Fo (aZ 1) (aN 2) aj C=aa (aH,C):=by
   unfold Fo jW zF;simp only[e1,e2,bU,Ax B.ro (DN aL),Xm,gq (eO.mpr #[o,h,rfl]),ajw]
  unfold fZ;rw[this];rfl
 have d:eV (qJ (aN 2) (aZ 1)) aj C=aa (.rt (.im (oK o)),aj,C):=by
  have:Gm (.b8 (aL.map jC)) (.str o.nm)=aa (.dat (oK o)):=by
   show(if _ then _ else _)=_
   rw[bG (DN aL)];exact lk_row b h
  unfold eV qJ;simp only[e1,e2,bU,B.ro,this];rfl
 unfold Tw;simp only[bV,s1,c,d,pI]
theorem Bk.paper(B:Bk c0 C n p q r cN P aL)(b:(aL.map (·.nm)).Nodup)(h:o∈aL):qX c0 [.ce n,.im (.str o.nm)] C=aa (.im (qy o),C):=by
 refine mC [aa (.ce n),aa (.im (.str o.nm)),ao,ao,ao] rfl rfl ?_ rfl rfl;have m:cZ c0 (aO "kept_paper") 0 (Hg c0) (aF (aN 1) aQ) [aa (.ce n),aa (.im (.str o.nm)),ao,ao,ao] C=aa (.im (oK o),[aa (.ce n),aa (.im (.str o.nm)),ao,ao,ao],C):=oE B.bk rfl aP rfl (B.kept b h) rfl;unfold oK at m;have a:dM (.tuple [.str o.pt,.int o.am,.str o.ak,.str o.gt]) (.tuple [.int o.dy])=aa (.im (qy o)):=rfl;simp_arith[Uj,m,a]
theorem Bk.app(B:Bk c0 C n p q r cN P aL)(a:vW (C.length+1) c=aq):Bk c0 (C++[c]) n p q r cN P aL:=by
 have up:∀{j:Nat}{x:Cl},C[j]?=aa x->(C++[c])[j]?=aa x:=λh=>by rw[gK (jk.mp h).1];exact h
 exact#[up B.bk,up B.pg,up B.pa,up B.ro,B.np,B.pf,B.gf,B.clo.app a]
theorem ao2(m:Nat)(aL:List Pr):vW m (.b8 (aL.map jC))=aq:=by
 refine jT.mpr λx a=>?_
 rw[eZ] at a
 obtain⟨o,_,rfl⟩:=eO.mp a
 rfl
theorem Bk.keep(B:Bk c0 C n p q r cN P aL)(h:o.nm∉aL.map (·.nm))(t:cN.length<100)(u:aL.length<100):∃C' j r',Hh c0 [.ce n,.im (.str o.nm),.im (oK o)] C=aa (.im .none,C')/\Bk c0 C' n p j r' (cN++[.cD q]) P (aL++[o])/\(∀i,i<C.length->i≠p->C'[i]?=C[i]?)/\C.length<=C'.length:=by
 have m:cZ c0 (aO "now") 0 (jw c0) (aF (bN (.str (aO "papers"))) aQ) [aa (.ce n),aa (.im (.str o.nm)),aa (.im (oK o)),ao] C=aa (.ce r,[aa (.ce n),aa (.im (.str o.nm)),aa (.im (oK o)),ao],C):=oE B.bk rfl aP rfl B.O4 rfl
 obtain⟨aj,a⟩:∃aj:En,aj=[aa (.ce n),aa (.im (.str o.nm)),aa (.im (oK o)),aa (.ce C.length)]:=001
 have s1:zb 3 (cZ c0 (aO "now") 0 (jw c0) (aF (bN (.str (aO "papers"))) aQ)) [aa (.ce n),aa (.im (.str o.nm)),aa (.im (oK o)),ao] C=aa (.nx,aj,C++[.b8 (aL.map jC)]):=by
  unfold zb;rw[m,bU];dsimp only;rw[Ax B.ro (DN aL),bU,a];rfl
 have g:Bw 3 (aZ 1) (aN 2) aj (C++[.b8 (aL.map jC)])=aa (.nx,aj,C++[.b8 ((aL++[o]).map jC)]):=by
  unfold Bw;rw[show aN 2 aj (C++[.b8 (aL.map jC)])=aa (.im (oK o),aj,C++[.b8 (aL.map jC)]) by rw[a];rfl,bU,show zP (.im (oK o))=aa (.dat (oK o)) from rfl,bU];dsimp only;rw[show aj[3]?=aa (aa (.ce C.length)) by rw[a];rfl];dsimp only;rw[show aZ 1 aj (C++[.b8 (aL.map jC)])=aa (.str o.nm,aj,C++[.b8 (aL.map jC)]) by rw[a];rfl,bU];dsimp only;rw[Ax (au:=aL.map jC) (by rw[gh (bQ _),pK];rfl) (DN aL),bU,bG (by rw[bC];show aL.length<1000000;lia),ao1 h,De _ _ (bQ _),pK];rfl
 have c:Bk c0 (C++[.b8 ((aL++[o]).map jC)]) n p q r cN P aL:=B.app (ao2 _ _);have b:(C++[Cl.b8 ((aL++[o]).map jC)])[C.length]?=aa (.b8 ((aL++[o]).map jC)):=by rw[gh (bQ _),pK];rfl
 have l:=c.turn (key:=uW) (v:=.ce C.length) (x:=.cD C.length) (P':=P) (r':=C.length) rfl (aqx _ _ _);have s:m6 c0 (aO "turn") 0 (yK c0) (aF (bN (.str (aO "papers"))) (aF (aN 3) aQ)) aj (C++[.b8 ((aL++[o]).map jC)])=aa (.nx,aj,pZ (C++[.b8 ((aL++[o]).map jC)]) p q cN (page (fB P) C.length)):=
  Ay c.bk (by rw[a];rfl) aP (by rw[a];rfl) l
 obtain⟨e,k,f⟩:=c.turned (r':=C.length) (rows':=aL++[o]) b B.pf t
 refine#[_,_,_,Jv [aa (.ce n),aa (.im (.str o.nm)),aa (.im (oK o)),ao] rfl rfl ?_,e,λi hi d=>?_,by rw[f,eG];lia]
 .unfold Tz;simp only[bV,s1,g,s,pI]
 .rw[k i (by rw[eG];lia) d,gK hi]
theorem Bk.put(B:Bk c0 C n p q r cN P aL)(h:o.nm∉aL.map (·.nm))(k:o.pt∈P.map (·.1))(t:cN.length<100)(j:aL.length<100):∃C' b r',Lz c0 [.ce n,.im (.str o.nm),.im (.str o.pt),.im (.int o.am),.im (.int o.dy),.im (.str o.ak),.im (.str o.gt)] C=aa (.im .none,C')/\Bk c0 C' n p b r' (cN++[.cD q]) P (aL++[o])/\(∀i,i<C.length->i≠p->C'[i]?=C[i]?)/\C.length<=C'.length:=by
 obtain⟨C',b,r',e,g,d,s⟩:=B.keep h t j
 refine#[C',b,r',?_,g,d,s]
 obtain⟨aj,a⟩:∃aj:En,aj=[aa (.ce n),aa (.im (.str o.nm)),aa (.im (.str o.pt)),aa (.im (.int o.am)),aa (.im (.int o.dy)),aa (.im (.str o.ak)),aa (.im (.str o.gt))]:=001
 refine Jv aj rfl a.symm ?_;have c:aj[0]?=aa (aa (.ce n)):=by rw[a];rfl
 have s1:fZ (zF (aZ 1) (cZ c0 (aO "now") 0 (jw c0) (aF (bN (.str (aO "papers"))) aQ))) zG g8 aj C=aa (.nx,aj,C):=by
  have m:cZ c0 (aO "now") 0 (jw c0) (aF (bN (.str (aO "papers"))) aQ) aj C=aa (.ce r,aj,C):=oE B.bk c aP rfl B.O4 rfl;have:zF (aZ 1) (cZ c0 (aO "now") 0 (jw c0) (aF (bN (.str (aO "papers"))) aQ)) aj C=aa (aH,C):=by
   unfold zF;rw[show aZ 1 aj C=aa (.str o.nm,aj,C) by rw[a];rfl,bU];dsimp only;rw[m,bU];dsimp only;rw[Ax B.ro (DN aL),bU,Xm,m7 h]
  unfold fZ;rw[this];rfl
 have f:vL (cZ c0 (aO "need_part") 0 (u9 c0) (aF (aN 2) aQ)) aj C=aa (.nx,aj,C):=by
  have m:cZ c0 (aO "need_part") 0 (u9 c0) (aF (aN 2) aQ) aj C=aa (.im .none,aj,C):=oE B.bk c aP (by rw[a];rfl) (B.need k) rfl;simp_arith[vL,m]
 have l:m6 c0 (aO "keep_paper") 0 (Hh c0) (aF (aN 1) (aF (dX (aF (dX (aF (aN 2) (aF (aN 3) (aF (aN 5) (aF (aN 6) aQ))))) (aF (aN 4) (aF (dX aQ) aQ)))) aQ)) aj C=aa (.nx,aj,C'):=
  Ay B.bk c aP (by rw[a];rfl) e
 unfold T7;simp only[bV,s1,f,l,pI]
theorem ao3(C:Ce):I9 c0 [.ce C.length] (C++[.obj c0 [] []])=aa (.im .none,C++[.obj c0 [sP] [.cD (C.length+3)],.b8 [],.b8 (page (fB []) (C.length+1)),.lst [.cD (C.length+2)]]):=by
 refine Jv [aa (.ce C.length)] rfl rfl ?_;have h1:(C++[.obj c0 [] []])[C.length]?=aa (.obj c0 [] []):=by rw[gh (bQ _),pK];rfl
 obtain⟨D,d⟩:∃D:Ce,D=C++[.obj c0 [] []]:=001
 have g:D.length=C.length+1:=by rw[d,eG];rfl
 rw[<-d] at h1⊢
 obtain⟨a,c⟩:∃a:vY,a=[(uX,.dat (.tuple [])),(aO "ranks",.dat (.tuple [])),(aO "leaves",.dat (.tuple [])),(aO "back",.dat (.tuple [])),(aO "rules",.dat (.tuple [])),(uW,.b8 [])]:=001
 have e:Q9 [((aO "parts"),(dX aQ)),((aO "ranks"),(dX aQ)),((aO "leaves"),(dX aQ)),((aO "back"),(dX aQ)),((aO "rules"),(dX aQ)),((aO "papers"),XQ)] [aa (.ce C.length)] D=aa (a,[aa (.ce C.length)],D):=by
  rw[c];rfl
 have b:Cd a D=([.dat (.tuple []),.dat (.tuple []),.dat (.tuple []),.dat (.tuple []),.dat (.tuple []),.cD D.length],D++[.b8 []]):=by
  rw[c];rfl
 have f:(a.map (·.1)).Nodup/\a.length<=15:=by rw[c];exact#[bz,aP]
 have h2:(D++[.b8 []])[C.length]?=aa (.obj c0 [] []):=by rw[gK aD];exact h1
 have hi:Qm c0 C.length sP a D=C++[.obj c0 [sP] [.cD (C.length+3)],.b8 [],.b8 (page (fB []) (C.length+1)),.lst [.cD (C.length+2)]]:=by
  unfold Qm;rw[b];dsimp only;rw[eG,g,d,c,iK,iK,iK,De _ _ (bQ _),pK];rfl
 unfold Xd Qn;dsimp only[KD];rw[h1,bG (by exact gq rfl),e,bU];dsimp only;rw[b];dsimp only;rw[h2,bG #[f,gq rfl]];exact congrArg (λx=>aa (Fl.nx,x)) hi
def qz(c0:az)(C:Ce):Ce:=C++[.obj c0 [sP] [.cD (C.length+3)],.b8 [],.b8 (page (fB []) (C.length+1)),.lst [.cD (C.length+2)]]
theorem ada(h:jj C):Bk c0 (qz c0 C) C.length (C.length+3) (C.length+2) (C.length+1) [] [] []:=by
 have a:∀k x,[Cl.obj c0 [sP] [.cD (C.length+3)],.b8 [],.b8 (page (fB []) (C.length+1)),.lst [.cD (C.length+2)]][k]?=aa x->(qz c0 C)[C.length+k]?=aa x:=λk x b=>by
  unfold qz;rw[gh (aaE _ _),Nat.add_sub_cancel_left];exact b
 refine#[a 0 _ rfl,a 3 _ rfl,a 2 _ rfl,a 1 _ rfl,aD,aP,aP,λj x b=>?_]
 have c:(qz c0 C).length=C.length+4:=by unfold qz;rw[eG];rfl
 rw[c];by_cases d:j<C.length
 .unfold qz at b;rw[gK d] at b;exact Nh aD (h j x b)
 .unfold qz at b;rw[gh aD] at b;have m:=jY b;simp only[cC,mQ,or_false] at m;rcases m with rfl|rfl|rfl|rfl
  .show(decide (_<_)&&aq)=aq
   rw[gq aD];rfl
  .rfl
  .show(aq&&(aq&&(aq&&(aq&&(aq&&(decide (_<_)&&aq))))))=aq
   rw[gq aD];rfl
  .show(decide (_<_)&&aq)=aq
   rw[gq aD];rfl
def part3:List (Str×Str):=[(aO "p",aO ""),(aO "pq",aO ""),(aO "q",aO "p")]
theorem arR:yJ [.tuple [jf (aO "p",aO "")]]=aa (.ow (.list ([(aO "p",aO "")].map jf))):=rfl
theorem arT:yJ [.tuple [jf (aO "p",aO ""),jf (aO "q",aO "p")]]=aa (.ow (.list ([(aO "p",aO ""),(aO "q",aO "p")].map jf))):=rfl
theorem arU:yJ [.tuple [jf (aO "p",aO ""),jf (aO "q",aO "p"),jf (aO "pq",aO "")]]=aa (.ow (.list (part3.map jf))):=rfl
section
variable{c0:az}{C:Ce}
theorem ani(h:jj C):∃(C1 C2 C3:Ce)(p q r:Nat)(cN:List Ci),sH c0 [.ce C.length,.im (.str (aO "p")),.im (.str (aO ""))] (qz c0 C)=aa (.im .none,C1)/\(∃x,C1[C.length]?=aa (.obj c0 [sP] [.cD x]))/\sH c0 [.ce C.length,.im (.str (aO "q")),.im (.str (aO "p"))] C1=aa (.im .none,C2)/\(∃x,C2[C.length]?=aa (.obj c0 [sP] [.cD x]))/\sH c0 [.ce C.length,.im (.str (aO "pq")),.im (.str (aO ""))] C2=aa (.im .none,C3)/\Bk c0 C3 C.length p q r cN part3 []/\cN.length<=3/\∀j,j<C.length->C3[j]?=C[j]?:=by
 have d:=ada (c0:=c0) h;have t:(qz c0 C).length=C.length+4:=by unfold qz;rw[eG];rfl
 have m:=d.add (a:=aO "p") (w:=aO "") aP (.inl rfl) (xs:=[jf (aO "p",aO "")]) rfl arR
 obtain⟨c,e,o⟩:=d.turned (P':=[(aO "p",aO "")]) (rows':=[]) d.ro aP aP
 have l:=c.add (a:=aO "q") (w:=aO "p") aP (.inr #[aP,aP]) (xs:=[jf (aO "p",aO ""),jf (aO "q",aO "p")]) rfl arT
 obtain⟨b,i,u⟩:=c.turned (P':=[(aO "p",aO ""),(aO "q",aO "p")]) (rows':=[]) c.ro aP (by show 1<100;decide)
 have g:=b.add (a:=aO "pq") (w:=aO "") aP (.inl rfl) (xs:=[jf (aO "p",aO ""),jf (aO "q",aO "p"),jf (aO "pq",aO "")]) rfl arU
 obtain⟨k,f,s⟩:=b.turned (P':=part3) (rows':=[]) b.ro aP (by show 2<100;decide)
 refine#[_,_,_,_,_,_,_,m,#[_,c.bk],l,#[_,b.bk],g,k,by show 3<=3;decide,λj n=>?_]
 rw[f j aD aD,i j aD aD,e j aD aD];unfold qz;rw[gK n]
abbrev mE(l:aB)(n:Nat)(a b c d e f:Option Vl):En:=[aa (.im l),aa (.ce n),a,b,c,d,e,f]
theorem ao4(h:jj C)(t:zH ps):∃(C':Ce)(p q r:Nat)(cN:List Ci),Eg c0 [.im (.list (ps.map pD))] C=aa (C.length,C')/\Bk c0 C' C.length p q r cN part3 ps/\∀j,j<C.length->C'[j]?=C[j]?:=by
 refine hide λGG X=>?_
 obtain⟨C1,C2,C3,p,q,r,cN,W,⟨x1,H⟩,T,⟨x2,S⟩,K,P,N,n⟩:=ani (c0:=c0) h
 have x:=ao3 (c0:=c0) C;have Z:(qz c0 C)[C.length]?=aa (.obj c0 [sP] [.cD (C.length+3)]):=(ada (c0:=c0) h).bk
 obtain⟨e',y,V,⟨k,l,a,⟨b,c,d,e,f,g,v⟩,G,R,u⟩⟩:=HH (g:=nD 6 (cU (bZ 2) (cU (bZ 3) (cU (bZ 4) (cU (bZ 5) (cU (bZ 6) (cU (bZ 7) mY))))))) (body:=Uy c0) (aK:=ps.map pD) (aj:=mE (.list (ps.map pD)) C.length ao ao ao ao ao ao) (C:=C3)
  (λi aj C1=>∃(k l:Nat)(a:List Ci),(∃b c d e f g,aj=mE (.list (ps.map pD)) C.length b c d e f g)/\Bk c0 C1 C.length p k l a part3 (ps.take i)/\a.length<=3+i/\∀j,j<C.length->C1[j]?=C[j]?) ⟨q,r,cN,⟨_,_,_,_,_,_,rfl⟩,P,N,n⟩ (λi d aj D F O=>by
   obtain⟨k,l,a,⟨b,c,d0,e,f,g,rfl⟩,B,R,n⟩:=O
   rw[jr] at F
   obtain⟨o,s,rfl⟩:=lW.mp F
   have hi:=(jk.mp s).1;have few:=t.few;have ok:=t.one o (jY s);have E:ps.take (i+1)=ps.take i++[o]:=by rw[aaY,s];rfl
   have w:o.nm∉(ps.take i).map (·.nm):=by
    have A:=t.nd.sublist ((aal (i+1) ps).map _);rw[E,jH,lX] at A;exact λm=>A.2.2 _ m _ cR rfl
   obtain⟨C',L,I,e1,z,M,l2⟩:=B.put (o:=o) w (by
    have:=ok.pt;unfold Gf at this;unfold part3;simp only[cC,mQ,or_false,cM,sG] at this⊢;rcases this with h|h|h
    .exact .inl h
    .exact .inr (.inr h)
    .exact .inr (.inl h)) aD (by rw[GJ];lia)
   rw[<-E] at z
   refine#[mE (.list (ps.map pD)) C.length (aa (.im (.str o.nm))) (aa (.im (.str o.pt))) (aa (.im (.int o.am))) (aa (.im (.int o.dy))) (aa (.im (.str o.ak))) (aa (.im (.str o.gt))),.nx,_,C',rfl,Ay B.bk rfl aP rfl e1,.inl rfl,L,I,_,#[_,_,_,_,_,_,rfl],z,by rw[eG];show _+1<=_;lia,λj Y=>?_]
   have:=B.np;have lt:=(jk.mp B.bk).1;rw[M j aD aD,n j Y])
 rw[bC,aiZ] at G;subst v;refine X #[y,p,k,l,a,?_,G,u];have m:Fj c0 1 (I9 c0) (([Vl.im (.list (ps.map pD))].map aa++cH (8-[Vl.im (.list (ps.map pD))].length) ao)) C=aa (.nx,mE (.list (ps.map pD)) C.length ao ao ao ao ao ao,qz c0 C):=by
  unfold Fj;rw[x,bU];rfl
 have s1:m6 c0 (aO "add_part") 1 (sH c0) (aF (bN (.str (aO "p"))) (aF (bN (.str (aO ""))) aQ)) (mE (.list (ps.map pD)) C.length ao ao ao ao ao ao) (qz c0 C)=aa (.nx,mE (.list (ps.map pD)) C.length ao ao ao ao ao ao,C1):=Ay Z rfl aP rfl W;have J:m6 c0 (aO "add_part") 1 (sH c0) (aF (bN (.str (aO "q"))) (aF (bN (.str (aO "p"))) aQ)) (mE (.list (ps.map pD)) C.length ao ao ao ao ao ao) C1=aa (.nx,mE (.list (ps.map pD)) C.length ao ao ao ao ao ao,C2):=Ay H rfl aP rfl T;have U:m6 c0 (aO "add_part") 1 (sH c0) (aF (bN (.str (aO "pq"))) (aF (bN (.str (aO ""))) aQ)) (mE (.list (ps.map pD)) C.length ao ao ao ao ao ao) C2=aa (.nx,mE (.list (ps.map pD)) C.length ao ao ao ao ao ao,C3):=Ay S rfl aP rfl K;have Q:iD (ql (aN 0)) (nD 6 (cU (bZ 2) (cU (bZ 3) (cU (bZ 4) (cU (bZ 5) (cU (bZ 6) (cU (bZ 7) mY))))))) (Uy c0) (mE (.list (ps.map pD)) C.length ao ao ao ao ao ao) C3=aa (.nx,mE (.list (ps.map pD)) C.length b c d e f g,y):=(uv (XX rfl rfl rfl)).trans V;unfold Eg CQ Xg;rw[bG (show[Vl.im (.list (ps.map pD))].length=1 from rfl)];simp only[bV,m,s1,J,U,Q];rfl
end
theorem Fv(h:iH n z):iI z=aq:=by
 unfold iI;rw[Array.all_eq_true'];intro c a;have:=h.1 c 002
 grind
theorem Vp:∀xs:List Str,qG (xs.map fP)=aq
 |[]=>rfl
 |x::xs=>by
  show(aq&&qG _)=aq
  rw[Vp xs];rfl
theorem adb:∀xs ys:List Str,ajC (xs.map .str) (ys.map .str)=decide (xs=ys)
 |[],[]=>rfl
 |[],_::_=>rfl
 |_::_,[]=>rfl
 |x::xs,y::ys=>by
  show((x==y)&&ajC (xs.map .str) (ys.map .str))=_
  rw[adb xs ys,wC];simp
theorem YS{xs ys:009}(a:∀z∈xs,iI z=aq)(c:∀z∈ys,iI z=aq):jy (.list (xs.map .str)) (.list (ys.map .str))=aa (.im (.bool (decide (xs≠ys)))):=by
 show(if jX (.list (xs.map fP))&&jX (.list (ys.map fP))&&(jZ (.list (xs.map fP))&&jZ (.list (ys.map fP))) then aa (Ds (.list (xs.map fP)) (.list (ys.map fP))) else ao).map (λb=>Vl.im (.bool (!b)))=_
 rw[show jX (.list (xs.map fP))=aq from Vp xs,show jX (.list (ys.map fP))=aq from Vp ys,abo a,abo c];show aa (Vl.im (.bool (!PyData.eqvAll (xs.map .str) (ys.map .str))))=_;rw[adb,decide_not]
theorem Ul:∀bs:List Bool,boolsOf (bs.map .bool)=aa bs
 |[]=>rfl
 |b::bs=>by
  rw[cM];unfold boolsOf;rw[Ul bs]
theorem O5(bs:List Bool):uB [.list (bs.map .bool)]=aa (.im (.bool (bs.all id))):=by
 show(boolsOf _).map _=_
 rw[Ul];rfl
theorem aqB(bs:List Bool):JP [.list (bs.map .bool)]=aa (.im (.bool (bs.any id))):=by
 unfold JP;simp only[Ul];rfl
theorem afn(l:List Int):Fe [.list (l.map .int)]=aa (.im (.int l.sum)):=by
 show(intsOf _).map _=_
 rw[Uw];rfl
theorem Dt:∀bs:List Bool,iW (bs.map PyData.bool)=aq
 |[]=>rfl
 |b::bs=>by
  show(aq&&iW _)=aq
  rw[Dt bs];rfl
def gA(o:Pr):aB:=.tuple [.str o.nm,.int o.am,.int o.dy]
def pairD(o:Pr):aB:=.tuple [.str o.nm,.int o.am]
theorem ach(l:List Pr):iW (l.map pairD)=aq:=N5 (λ_=>rfl) l
section
variable{g:List Pr}
theorem alG:gQ (.many 3) Sy aau [aa (08 d),aa (08 ds)] (g.map gA) C=aa ((g.filter (qF ds d)).map pairD,C):=
 Ah gA (qF ds d) pairD λo _=>by
  refine#[[.str o.nm,.int o.am,.int o.dy],rfl,?_,λ_=>#[.im (pairD o),[aa (.im (.str o.nm)),aa (.im (.int o.am)),aa (.im (.int o.dy)),aa (08 d),aa (08 ds)],rfl,rfl]]
  unfold Sy qF eU xT;cases h:decide (d<=o.dy) with
  |true=>simp_arith[cW,j9,kh,h]
  |false=>simp_arith[cW,j9,kh,h]
theorem ao5(l:List Pr):gQ (.many 2) dh aat [] (l.map pairD) C=aa ((l.map (·.am)).map .int,C):=by
 rw[eZ];exact qZ pairD _ λo _=>#[[.str o.nm,.int o.am],rfl,rfl,.im (.int o.am),_,rfl,rfl]
theorem ao6(l:List Pr):gQ (.many 2) dh aas [] (l.map pairD) C=aa ((l.map (·.nm)).map .str,C):=by
 rw[eZ];exact qZ pairD _ λo _=>#[[.str o.nm,.int o.am],rfl,rfl,.im (.str o.nm),_,rfl,rfl]
theorem alH(h:g.length<=100):Lq [.im (.list (g.map gA)),.im (.int bd),.im (.int d),.im (.int ds)] C=aa (.ow (.list ((win bd ds g d).map .str)),C):=by
 refine mC [aa (.im (.list (g.map gA))),aa (08 bd),aa (08 d),aa (08 ds),ao] rfl rfl ?_ rfl rfl;have e:=alG (C:=C) (d:=d) (ds:=ds) (g:=g);have a:=eq_true (show(g.filter (qF ds d)).length<=1000000 by have:=sy (qF ds d) g;lia);have b:=ao5 (C:=C) (g.filter (qF ds d));have f:=ao6 (C:=C) (g.filter (qF ds d));have o:=afn ((g.filter (qF ds d)).map (·.am));unfold win lg;by_cases c:((g.filter (qF ds d)).map (·.am)).sum<bd
 .rw[bG c];simp_arith[Lp,e,a,ach,↓b,o,c]
 .rw[bK c];simp_arith[Lp,e,a,ach,↓b,o,c,f]
theorem aqC{L o:009}:gQ .one dh Z8 [aa (.im (.list (o.map .str)))] (L.map .str) C=aa ((L.map λx=>decide (x∈o)).map .bool,C):=by
 rw[eZ];refine qZ fP _ λx _=>#[[.str x],rfl,rfl,.im (.bool (decide (x∈o))),[aa (.im (.str x)),aa (.im (.list (o.map .str)))],?_,rfl]
 simp_arith[cW,j9,kh,yI]
theorem anj{ls:List (List Str)}(d:∀z∈L,iI z=aq)(h:∀o∈ls,∀z∈o,iI z=aq)(h1:L.length<=100):gQ .one dh R0 [aa (.im (.list (L.map .str)))] (ls.map sD) C=aa ((ls.map λo=>decide (o≠L)&&L.all λx=>decide (x∈o)).map .bool,C):=by
 rw[eZ];refine qZ sD _ λo f=>#[[sD o],rfl,rfl,.im (.bool (decide (o≠L)&&L.all λx=>decide (x∈o))),[aa (.im (sD o)),aa (.im (.list (L.map .str)))],?_,rfl]
 have n:=YS (h o f) d;have a:=aqC (C:=C) (L:=L) (o:=o);have b:=O5 (L.map λx=>decide (x∈o));have g:=eq_true (show L.length<=1000000 by lia);have e:(L.map λx=>decide (x∈o)).all id=L.all λx=>decide (x∈o):=by rw[aa9];rfl
 rw[e] at b;unfold R0 Pg sD;cases c:decide (o≠L) with
 |true=>
  rw[c] at n;simp_arith[cW,j9,kh,n,a,b,g,Dt]
 |false=>
  rw[c] at n;simp_arith[cW,j9,kh,n]
theorem akF(c:∀z∈L,iI z=aq)(f:∀o∈ls,∀z∈o,iI z=aq)(h1:L.length<=100)(h2:ls.length<=100):KQ [.im (.list (L.map .str)),.im (.list (ls.map sD))] C=aa (.im (.bool (another L ls)),C):=by
 refine mC [aa (.im (.list (L.map .str))),aa (.im (.list (ls.map sD)))] rfl rfl ?_ rfl rfl;have a:=anj (C:=C) c f h1;have b:=aqB (ls.map λo=>decide (o≠L)&&L.all λx=>decide (x∈o));have e:(ls.map λo=>decide (o≠L)&&L.all λx=>decide (x∈o)).any id=another L ls:=by rw[ajO];rfl
 rw[e] at b;have d:=eq_true (show ls.length<=1000000 by lia);simp_arith[R6,a,b,d,Dt]
def uw(g:List Pr):aB:=.list (g.map gA)
theorem ao7:gQ (.many 3) dh K1 [] (g.map gA) C=aa ((g.map (·.dy)).map .int,C):=by
 rw[eZ];exact qZ gA _ λo _=>#[[.str o.nm,.int o.am,.int o.dy],rfl,rfl,.im (.int o.dy),_,rfl,rfl]
theorem alI(l:List Int)(h:l.length<64):M7 (l.map .int)=aa ((dW ltI (dedup l)).map .int):=by
 unfold M7;rw[bG (by rw[bC];exact h),Uw];rfl
theorem ank(a:g.length<=100)(l:List Int):gQ .one dh Sd [aa (.im (.list (g.map gA))),aa (08 bd),aa (08 ds)] (l.map .int) C=aa ((l.map (win bd ds g)).map sD,C):=by
 rw[eZ];refine qZ Hz _ λd _=>#[[.int d],rfl,rfl,.ow (sD (win bd ds g d)),[aa (08 d),aa (.im (.list (g.map gA))),aa (08 bd),aa (08 ds)],?_,rfl]
 have w:=alH (C:=C) (bd:=bd) (ds:=ds) (d:=d) a;simp_arith[cW,j9,kh,w];rfl
theorem aqD(c:∀o∈g,iH 17 o.nm)(d:Int):(∀z∈win bd ds g d,iI z=aq)/\(win bd ds g d).length<=g.length:=by
 unfold win;split
 .exact#[(λ_ m=>nomatch m),jJ _]
 .refine#[λz a=>?_,by rw[bC];exact sy _ _]
  obtain⟨o,b,rfl⟩:=eO.mp a
  exact Fv (c o (mR.mp b).1)
theorem alJ(f:∀o∈g,iH 17 o.nm)(i:g.length<=50){ls:List (List Str)}(c:∀L∈ls,∃d,L=win bd ds g d)(h2:ls.length<=100):gQ .one Gx R9 [aa (.im (.list (ls.map sD)))] (ls.map sD) C=aa ((ls.filter λL=>decide (L≠[])&&!another L ls).map sD,C):=by
 have ok:∀L∈ls,(∀z∈L,iI z=aq)/\L.length<=g.length:=λL b=>by
  obtain⟨d,rfl⟩:=c L b
  exact aqD f d
 refine Ah sD (λL=>decide (L≠[])&&!another L ls) sD λL b=>#[[sD L],rfl,?_,λ_=>#[.im (sD L),[aa (.im (sD L)),aa (.im (.list (ls.map sD)))],rfl,rfl]]
 have a:=akF (C:=C) (ok L b).1 (λo e=>(ok o e).1) (by have:=(ok L b).2;lia) h2;generalize ls.map sD=h at a⊢;unfold sD;cases L with
 |nil=>simp_arith[cW,j9,kh,aiV,Gx,ne_eq,not_true_eq_false]
 |cons z L=>
  rw[cM] at a;simp_arith[cW,j9,kh,List.isEmpty_cons,Gx,a,ne_eq,not_false_eq_true]
theorem akG(k:∀o∈g,iH 17 o.nm)(i:g.length<=50):Le [.im (uw g),.im (.int bd),.im (.int ds)] C=aa (.ow (.list ((longest bd ds g).map sD)),C):=by
 have l:(jn g).length<=50:=by
  unfold jn;rw[(pM _).length_eq];have:=U6 (g.map (·.dy));rw[bC] at this;lia
 have p:=alJ (C:=C) (bd:=bd) (ds:=ds) k i (ls:=(jn g).map (win bd ds g)) (λL h=>(let ⟨d,_,e⟩:=eO.mp h;#[d,e.symm])) (by rw[bC];lia);have w:=ank (C:=C) (bd:=bd) (ds:=ds) (g:=g) aD (jn g);have d:=ao7 (C:=C) (g:=g);have s:=alI (g.map (·.dy)) (by rw[bC];lia);refine mC [aa (.im (.list (g.map gA))),aa (08 bd),aa (08 ds),ao,ao] rfl rfl ?_ rfl rfl
 obtain⟨e1,h1⟩:∃e1:En,e1=[aa (.im (.list (g.map gA))),aa (08 bd),aa (08 ds),aa (.ow (.list ((jn g).map .int))),ao]:=001
 obtain⟨e2,h2⟩:∃e2:En,e2=[aa (.im (.list (g.map gA))),aa (08 bd),aa (08 ds),aa (.ow (.list ((jn g).map .int))),aa (.ow (.list (((jn g).map (win bd ds g)).map sD)))]:=001
 have s1:dY 3 (Ge (qj (aZ 0)) (.many 3) dh K1 []) [aa (.im (.list (g.map gA))),aa (.im (.int bd)),aa (.im (.int ds)),ao,ao] C=aa (.nx,e1,C):=by
  have:Ge (qj (aZ 0)) (.many 3) dh K1 [] [aa (.im (.list (g.map gA))),aa (.im (.int bd)),aa (.im (.int ds)),ao,ao] C=aa (.ow (.list ((jn g).map .int)),[aa (.im (.list (g.map gA))),aa (08 bd),aa (08 ds),ao,ao],C):=by
   unfold Ge;rw[ap2 (aK:=g.map gA) rfl rfl,bU];dsimp only;rw[show frB [] [aa (Vl.im (.list (g.map gA))),aa (08 bd),aa (08 ds),ao,ao]=[] from rfl,d,bU];dsimp only;rw[s];rfl
  unfold dY;rw[this,h1];rfl
 have f:dY 4 (eF (iB (aZ 3)) .one dh Sd [0,1,2]) e1 C=aa (.nx,e2,C):=by
  have c:=eq_true (show(jn g).length<=1000000 by lia);rw[h1,h2];have fz:jE [0,1,2] [aa (Vl.im (.list (g.map gA))),aa (.im (.int bd)),aa (.im (.int ds)),aa (.ow (.list ((jn g).map .int))),ao]=[aa (Vl.im (.list (g.map gA))),aa (08 bd),aa (08 ds),aa (.ow (.list ((jn g).map .int))),ao]:=rfl;simp_arith[w,c,fz]
 obtain⟨a,j⟩:∃a,eV (eF (iB (aZ 4)) .one Gx R9 [4]) e2 C=aa (.rt (.ow (.list ((longest bd ds g).map sD))),a,C):=by
  have b:=eq_true (show(((jn g).map (win bd ds g)).filter λL=>decide (L≠[])&&!another L ((jn g).map (win bd ds g))).length<=1000000 by
   have:=sy (λL=>decide (L≠[])&&!another L ((jn g).map (win bd ds g))) ((jn g).map (win bd ds g));rw[bC] at this;lia)
  rw[h2];unfold longest;generalize hls:(jn g).map (win bd ds g)=ls at p b⊢
  refine#[if iW ((ls.filter λL=>decide (L≠[])&&!another L ls).map sD)=aq then[aa (Vl.im (.list (g.map gA))),aa (08 bd),aa (08 ds),aa (.ow (.list ((jn g).map .int))),aa (.ow (.list (ls.map sD)))] else jE [4] [aa (Vl.im (.list (g.map gA))),aa (08 bd),aa (08 ds),aa (.ow (.list ((jn g).map .int))),aa (.ow (.list (ls.map sD)))],?_]
  simp_arith[p,b]
 unfold Te;simp only[bV,s1,f,j,pI]
end
abbrev Gk:=Str×Str
def kD(k:Gk):aB:=.tuple [.str k.1,.str k.2]
def kT(k:Gk):TK:=([.inr k.1,.inr k.2],ao)
def gk:Nat->List Gk->List (aB×Ci)
 |_,[]=>[]
 |m,k::r=>(kD k,.cD m)::gk (m+1) r
def yf(bd:Int)(l:List Pr)(ks:List Gk):List Cl:=ks.map λk=>.lst ((grp bd l k).map λo=>.dat (gA o))
def gb(C:Ce)(bd:Int)(l:List Pr)(ks:List Gk):Ce:=C++(Cl.b8 (gk (C.length+1) ks)::yf bd l ks)
theorem afo(h:kT k=kT k'):k=k':=by
 unfold kT at h;injection h with h _
 injection h with h1 h
 injection h with h2 _
 injection h1 with h1
 injection h2 with h2
 exact Prod.ext h1 h2
theorem Xn(k:Gk):iJ (kD k)=aa (kT k):=rfl
theorem O6:∀(ks:List Gk)(m:Nat),(gk m ks).length=ks.length
 |[],_=>rfl
 |k::ks,m=>by
  show(gk (m+1) ks).length+1=ks.length+1
  rw[O6 ks]
theorem aem:∀(ks:List Gk)(m:Nat),cj iJ ((gk m ks).map λp=>(p.1,j4))=aa (ks.map kT)
 |[],_=>rfl
 |k::ks,m=>by
  show cj iJ ((kD k,j4)::(gk (m+1) ks).map λp=>(p.1,j4))=_;unfold cj;rw[show iJ (kD k,j4).1=aa (kT k) from rfl,aem ks];rfl
theorem afp:∀(ks:List Gk)(m:Nat)(k:Gk),gk m (ks++[k])=gk m ks++[(kD k,.cD (m+ks.length))]
 |[],m,k=>rfl
 |a::ks,m,k=>by
  show(kD a,Ci.cD m)::gk (m+1) (ks++[k])=(kD a,Ci.cD m)::(gk (m+1) ks++[(kD k,.cD (m+(ks.length+1)))])
  rw[afp ks,show m+1+ks.length=m+(ks.length+1) by lia]
theorem af2:∀{ks:List Gk}{k:Gk}(m:Nat),k∈ks->∃i,ks[i]?=aa k/\rZ iJ (kT k) (gk m ks)=aa (.cD (m+i))
 |a::ks,k,m,h=>by
  unfold gk rZ;by_cases c:a=k
  .rw[bG (by rw[<-c];exact Xn a)]
   exact#[0,by rw[c];rfl,rfl]
  .rw[bK λz:iJ (kD a,Ci.cD m).1=aa (kT k)=>c (afo (lY z))]
   obtain⟨i,h1,h2⟩:=af2 (m+1) ((cC.mp h).resolve_left λe=>c e.symm)
   exact#[i+1,h1,by rw[h2,show m+1+i=m+(i+1) by lia]]
theorem afq:∀{ks:List Gk}{k:Gk}(m:Nat),k∉ks->rZ iJ (kT k) (gk m ks)=ao
 |[],_,_,_=>rfl
 |a::ks,k,m,h=>by
  unfold gk rZ;rw[bK λz:iJ (kD a,Ci.cD m).1=aa (kT k)=>h (by rw[<-afo (lY z)];exact cR)];exact afq (m+1) λz=>h (dI _ z)
section
variable{C:Ce}{ks:List Gk}{o:Pr}
theorem Jb:(gb C bd l ks).length=C.length+1+ks.length:=by
 unfold gb yf;rw[eG,iM,bC];lia
theorem afr(h:i<C.length):(gb C bd l ks)[i]?=C[i]?:=by
 unfold gb;rw[gK h]
theorem ao8:(gb C bd l ks)[C.length]?=aa (.b8 (gk (C.length+1) ks)):=by
 unfold gb;rw[gh (bQ _),pK];rfl
theorem Yk{k:Gk}(h:ks[i]?=aa k):(gb C bd l ks)[C.length+1+i]?=aa (.lst ((grp bd l k).map λo=>.dat (gA o))):=by
 unfold gb yf;rw[gh aD,show C.length+1+i-C.length=i+1 by lia,KC,jr,h];rfl
theorem Jc:vR (gb C bd l ks)[C.length]?=aa (gk (C.length+1) ks):=by
 rw[ao8]
 show(if _ then _ else _)=_
 rw[aem];rfl
theorem Jd(k:Gk):grp bd (l++[o]) k=if sr bd k o=aq then grp bd l k++[o] else grp bd l k:=by
 unfold grp;rw[List.filter_append,SQ];split
 .rfl
 .exact jt _
theorem N6(h:o.am<bd){k:Gk}:sr bd k o=aq↔k=(o.ak,o.pt):=by
 rw[um]
 exact#[λc=>c.2.symm,λc=>#[h,c.symm]]
theorem aqE(h:¬o.am<bd):gb C bd (l++[o]) ks=gb C bd l ks:=by
 unfold gb yf;congr 2;refine yg λk _=>?_
 rw[Jd,bK λz=>h (um.mp z).1]
theorem ao9(h:o.am<bd)(b:ks.Nodup){i:Nat}(hi:ks[i]?=aa (o.ak,o.pt)):Am (gb C bd l ks) (C.length+1+i) (.lst (((grp bd l (o.ak,o.pt)).map λo=>.dat (gA o))++[.dat (gA o)]))=gb C bd (l++[o]) ks:=by
 have a:=(jk.mp hi).1;unfold gb;rw[De _ _ aD,show C.length+1+i-C.length=i+1 by lia,aah];congr 2;unfold yf;refine Sx λj=>?_
 rw[aaq,bC,jr,jr];by_cases c:i=j
 .subst c;rw[bG rfl,bG a,hi];show aa _=aa (Cl.lst ((grp bd (l++[o]) (o.ak,o.pt)).map λo=>Ci.dat (gA o)));rw[Jd,bG ((N6 h).mpr rfl),jH];rfl
 .rw[bK c];cases hj:ks[j]? with
  |none=>rfl
  |some k=>
   show aa _=aa (Cl.lst ((grp bd (l++[o]) k).map λo=>Ci.dat (gA o)));rw[Jd,bK λz=>c ?_];have e:=(N6 h).mp z;subst e
   exact(List.getElem?_inj a b).mp (hi.trans hj.symm)
theorem anl(h:(o.ak,o.pt)∉ks)(b:∀p∈l,p.am<bd->(p.ak,p.pt)∈ks):grp bd l (o.ak,o.pt)=[]:=by
 unfold grp;refine List.filter_eq_nil_iff.mpr λp a c=>h ?_
 have:=um.mp c;rw[<-this.2];exact b p a this.1
theorem apa(h:o.am<bd)(a:(o.ak,o.pt)∉ks)(c:∀p∈l,p.am<bd->(p.ak,p.pt)∈ks):Am (Am (gb C bd l ks++[.lst []]) C.length (.b8 (gk (C.length+1) ks++[(kD (o.ak,o.pt),.cD (gb C bd l ks).length)]))) (gb C bd l ks).length (.lst ([]++[.dat (gA o)]))=gb C bd (l++[o]) (ks++[(o.ak,o.pt)]):=by
 rw[Jb];unfold gb;rw[iK,De _ _ (bQ _),pK,De _ _ aD,show C.length+1+ks.length-C.length=ks.length+1 by lia,j9,air,aah,afp];congr 2;have b:(yf bd l ks).length=ks.length:=by unfold yf;rw[bC]
 rw[<-b,De _ _ (bQ _),pK];unfold yf;rw[jH];congr 1
 .refine yg λk m=>?_
  rw[Jd,bK λz=>a (by rw[<-(N6 h).mp z];exact m)]
 .show[Cl.lst _]=[Cl.lst ((grp bd (l++[o]) (o.ak,o.pt)).map λo=>Ci.dat (gA o))]
  rw[Jd,bG ((N6 h).mpr rfl),anl a c];rfl
theorem apb(h:jj C):jj (gb C bd l ks):=λi c hi=>by
 rw[Jb];by_cases b:i<C.length
 .rw[afr b] at hi;exact Nh aD (h i c hi)
 .unfold gb at hi;rw[gh aD] at hi;rcases cC.mp (jY hi) with rfl|m
  .have:∀(ks:List Gk)(m:Nat),((gk m ks).map (·.2)).all (tU (m+ks.length))=aq:=λks=>by
    induction ks with
    |nil=>exact λ_=>rfl
    |cons k ks ih=>
     intro m
     show(decide (m<m+(ks.length+1))&&((gk (m+1) ks).map (·.2)).all (tU (m+(ks.length+1))))=aq
     rw[gq aD,show m+(ks.length+1)=m+1+ks.length by lia,ih];rfl
   exact this ks _
  .unfold yf at m
   obtain⟨k,_,rfl⟩:=eO.mp m
   refine jT.mpr λx a=>?_
   obtain⟨o,_,rfl⟩:=eO.mp a
   rfl
theorem aen:∀{ks:List Gk}{m:Nat},(∀i k,ks[i]?=aa k->look (m+i)=aa (G k))->rM look ((gk m ks).map (·.2))=aa (ks.map G)
 |[],_,_=>rfl
 |k::ks,m,h=>by
  show(look m).bind (λd=>(rM look ((gk (m+1) ks).map (·.2))).bind λds=>aa (d::ds))=_
  rw[show look m=aa (G k) from h 0 k rfl,aen (G:=G) λi k hi=>by rw[show m+1+i=m+(i+1) by lia];exact h (i+1) k hi];rfl
theorem Wh:∀ds:List aB,rM look (ds.map .dat)=aa ds
 |[]=>rfl
 |d::ds=>by
  show(aa d).bind (λd=>(rM look (ds.map .dat)).bind λds=>aa (d::ds))=_
  rw[Wh ds];rfl
theorem anm:oJ (gb C bd l ks++[.lst ((gk (C.length+1) ks).map (·.2))]) C.length 4 (gb C bd l ks).length=aa (.list (ks.map λk=>uw (grp bd l k))):=by
 unfold oJ;rw[bG (by rw[Jb];lia),gh (bQ _),pK]
 show(rM _ _).map _=_
 rw[aen (G:=λk=>uw (grp bd l k)) λi k hi=>?_]
 .rfl
 .unfold oJ;have:=(jk.mp hi).1;rw[bG aD,gK (by rw[Jb];lia),Yk hi]
  show(rM _ _).map _=_
  rw[show((grp bd l k).map λo=>Ci.dat (gA o))=((grp bd l k).map gA).map .dat by rw[eZ];rfl,Wh];rfl
end
theorem Bk.ext(B:Bk c0 C n p q r cN P aL)(h:∀i,i<C.length->D[i]?=C[i]?)(a:jj D):Bk c0 D n p q r cN P aL:=by
 have up:∀{j:Nat}{x:Cl},C[j]?=aa x->D[j]?=aa x:=λe=>by rw[h _ (jk.mp e).1];exact e
 exact#[up B.bk,up B.pg,up B.pa,up B.ro,B.np,B.pf,B.gf,a]
theorem aqF(t:aj[i]?=aa (aa (.ce C.length)))(h1:∀D,fk aj D=aa (kD (o.ak,o.pt),aj,D))(h2:∀D,fe aj D=aa (.im (gA o),aj,D))(h:o.am<bd)(q:ks.Nodup)(k:∀p∈l,p.am<bd->(p.ak,p.pt)∈ks)(w:ks.length<=100)(x:l.length<=100):
  ∃f,Cg i fk fe aj (gb C bd l ks)=aa (.nx,aj,gb C bd (l++[o]) f)/\f.Nodup/\(∀p∈l++[o],p.am<bd->(p.ak,p.pt)∈f)/\f.length<=ks.length+1:=by
 have no:fU (gA o)=aq:=rfl;have s:∀(m:Nat)(D:Ce)(xs:List Ci),D[m]?=aa (.lst xs)->xs.length<=100->J1 m fe aj D=aa (.nx,aj,D.set m (.lst (xs++[.dat (gA o)]))):=λm D xs u r=>by
  unfold J1;rw[h2,bU];dsimp only;rw[show zP (.im (gA o))=aa (.dat (gA o)) from rfl,bU,u,show kW (aa (.lst xs))=aa xs from rfl,bU,bG (by show _<1000000;lia)]
 by_cases c:(o.ak,o.pt)∈ks
 .obtain⟨j,n,r⟩:=af2 (C.length+1) c
  refine#[ks,?_,q,λp d g=>?_,ud _]
  .unfold Cg;rw[t];dsimp only;rw[Jc,bU,h1,bU];dsimp only;rw[Jc,bU,Xn,bU,bG (by rw[O6];show _<1000000;lia),r];dsimp only;rw[Yk n,show kW (aa (.lst ((grp bd l (o.ak,o.pt)).map λo=>Ci.dat (gA o))))=aa _ from rfl,bU,s _ _ _ (Yk n) (by rw[bC];have:(grp bd l (o.ak,o.pt)).length<=l.length:=sy _ _;lia),ao9 h q n]
  .rcases dU.mp d with d|d
   .exact k p d g
   .rw[gB.mp d];exact c
 .refine#[ks++[(o.ak,o.pt)],?_,?_,λp d g=>?_,by rw[eG];exact bQ _]
  .unfold Cg;rw[t];dsimp only;rw[Jc,bU,h1,bU];dsimp only;rw[Jc,bU,Xn,bU,bG (by rw[O6];show _<1000000;lia),afq _ c];dsimp only;rw[s _ _ [] (by rw[qT (by rw[Jb];lia),gh (bQ _),pK];rfl) (jJ _),apa h c k]
  .rw[lX]
   exact#[q,bH,λa g b v e=>c (by rw[<-gB.mp v,<-e];exact g)]
  .rcases dU.mp d with d|d
   .exact jG _ (k p d g)
   .rw[gB.mp d];exact fJ _ cR
abbrev aE(n:Nat)(bd:Int)(L:Nat)(v3 v4 v5 v6 v7 v8:Option Vl):En:=[aa (.ce n),aa (.im (.int bd)),aa (.ce L),v3,v4,v5,v6,v7,v8]
theorem akH(k:D=gb C bd l ks)(B:Bk c0 D n p q r cN part3 ps)(j:(ps.map (·.nm)).Nodup)(w:o∈ps)(t:ks.Nodup)(s:∀p∈l,p.am<bd->(p.ak,p.pt)∈ks)(u:ks.length<=100)(A:l.length<=100):
  ∃f x v E z y,Dg c0 (aE n bd C.length (aa (.im (.str o.nm))) v4 v5 v6 v7 v8) D=aa (.nx,aE n bd C.length (aa (.im (.str o.nm))) x v E z y,gb C bd (l++[o]) f)/\f.Nodup/\(∀p∈l++[o],p.am<bd->(p.ak,p.pt)∈f)/\f.length<=ks.length+1:=by
 obtain⟨e1,h1⟩:∃e1:En,e1=aE n bd C.length (aa (.im (.str o.nm))) (aa (.im (.str o.pt))) (aa (.im (.int o.am))) (aa (.im (.str o.ak))) (aa (.im (.str o.gt))) (aa (.im (.int o.dy))):=001
 have m:cZ c0 (aO "paper_of") 0 (qX c0) (aF (aN 3) aQ) (aE n bd C.length (aa (.im (.str o.nm))) v4 v5 v6 v7 v8) D=aa (.im (qy o),aE n bd C.length (aa (.im (.str o.nm))) v4 v5 v6 v7 v8,D):=oE B.bk rfl aP rfl (B.paper j w) rfl;have s1:vM (cZ c0 (aO "paper_of") 0 (qX c0) (aF (aN 3) aQ)) (nD 5 (cU (bZ 4) (cU (bZ 5) (cU (bZ 6) (cU (bZ 7) (cU (bZ 8) mY)))))) (aE n bd C.length (aa (.im (.str o.nm))) v4 v5 v6 v7 v8) D=aa (.nx,e1,D):=by
  unfold vM;rw[m,h1];rfl
 have F:eU (bA tL (aZ 5) (aZ 1)) e1 D=aa (decide (o.am<bd),D):=by
  rw[h1];simp_arith[]
 have run:Dg c0 (aE n bd C.length (aa (.im (.str o.nm))) v4 v5 v6 v7 v8) D=if decide (o.am<bd)=aq then Cg 2 (aX (dX (aF (aN 6) (aF (aN 4) aQ)))) (dX (aF (aN 3) (aF (aN 5) (aF (aN 8) aQ)))) e1 D else aa (.nx,e1,D):=by
  unfold Dg;simp only[bV,s1];rw[Ga,F];rfl
 rw[run];by_cases c:o.am<bd
 .obtain⟨f,a,b,d,e⟩:=aqF (C:=C) (aj:=e1) (i:=2) (o:=o) (fk:=aX (dX (aF (aN 6) (aF (aN 4) aQ)))) (fe:=dX (aF (aN 3) (aF (aN 5) (aF (aN 8) aQ)))) (by rw[h1];rfl) (λD=>by rw[h1];rfl) (λD=>by rw[h1];rfl) c t s u A
  rw[bG (gq c),k,a]
  exact#[f,_,_,_,_,_,by rw[h1],b,d,e]
 .rw[bK (by rw[m7 c];decide),k,<-aqE (o:=o) c]
  refine#[ks,_,_,_,_,_,by rw[h1],t,λp g h=>?_,ud _]
  rcases dU.mp g with g|g
  .exact s p g h
  .rw[gB.mp g] at h;exact absurd h c
theorem ano(B:Bk c0 C n p q r cN part3 ps)(y:zH ps)(P:gJ qs ps)(K:dW strLt (ps.map (·.nm))=qs.map (·.nm)):∃ks:List Gk,ks.Nodup/\(∀o∈qs,o.am<bd->(o.ak,o.pt)∈ks)/\ks.length<=10/\z6 c0 [.ce n,.im (.int bd)] C=aa ((gb C bd qs ks).length,gb C bd qs ks++[.lst ((gk (C.length+1) ks).map (·.2))]):=by
 have v:=y.few;have O:qs.length<=10:=by rw[P.perm.length_eq];exact v
 have A:C++[.b8 []]=gb C bd [] []:=rfl;have s:∀l ks,Bk c0 (gb C bd l ks) n p q r cN part3 ps:=λl ks=>B.ext (λi hi=>afr hi) (apb B.clo)
 obtain⟨R,D,t,⟨ks,⟨a,b,c,d,e,f,L⟩,rfl,x,h,z⟩⟩:=HH (g:=bZ 3) (body:=Dg c0) (aK:=(qs.map (·.nm)).map .str) (aj:=aE n bd C.length ao ao ao ao ao ao) (C:=C++[.b8 []])
  (λi aj D=>∃ks:List Gk,(∃a b c d e f,aj=aE n bd C.length a b c d e f)/\D=gb C bd (qs.take i) ks/\ks.Nodup/\(∀o∈qs.take i,o.am<bd->(o.ak,o.pt)∈ks)/\ks.length<=i) ⟨[],⟨_,_,_,_,_,_,rfl⟩,A,.nil,(λ_ m=>nomatch m),bQ _⟩ (λi d aj D E H=>by
   obtain⟨ks,⟨a,b,c,G,e,f,rfl⟩,rfl,x,h,z⟩:=H
   rw[eZ,jr] at E
   obtain⟨o,k,rfl⟩:=lW.mp E
   have hi:=(jk.mp k).1;have I:qs.take (i+1)=qs.take i++[o]:=by rw[aaY,k];rfl
   obtain⟨w,Q,N,U,T,S,e1,u,j,M⟩:=akH (v4:=b) (v5:=c) (v6:=G) (v7:=e) (v8:=f) rfl (s (qs.take i) ks) y.nd (P.perm.mem_iff.mp (jY k)) x h aD (by rw[GJ];lia)
   rw[<-I] at e1 j
   exact⟨_,.nx,_,_,rfl,e1,.inl rfl,w,⟨_,_,_,_,_,_,rfl⟩,rfl,u,j,aD⟩)
 rw[bC,bC] at h z;rw[bC,bC] at t;rw[aiZ] at t h;subst L
 refine#[ks,x,h,aD,?_]
 have m:cZ c0 (aO "names") 0 (mj c0) aQ (aE n bd C.length ao ao ao ao ao ao) (C++[.b8 []])=aa (.ow (.list ((qs.map (·.nm)).map .str)),aE n bd C.length ao ao ao ao ao ao,C++[.b8 []]):=by
  rw[A];have:=(s [] []).names aD;rw[K] at this;exact oE (s [] []).bk rfl aP rfl this rfl
 have F:iD (iV (cZ c0 (aO "names") 0 (mj c0) aQ)) (bZ 3) (Dg c0) (aE n bd C.length ao ao ao ao ao ao) (C++[.b8 []])=aa (.nx,aE n bd C.length a b c d e f,gb C bd qs ks):=(uv (Bt m rfl rfl)).trans t;have s1:YJ 2 ([Vl.ce n,.im (.int bd)].map aa++cH (9-[Vl.ce n,.im (.int bd)].length) ao) C=aa (.nx,aE n bd C.length ao ao ao ao ao ao,C++[.b8 []]):=rfl;have J:Ie 2 (aE n bd C.length a b c d e f) (gb C bd qs ks)=aa (.rt (.ce (gb C bd qs ks).length),aE n bd C.length a b c d e f,gb C bd qs ks++[.lst ((gk (C.length+1) ks).map (·.2))]):=by
  unfold Ie;dsimp only[KC,KD];rw[Jc,bU,bG (by rw[O6];show _<=1000000;lia)]
 unfold z6 CQ Tn;rw[bG (show[Vl.ce n,.im (.int bd)].length=2 from rfl)];simp only[bV,s1,F,J]
theorem aeo:∀(ys aM:016),aM.length+ys.length<=1000000->zc .one dh (uF (vd c0)) [a] [b,c] ys aM C=aa (aM++ys,C)
 |[],aM,_=>by rw[jt];rfl
 |y::ys,aM,h=>by
  rw[iM] at h;have st:uF (vd c0) ([a]++(cW [y]++[b,c])) aM C=aa (aM++[y],C):=by
   unfold uF;rw[show vd c0 ([a]++(cW [y]++[b,c])) C=aa (.im y,[a]++(cW [y]++[b,c]),C) from rfl,bU];dsimp only;rw[show vV (still (.im y))=aa y from rfl,bU,gq (show aM.length<eE by show _<1000000;lia)];rfl
  show(aa [y]).bind (λts=>(dh ([a]++(cW ts++[b,c])) C).bind λp=>bif p.1 then(uF (vd c0) ([a]++(cW ts++[b,c])) aM p.2).bind λq=>zc .one dh (uF (vd c0)) [a] [b,c] ys q.1 q.2 else zc .one dh (uF (vd c0)) [a] [b,c] ys aM p.2)=_
  rw[bU,show dh ([a]++(cW [y]++[b,c])) C=aa (aq,C) from rfl,bU];dsimp only[cond_true];rw[st,bU,aeo ys (aM++[y]) (by rw[eG];show _+1+_<=_;lia),iK];rfl
theorem ade:∀(a:List (List Pr))(aM:016),(∀g∈a,(∀o∈g,iH 17 o.nm)/\g.length<=50)->aM.length+(a.flatMap (longest bd ds)).length<=1000000->uA .one dh (st2 (Ht c0) .one dh (vd c0) 1 1 2) [ao,aa (08 bd),aa (08 ds)] (a.map uw) aM C=aa (aM++(a.flatMap (longest bd ds)).map sD,C)
 |[],aM,_,_=>by rw[ai0,sG (f:=sD),jt];rfl
 |g::a,aM,hg,h=>by
  rw[aav,eG] at h
  obtain⟨h1,h2⟩:=hg g cR
  have lo:=akG (C:=C) (bd:=bd) (ds:=ds) h1 h2;have fi:Ht c0 (cW [uw g]++[ao,aa (.im (.int bd)),aa (.im (.int ds))]) C=aa ((longest bd ds g).map sD,cW [uw g]++[ao,aa (08 bd),aa (08 ds)],C):=by
   refine Bt (r:=.ow (.list ((longest bd ds g).map sD))) ?_ rfl rfl;simp_arith[cW,j9,kh,lo]
  have st:st2 (Ht c0) .one dh (vd c0) 1 1 2 (cW [uw g]++[ao,aa (.im (.int bd)),aa (.im (.int ds))]) aM C=aa (aM++(longest bd ds g).map sD,C):=by
   unfold st2;rw[fi,bU,bG #[rfl,rfl]];exact aeo _ aM (by rw[bC];lia)
  rw[cM];unfold uA;rw[show yc .one (uw g)=aa [uw g] from rfl,bU,show dh (cW [uw g]++[ao,aa (08 bd),aa (08 ds)]) C=aa (aq,C) from rfl,bU];dsimp only[cond_true];rw[st,bU,ade a _ (λg m=>hg g (dI _ m)) (by rw[eG,bC];lia),iK,aav,jH]
structure Book(c0:az)(C:Ce)(n:Nat)(qs ps:List Pr):Prop where
 at_:∃p q r cN,Bk c0 C n p q r cN part3 ps
 ok:zH ps
 pap:gJ qs ps
 nms:dW strLt (ps.map (·.nm))=qs.map (·.nm)
theorem Book.clo(B:Book c0 C n qs ps):jj C:=by
 obtain⟨p,q,r,cN,B⟩:=B.at_
 exact B.clo
theorem Vq(B:Book c0 C n qs ps)(c:0<ds):wO c0 [.ce n,.im (.int bd),.im (.int ds)] C=aa (.ow (.list ((iG bd ds ps).map sD)),C):=by
 obtain⟨p,q,r,cN,k⟩:=B.at_
 obtain⟨ks,d,b,w,e⟩:=ano (bd:=bd) k B.ok B.pap B.nms
 have v:=B.pap.ane c d b;have t:=B.ok.few;have fd:=B.pap.anc c d b
 obtain⟨aj,a⟩:∃aj:En,aj=[aa (.ce n),aa (08 bd),aa (08 ds)]:=001
 have f:Fg (z6 c0) (aF (aN 0) (aF (aN 1) aQ)) aj C=aa (.im (.list ((ks.map (grp bd qs)).map uw)),aj,C):=by
  unfold Fg;rw[show aF (aN 0) (aF (aN 1) aQ) aj C=aa ([.ce n,.im (.int bd)],aj,C) by rw[a];rfl,bU];dsimp only;rw[e,bU];dsimp only;rw[anm,bU,yx,eZ];have:qe C.length (gb C bd qs ks++[.lst ((gk (C.length+1) ks).map (·.2))])=C:=by
   unfold gb;rw[iK];exact k.clo.cut _
  rw[this];rfl
 have l:=ade (c0:=c0) (C:=C) (bd:=bd) (ds:=ds) (ks.map (grp bd qs)) [] (λg s=>by
  obtain⟨h,_,rfl⟩:=eO.mp s
  refine#[λo i=>(B.ok.one o (B.pap.perm.mem_iff.mp (Ei.mp i).1)).nm,?_]
  have:=sy (sr bd h) qs;have u:=B.pap.perm.length_eq;unfold grp;lia) (by rw[tX];lia)
 obtain⟨e1,j⟩:∃e1,J0 (iB (aX (Fg (z6 c0) (aF (aN 0) (aF (aN 1) aQ))))) .one dh (Ht c0) .one dh (vd c0) 1 1 [1,2] aj C=aa (.ow (.list (((ks.map (grp bd qs)).flatMap (longest bd ds)).map sD)),e1,C):=by
  unfold J0;rw[Ff (sY f rfl) rfl,bU,bG (show st2.Ku .one=1 from rfl)];dsimp only;rw[show cH 1 ao++frB [1,2] aj=[ao,aa (08 bd),aa (08 ds)] by rw[a];rfl];rw[show([1,2]:List Nat).length=2 from rfl,l,bU,kh,bG (by rw[bC];show _<=1000000;lia)]
  exact 001
 have m:yz [.list (((ks.map (grp bd qs)).flatMap (longest bd ds)).map sD)]=aa (.ow (.list ((iG bd ds ps).map sD))):=by
  unfold yz;simp only[Js,bU];rw[bG aD,fd]
 refine mC aj rfl a.symm ?_ rfl rfl;unfold Wc eV;rw[Nz (sY j rfl) m];rfl
theorem abH(h1:iI a=aq)(h2:iI b=aq):jZ (.tuple [.str a,.str b])=aq:=by
 obtain⟨c,e,_⟩:=V6 (zs:=[a,b]) λx d=>by
  rcases cC.mp d with rfl|d
  .exact h1
  .rw[gB.mp d];exact h2
 have c:GD [.str a,.str b]=aq:=c;have e:yo [.str a,.str b]=0:=e;unfold jZ;simp only[Lj,c,Ac,e];decide
theorem aqG(h1:iI a=aq)(h2:iI b=aq)(e:iI c=aq)(f:iI d=aq):tK (.tuple [.str a,.str b]) (.tuple [.str c,.str d])=aa (.im (.bool (decide ((b,a)=(d,c))))):=by
 show(if jX (.tuple [.str a,.str b])&&jX (.tuple [.str c,.str d])&&(jZ (.tuple [.str a,.str b])&&jZ (.tuple [.str c,.str d])) then aa (Ds (.tuple [.str a,.str b]) (.tuple [.str c,.str d])) else ao).map (λb=>Vl.im (.bool b))=_
 rw[show jX (.tuple [.str a,.str b])=aq from rfl,show jX (.tuple [.str c,.str d])=aq from rfl,abH h1 h2,abH e f];show aa (Vl.im (.bool ((a==c)&&((b==d)&&aq))))=_;congr 3;rw[wC,decide_eq_true_iff];simp[and_comm]
abbrev dE(ps:List Pr)(bd ds:Int)(v3:Option Vl)(p:Pr)(v10 v11 bL bO bM:Option Vl):En:=[aa (.im (.list (ps.map pD))),aa (.im (.int bd)),aa (.im (.int ds)),v3,aa (.im (.str p.nm)),aa (.im (.str p.pt)),aa (.im (.int p.am)),aa (.im (.int p.dy)),aa (.im (.str p.ak)),aa (.im (.str p.gt)),v10,v11,bL,bO,bM]
structure Sk(p:Pr):Prop where
 pt:iI p.pt=aq
 ak:iI p.ak=aq
theorem Cj.sk(h:Cj p):Sk p:=⟨by
 have m:=h.pt;unfold Gf at m;simp only[cC,mQ,or_false] at m;rcases m with e|e|e<;>rw[e]<;>decide +kernel,Fv h.ak⟩
theorem alK(f:Sk p)(g:Sk o)(h:aM.length<=100):HR (dE ps bd ds v3 p (aa (.ow (.list aM))) (aa (.im (pD o))) bL bO bM) C=aa (.nx,dE ps bd ds v3 p (aa (.ow (.list (if nearF bd ds (p.ak,p.pt) p.dy o=aq then aM++[pD o] else aM)))) (aa (.im (pD o))) bL bO bM,C):=by
 have e:=aqG g.pt g.ak f.pt f.ak;have l:=eq_true (show aM.length<1000000 by lia);unfold nearF qF sr;unfold HR dE pD;cases a:decide ((o.ak,o.pt)=(p.ak,p.pt)) with
 |false=>
  rw[a] at e;simp_arith[e,a]
 |true=>
  rw[a] at e;cases b:decide (o.am<bd) with
  |false=>simp_arith[e,a,b]
  |true=>
   cases c:decide (p.dy<=o.dy) with
   |false=>
    simp_arith[e,a,b,c,xT]
   |true=>
    cases d:decide (o.dy<p.dy+ds) with
    |false=>simp_arith[e,a,b,c,d,xT]
    |true=>simp_arith[e,a,b,c,d,xT,vN,xH,l]
theorem aci(b:Sk p):∀(l:List Pr)(aM:016)(v11:Option Vl),(∀o∈l,Sk o)->aM.length+l.length<=100->∃a,mZ (bZ 11) HR (l.map pD) (dE ps bd ds v3 p (aa (.ow (.list aM))) v11 bL bO bM) C=aa (.nx,dE ps bd ds v3 p (aa (.ow (.list (aM++(l.filter (nearF bd ds (p.ak,p.pt) p.dy)).map pD)))) a bL bO bM,C)
 |[],aM,v11,_,_=>#[v11,by rw[List.filter_nil,sG (f:=pD),jt];rfl]
 |o::l,aM,v11,hl,h=>by
  rw[iM] at h;have st:=alK (C:=C) (bd:=bd) (ds:=ds) (ps:=ps) (v3:=v3) (bL:=bL) (bO:=bO) (bM:=bM) b (hl o cR) (aM:=aM) aD
  obtain⟨w,c⟩:=aci b (v3:=v3) (bL:=bL) (bO:=bO) (bM:=bM) l (if nearF bd ds (p.ak,p.pt) p.dy o=aq then aM++[pD o] else aM) (aa (.im (pD o))) (λo m=>hl o (dI _ m)) (by
   split
   .rw[eG];show _+1+_<=_;lia
   .lia)
  refine#[w,?_]
  rw[cM,wV (e1:=dE ps bd ds v3 p (aa (.ow (.list aM))) (aa (.im (pD o))) bL bO bM) rfl st,c,SQ];split
  .rw[cM,iK];rfl
  .rfl
theorem Vr(l:009)(h:l.length<64):yH [.list (l.map .str)]=aa (.ow (.list ((dW strLt l).map .str))):=by
 have a:JC (l.map .str)=aa ((dW strLt l).map .str):=by
  unfold JC;rw[bG (by rw[bC];exact h)];cases l with
  |nil=>rfl
  |cons x l=>
   rw[show intsOf ((x::l).map fP)=ao from rfl,Mj]
 unfold yH MT;simp only[a,pI]
theorem apc(l:List (List Str))(z:009):(l.any λa=>decide (a=z))=decide (z∈l):=by
 rw[wC,SM,decide_eq_true_iff]
 exact#[λ⟨a,m,e⟩=>by rw[<-of_decide_eq_true e];exact m,λm=>#[z,m,gq rfl]]
theorem Qy(a:Bool)(z:009)(l:List (List Str)):rO a (.list (z.map .str)) (.list (l.map sD))=aa (.im (.bool (decide (z∈l) != a))):=by
 unfold rO;simp only[Mj,Js,bU,pI,apc]
theorem nm5(l:List Pr):gQ .one dh Vm [] (l.map pD) C=aa ((l.map (·.nm)).map .str,C):=by
 rw[eZ];refine qZ pD _ λo _=>#[[pD o],rfl,rfl,.im (.str o.nm),[aa (.im (pD o))],?_,rfl]
 unfold pD;simp_arith[cW,j9,kh]
theorem am4(l:List Pr):gQ .one dh Vk [] (l.map pD) C=aa ((l.map (·.am)).map .int,C):=by
 rw[eZ];refine qZ pD _ λo _=>#[[pD o],rfl,rfl,.im (.int o.am),[aa (.im (pD o))],?_,rfl]
 unfold pD;simp_arith[cW,j9,kh]
def Qz(bd ds:Int)(ps:List Pr)(p:Pr)(aM:List (List Str)):List (List Str):=if 1<(ps.filter (nearF bd ds (p.ak,p.pt) p.dy)).length/\bd<=lg (ps.filter (nearF bd ds (p.ak,p.pt) p.dy))/\dW strLt ((ps.filter (nearF bd ds (p.ak,p.pt) p.dy)).map (·.nm))∉aM then aM++[dW strLt ((ps.filter (nearF bd ds (p.ak,p.pt) p.dy)).map (·.nm))] else aM
theorem anp(q:Sk p)(m:∀o∈ps,Sk o)(v:ps.length<=50)(y:aM.length<=100):∃g e h,HS (dE ps bd ds (aa (.ow (.list (aM.map sD)))) p v10 v11 bL bO bM) C=aa (.nx,dE ps bd ds (aa (.ow (.list ((Qz bd ds ps p aM).map sD)))) p g e h bO bM,C):=by
 obtain⟨e,e2⟩:=aci (C:=C) (bd:=bd) (ds:=ds) (ps:=ps) q (v3:=aa (.ow (.list (aM.map sD)))) (bL:=bL) (bO:=bO) (bM:=bM) ps [] v11 m (by rw[tX];lia)
 rw[kh] at e2;have s:=sy (nearF bd ds (p.ak,p.pt) p.dy) ps;unfold Qz;generalize ps.filter (nearF bd ds (p.ak,p.pt) p.dy)=d at e2 s⊢;have s1:dY 10 (fQ aQ) (dE ps bd ds (aa (.ow (.list (aM.map sD)))) p v10 v11 bL bO bM) C=aa (.nx,dE ps bd ds (aa (.ow (.list (aM.map sD)))) p (aa (.ow (.list []))) v11 bL bO bM,C):=rfl;have l:iD (iV (aN 0)) (bZ 11) HR (dE ps bd ds (aa (.ow (.list (aM.map sD)))) p (aa (.ow (.list []))) v11 bL bO bM) C=aa (.nx,dE ps bd ds (aa (.ow (.list (aM.map sD)))) p (aa (.ow (.list (d.map pD)))) e bL bO bM,C):=(uv (Bt rfl rfl rfl)).trans e2;have f:=eq_true (show d.length<=1000000 by lia);have n:=nm5 (C:=C) d;have k:=am4 (C:=C) d;have u:=Vr (d.map (·.nm)) (by rw[bC];lia);have j:=afn (d.map (·.am));have r:rO aq (.list ((dW strLt (d.map (·.nm))).map .str)) (.list (aM.map sD))=aa (.im (.bool (!decide (dW strLt (d.map (·.nm))∈aM)))):=by
  rw[Qy];cases decide (dW strLt (d.map (·.nm))∈aM)<;>rfl
 have t:dY 12 (dg yH (cL (aX (eF (iB (aZ 10)) .one dh Vm [])) dw)) (dE ps bd ds (aa (.ow (.list (aM.map sD)))) p (aa (.ow (.list (d.map pD)))) e bL bO bM) C=aa (.nx,dE ps bd ds (aa (.ow (.list (aM.map sD)))) p (aa (.ow (.list (d.map pD)))) e (aa (.ow (.list ((dW strLt (d.map (·.nm))).map .str)))) bO bM,C):=by
  unfold dE;simp_arith[n,f,u]
 have i:vJ [.list (d.map pD)]=aa (.im (.int d.length)):=by
  show aa _=_;rw[bC]
 have w:=eq_true (show aM.length<1000000 by lia);have x:qC (eU (bA FP (aX (dg vJ (cL (aZ 10) dw))) (cI 1))) (qC (eU (bA FQ (aX (dg Fe (cL (aX (eF (iB (aZ 10)) .one dh Vk [])) dw))) (aZ 1))) (eU (bA (rO aq) (aZ 12) (aZ 3)))) (dE ps bd ds (aa (.ow (.list (aM.map sD)))) p (aa (.ow (.list (d.map pD)))) e (aa (.ow (.list ((dW strLt (d.map (·.nm))).map .str)))) bO bM) C=aa (decide (1<d.length/\bd<=lg d/\dW strLt (d.map (·.nm))∉aM),C):=by
  unfold dE lg;have n1:decide ((1:Int)<d.length)=decide (1<d.length):=decide_eq_decide.mpr aD;rw[ajd,ajd];cases a:decide (1<d.length) with
  |false=>simp_arith[i,n1,a]
  |true=>
   cases b:decide (bd<=(d.map (·.am)).sum) with
   |false=>simp_arith[i,n1,a,k,f,j,b]
   |true=>simp_arith[i,n1,a,k,f,j,b,r,decide_not]
 unfold HS;simp only[bV,s1,l,t];rw[Ga,x,bU];dsimp only;by_cases c:1<d.length/\bd<=lg d/\dW strLt (d.map (·.nm))∉aM
 .rw[bG (gq c),bG c]
  refine#[aa (.ow (.list (d.map pD))),e,aa (.im (.list ((dW strLt (d.map (·.nm))).map .str))),?_]
  unfold dE;rw[jH];simp_arith[vN,xH,w];rfl
 .rw[bK (by rw[m7 c];decide),bK c]
  exact#[_,_,_,rfl]
abbrev mK(ps:List Pr)(bd ds:Int)(v3 v4 v5 v6 v7 v8 v9 v10 v11 bL bO bM:Option Vl):En:=[aa (.im (.list (ps.map pD))),aa (.im (.int bd)),aa (.im (.int ds)),v3,v4,v5,v6,v7,v8,v9,v10,v11,bL,bO,bM]
theorem acj(r:∀o∈ps,Sk o)(q:ps.length<=50):∀(l:List Pr)(aM:List (List Str))(v4 v5 v6 v7 v8 v9 v10 v11 bL:Option Vl),(∀o∈l,o∈ps)->aM.length+l.length<=100->∃t s y x w v j n k,mZ (nD 6 (cU (bZ 4) (cU (bZ 5) (cU (bZ 6) (cU (bZ 7) (cU (bZ 8) (cU (bZ 9) mY))))))) HS (l.map pD) (mK ps bd ds (aa (.ow (.list (aM.map sD)))) v4 v5 v6 v7 v8 v9 v10 v11 bL bO bM) C=aa (.nx,mK ps bd ds (aa (.ow (.list ((gR bd ds ps l aM).map sD)))) t s y x w v j n k bO bM,C)
 |[],aM,_,_,_,_,_,_,_,_,_,_,_=>#[_,_,_,_,_,_,_,_,_,rfl]
 |p::l,aM,v4,v5,v6,v7,v8,v9,v10,v11,bL,hl,h=>by
  rw[iM] at h
  obtain⟨j,n,k,st⟩:=anp (C:=C) (bd:=bd) (ds:=ds) (r p (hl p cR)) r q (aM:=aM) aD (v10:=v10) (v11:=v11) (bL:=bL) (bO:=bO) (bM:=bM)
  obtain⟨a,b,c,d,e,f,g,h1,i,u⟩:=acj r q (bO:=bO) (bM:=bM) l (Qz bd ds ps p aM) (aa (.im (.str p.nm))) (aa (.im (.str p.pt))) (aa (.im (.int p.am))) (aa (.im (.int p.dy))) (aa (.im (.str p.ak))) (aa (.im (.str p.gt))) j n k (λo m=>hl o (dI _ m)) (by
   unfold Qz;split
   .rw[eG];show _+1+_<=_;lia
   .lia)
  refine#[a,b,c,d,e,f,g,h1,i,?_]
  rw[cM,wV (e1:=dE ps bd ds (aa (.ow (.list (aM.map sD)))) p v10 v11 bL bO bM) rfl st];exact u
theorem anq{l:List (List Str)}(h1:∀z∈one,iI z=aq)(g:∀o∈l,∀z∈o,iI z=aq)(h:one.length<=100):gQ .one HQ Vj [aa (.im (sD one))] (l.map sD) C=aa ((l.filter (pY one)).map λ_=>sD one,C):=by
 refine Ah sD (pY one) (λ_=>sD one) λo d=>#[[sD o],rfl,?_,λ_=>#[.im (sD one),[aa (.im (sD o)),aa (.im (sD one))],rfl,rfl]]
 have n:=YS h1 (g o d);have a:gQ .one dh acd [aa (.im (.list (o.map .str)))] (one.map .str) C=aa ((one.map λx=>decide (x∈o)).map .bool,C):=by
  rw[eZ];refine qZ fP _ λx _=>#[[.str x],rfl,rfl,.im (.bool (decide (x∈o))),[aa (.im (.str x)),aa (.im (.list (o.map .str)))],?_,rfl]
  simp_arith[cW,j9,kh,yI]
 have b:=O5 (one.map λx=>decide (x∈o));have f:=eq_true (show one.length<=1000000 by lia);have e:(one.map λx=>decide (x∈o)).all id=one.all λx=>decide (x∈o):=by rw[aa9];rfl
 rw[e] at b;unfold pY sD;cases c:decide (one≠o) with
 |true=>
  rw[c] at n;simp_arith[cW,j9,kh,HQ,n,a,b,f,Dt]
 |false=>
  rw[c] at n;simp_arith[cW,j9,kh,HQ,n]
theorem anr{l m:List (List Str)}:gQ .one Mu Vi [aa (.im (.list (m.map sD)))] (l.map sD) C=aa ((l.filter λx=>decide (x∉m)).map sD,C):=by
 refine Ah sD (λx=>decide (x∉m)) sD λo b=>#[[sD o],rfl,?_,λ_=>#[.im (sD o),[aa (.im (sD o)),aa (.im (.list (m.map sD)))],rfl,rfl]]
 have a:rO aq (sD o) (.list (m.map sD))=aa (.im (.bool (decide (o∉m)))):=by
  rw[show rO aq (sD o) (.list (m.map sD))=_ from Qy aq o m,decide_not];cases decide (o∈m)<;>rfl
 simp_arith[cW,j9,kh,Mu,a]
theorem akI{l aM:List (List Str)}(h1:∀z∈one,iI z=aq)(e:∀o∈l,∀z∈o,iI z=aq)(b:one.length<=100)(i:l.length<=100)(g:aM.length<=100000):DK (mK ps bd ds (aa (.im (.list (l.map sD)))) v4 v5 v6 v7 v8 v9 v10 v11 bL (aa (.ow (.list (aM.map sD)))) (aa (.im (sD one)))) C=aa (.nx,mK ps bd ds (aa (.im (.list (l.map sD)))) v4 v5 v6 v7 v8 v9 v10 v11 bL (aa (.ow (.list ((aM++(l.filter (pY one)).map λ_=>one).map sD)))) (aa (.im (sD one))),C):=by
 have c:=anq (C:=C) h1 e b;have j:=sy (pY one) l;have k:=eq_true (show(l.filter (pY one)).length<=1000000 by lia);have h:=eq_true (show aM.length+(l.filter (pY one)).length<=1000000 by lia)
 obtain⟨aj,a⟩:∃aj,aj=mK ps bd ds (aa (.im (.list (l.map sD)))) v4 v5 v6 v7 v8 v9 v10 v11 bL (aa (.ow (.list (aM.map sD)))) (aa (.im (sD one))):=001
 have fz:jE [14] aj=aj:=by rw[a];rfl
 have f:eF (iB (aZ 3)) .one HQ Vj [14] aj C=aa (.ow (.list (((l.filter (pY one)).map λ_=>one).map sD)),aj,C):=by
  unfold eF;rw[Ff (aK:=l.map sD) (d:=.list (l.map sD)) (e1:=aj) (C1:=C) (by rw[a];rfl) rfl];dsimp only;rw[show frB [14] aj=[aa (.im (sD one))] by rw[a];rfl,c];dsimp only;rw[bG (by rw[bC];show _<=1000000;lia),fz,ite_self,eZ];rfl
 rw[<-a];unfold DK Q8;rw[show aj[13]?=aa (aa (.ow (.list (aM.map sD)))) by rw[a];rfl,bG (show xH (aa (aa (.ow (.list (aM.map sD)))))=aq from rfl),sY f rfl];dsimp only;rw[show aj[13]?=aa (aa (.ow (.list (aM.map sD)))) by rw[a];rfl];dsimp only;rw[bG (by rw[bC,bC,bC];show _<=1000000;lia),<-jH,a];rfl
theorem abI{l:List (List Str)}(b:∀o∈l,(∀z∈o,iI z=aq)/\o.length<=100)(d:l.length<=100):∀(r aM:List (List Str))(bM:Option Vl),(∀o∈r,o∈l)->aM.length+100*r.length<=100000->∃a,mZ (bZ 14) DK (r.map sD) (mK ps bd ds (aa (.im (.list (l.map sD)))) v4 v5 v6 v7 v8 v9 v10 v11 bL (aa (.ow (.list (aM.map sD)))) bM) C=aa (.nx,mK ps bd ds (aa (.im (.list (l.map sD)))) v4 v5 v6 v7 v8 v9 v10 v11 bL (aa (.ow (.list ((aM++r.flatMap λone=>(l.filter (pY one)).map λ_=>one).map sD)))) a,C)
 |[],aM,bM,_,_=>#[bM,by rw[ai0,jt];rfl]
 |one::r,aM,bM,hr,h=>by
  rw[iM] at h;have c:=b one (hr one cR);have f:=sy (pY one) l;have st:=akI (C:=C) (bd:=bd) (ds:=ds) (ps:=ps) (aM:=aM) (v4:=v4) (v5:=v5) (v6:=v6) (v7:=v7) (v8:=v8) (v9:=v9) (v10:=v10) (v11:=v11) (bL:=bL) c.1 (λo m=>(b o m).1) c.2 d aD
  obtain⟨w,e⟩:=abI b d (v4:=v4) (v5:=v5) (v6:=v6) (v7:=v7) (v8:=v8) (v9:=v9) (v10:=v10) (v11:=v11) (bL:=bL) r (aM++(l.filter (pY one)).map λ_=>one) (aa (.im (sD one))) (λo m=>hr o (dI _ m)) (by rw[eG,bC];lia)
  refine#[w,?_]
  rw[cM,wV (e1:=mK ps bd ds (aa (.im (.list (l.map sD)))) v4 v5 v6 v7 v8 v9 v10 v11 bL (aa (.ow (.list (aM.map sD)))) (aa (.im (sD one)))) rfl st,e,aav,iK]
theorem alL(b:∀o∈ps,iH 17 o.nm)(h:L∈gR bd ds ps ps []):(∀z∈L,iI z=aq)/\L.length<=ps.length:=by
 rcases Vo.mp h with h|⟨p,_,_,_,rfl⟩
 .cases h
 .refine#[λz a=>?_,by rw[(pM _).length_eq,bC];exact sy _ _]
  rw[(pM _).mem_iff] at a
  obtain⟨o,c,rfl⟩:=eO.mp a
  exact Fv (b o (mR.mp c).1)
theorem afs(j:zH ps):Bm [.im (.list (ps.map pD)),.im (.int bd),.im (.int ds)] C=aa (.ow (.list ((iG bd ds ps).map sD)),C):=by
 have B:=j.few
 obtain⟨a,b,c,d,e,f,g,h,i,e1⟩:=acj (C:=C) (bd:=bd) (ds:=ds) (ps:=ps) (λo m=>(j.one o m).sk) aD (bO:=ao) (bM:=ao) ps [] ao ao ao ao ao ao ao ao ao (λ_ m=>m) (by rw[tX];lia)
 have s:=Mv (bd:=bd) (ds:=ds) (ps:=ps) (r:=ps) (aM:=[]);rw[tX,Hs] at s
 obtain⟨w,e2⟩:=abI (C:=C) (bd:=bd) (ds:=ds) (ps:=ps) (l:=gR bd ds ps ps []) (λo m=>(let ⟨x,y⟩:=alL (λo m=>(j.one o m).nm) m;#[x,aD])) aD (v4:=a) (v5:=b) (v6:=c) (v7:=d) (v8:=e) (v9:=f) (v10:=g) (v11:=h) (bL:=i) (gR bd ds ps ps []) [] ao (λ_ m=>m) (by rw[tX];lia)
 rw[kh] at e2;have e2:mZ (bZ 14) DK ((gR bd ds ps ps []).map sD) (mK ps bd ds (aa (.im (.list ((gR bd ds ps ps []).map sD)))) a b c d e f g h i (aa (.ow (.list []))) ao) C=aa (.nx,mK ps bd ds (aa (.im (.list ((gR bd ds ps ps []).map sD)))) a b c d e f g h i (aa (.ow (.list ((pW (gR bd ds ps ps [])).map sD)))) w,C):=e2;have q:=anr (C:=C) (l:=gR bd ds ps ps []) (m:=pW (gR bd ds ps ps []));have u:=sy (λx=>decide (x∉pW (gR bd ds ps ps []))) (gR bd ds ps ps []);unfold iG;generalize gR bd ds ps ps []=S at e1 s e2 q u⊢;have t:iD (ql (aN 0)) (nD 6 (cU (bZ 4) (cU (bZ 5) (cU (bZ 6) (cU (bZ 7) (cU (bZ 8) (cU (bZ 9) mY))))))) HS (mK ps bd ds (aa (.ow (.list []))) ao ao ao ao ao ao ao ao ao ao ao) C=aa (.nx,mK ps bd ds (aa (.ow (.list (S.map sD)))) a b c d e f g h i ao ao,C):=(uv (XX rfl rfl rfl)).trans e1;have z:dY 13 (fQ aQ) (mK ps bd ds (aa (.ow (.list (S.map sD)))) a b c d e f g h i ao ao) C=aa (.nx,mK ps bd ds (aa (.ow (.list (S.map sD)))) a b c d e f g h i (aa (.ow (.list []))) ao,C):=rfl;have p:iD (iV (aN 3)) (bZ 14) DK (mK ps bd ds (aa (.ow (.list (S.map sD)))) a b c d e f g h i (aa (.ow (.list []))) ao) C=aa (.nx,mK ps bd ds (aa (.im (.list (S.map sD)))) a b c d e f g h i (aa (.ow (.list ((pW S).map sD)))) w,C):=(uv (Bt (r:=.im (.list (S.map sD))) rfl rfl rfl)).trans e2;have A:yz [.list ((S.filter λx=>decide (x∉pW S)).map sD)]=aa (.ow (.list ((dW ie (S.filter λx=>decide (x∉pW S))).map sD))):=by
  unfold yz;simp only[Js,bU];rw[bG aD]
 obtain⟨aj,k⟩:∃aj,aj=mK ps bd ds (aa (.im (.list (S.map sD)))) a b c d e f g h i (aa (.ow (.list ((pW S).map sD)))) w:=001
 obtain⟨n,v⟩:∃n,eF (iB (aZ 3)) .one Mu Vi [13] aj C=aa (.ow (.list ((S.filter λx=>decide (x∉pW S)).map sD)),n,C):=by
  unfold eF;rw[Ff (aK:=S.map sD) (d:=.list (S.map sD)) (e1:=aj) (C1:=C) (by rw[k];rfl) rfl];dsimp only;rw[show frB [13] aj=[aa (.im (.list ((pW S).map sD)))] by rw[k];rfl,q];dsimp only;rw[bG (by rw[bC];show _<=1000000;lia)]
  exact 001
 rw[<-k] at p;refine mC (mK ps bd ds ao ao ao ao ao ao ao ao ao ao ao ao) rfl rfl ?_ rfl rfl;have s1:dY 3 (fQ aQ) (mK ps bd ds ao ao ao ao ao ao ao ao ao ao ao ao) C=aa (.nx,mK ps bd ds (aa (.ow (.list []))) ao ao ao ao ao ao ao ao ao ao ao,C):=rfl;unfold Yh eV;simp only[bV,s1,t,z,p];rw[Nz (sY v rfl) A];rfl
abbrev iE(n:Nat)(bd ds:Int)(zs:List Str)(v4:Option Vl):En:=[aa (.ce n),aa (.im (.int bd)),aa (.im (.int ds)),aa (.im (sD zs)),v4]
theorem adf{α:Type}(l:List α):(l.map λ_=>aq).all id=aq:=by
 induction l with
 |nil=>rfl
 |cons a l ih=>exact ih
theorem adg(B:Book c0 C n qs ps):∀(l:009)(v4:Option Vl),(∀z∈l,z∈ps.map (·.nm))->∃c,mZ (bZ 4) (Hi c0) (l.map .str) (iE n bd ds zs v4) C=aa (.nx,iE n bd ds zs c,C)
 |[],v4,_=>#[v4,rfl]
 |z::l,v4,h=>by
  obtain⟨p,q,r,cN,k⟩:=B.at_
  obtain⟨o,b,e⟩:=eO.mp (h z cR)
  have a:=k.paper B.ok.nd b;rw[e] at a;have m:cZ c0 (aO "paper_of") 0 (qX c0) (aF (aN 4) aQ) (iE n bd ds zs (aa (.im (.str z)))) C=aa (.im (qy o),iE n bd ds zs (aa (.im (.str z))),C):=oE k.bk rfl aP rfl a rfl;have st:Hi c0 (iE n bd ds zs (aa (.im (.str z)))) C=aa (.nx,iE n bd ds zs (aa (.im (.str z))),C):=by
   unfold Hi vL;rw[m]
  obtain⟨w,d⟩:=adg B l (aa (.im (.str z))) λx m=>h x (dI _ m)
  exact#[w,by rw[cM,wV (e1:=iE n bd ds zs (aa (.im (.str z)))) rfl st,d]]
theorem Um(B:Book c0 C n qs ps)(f:0<ds)(h:∀z∈zs,z∈ps.map (·.nm))(j:zs.length<60):wK c0 [.ce n,.im (.int bd),.im (.int ds),.im (sD zs)] C=aa (.im (.bool (decide (dW strLt zs∈iG bd ds ps))),C):=by
 have sp:=Vq (bd:=bd) B f
 obtain⟨w,lo⟩:=adg (bd:=bd) (ds:=ds) B (zs:=zs) zs ao h
 have d:=Vr zs aD;have a:=Qy aH (dW strLt zs) (iG bd ds ps);rw[ajn] at a;have e:gQ .one dh (TF c0) [] (zs.map .str) C=aa ((zs.map λ_=>aq).map .bool,C):=by
  rw[eZ];exact qZ fP _ λx _=>#[[.str x],rfl,rfl,.im (.bool aq),[aa (.im (.str x))],rfl,rfl]
 have b:=O5 (zs.map λ_=>aq);rw[adf] at b;have c:=eq_true (show zs.length<=1000000 by lia);have s1:fZ (pC (jW (jo (aX (qI "list" (aZ 3))))) (jW (jo (aX (dg uB (cL (aX (eF (iB (aZ 3)) .one dh (TF c0) [])) dw)))))) (eV (bN (.bool aH))) g8 (iE n bd ds zs ao) C=aa (.nx,iE n bd ds zs ao,C):=by
  unfold iE sD;simp_arith[qI,FZ,e,b,c,Dt]
 have g:iD (iV (aN 3)) (bZ 4) (Hi c0) (iE n bd ds zs ao) C=aa (.nx,iE n bd ds zs w,C):=(uv (Bt rfl rfl rfl)).trans lo;have i:eV (bA (rO aH) (aX (dg yH (cL (aZ 3) dw))) (aX (cV (wO c0) (aF (aN 0) (aF (aN 1) (aF (aN 2) aQ)))))) (iE n bd ds zs w) C=aa (.rt (.im (.bool (decide (dW strLt zs∈iG bd ds ps)))),iE n bd ds zs w,C):=by
  unfold iE sD;simp_arith[d,sp,a]
 refine mC (iE n bd ds zs ao) rfl rfl ?_ rfl rfl;unfold Ux;simp only[bV,s1,g,i,pI]
theorem Book.pick(B:Book c0 C n qs ps)(a:C[b]?=aa (inC xs))(g:b<n)(h:∀q,q≠b->C'[q]?=C[q]?)(f:jj C'):Book c0 C' n qs ps:=by
 obtain⟨p,q,r,cN,k⟩:=B.at_
 have i:=k.np;have c:q≠b:=λe=>by have:=k.pa;rw[e,a] at this;cases this
 have d:r≠b:=λe=>by have:=k.ro;rw[e,a] at this;cases this
 exact#[#[p,q,r,cN,by rw[h n aD];exact k.bk,by rw[h p aD];exact k.pg,by rw[h q c];exact k.pa,by rw[h r d];exact k.ro,k.np,k.pf,k.gf,f],B.ok,B.pap,B.nms]
theorem alM(B:Book c0 C n qs ps)(h:Bl L C b (k+1))(d:b<n)(g:0<m)(h1:m<1073741824):∃t C',gr [.ce b,.im (.int m)] C=aa (.im (.int t),C')/\0<=t/\t<m/\Bl L C' b k/\Book c0 C' n qs ps:=by
 obtain⟨t,C',e,f,j,a,c⟩:=afZ h g h1
 obtain⟨⟨_,x,y,z,i,_⟩,_⟩:=h
 exact#[t,C',e,f,j,a,B.pick i d c a.clo]
abbrev gE(b n:Nat)(du:List (List Str))(bd ds:Int)(v5 v6 v7 v8 v9 v10:Option Vl):En:=[aa (.ce b),aa (.ce n),aa (.im (.list (du.map sD))),aa (.im (.int bd)),aa (.im (.int ds)),v5,v6,v7,v8,v9,v10]
structure wu(ps:List Pr)(zs:List Str):Prop where
 mem:∀z∈zs,z∈ps.map (·.nm)
 few:zs.length<60
theorem wu.ok(h:wu ps zs)(a:zH ps):∀z∈zs,iI z=aq:=λz b=>by
 obtain⟨o,c,e⟩:=eO.mp (h.mem z b)
 rw[<-e];exact Fv (a.one o c).nm
theorem aep(h:wu ps zs)(a:zH ps):jy (.list (zs.map .str)) (.list (zs.map .str))=aa (.im (.bool aH)):=by
 rw[YS (h.ok a) (h.ok a),m7 (λe=>e rfl)]
theorem ant(B:Book c0 C n qs ps)(k:0<ds)(g:du=iG bd ds ps)(h:wu ps zs)(v5 v6 v7 v8 v10:Option Vl):∃i c,GQ c0 (gE b n du bd ds v5 v6 v7 v8 (aa (.im (sD zs))) v10) C=aa (.nx,gE b n du bd ds v5 v6 i v8 (aa (.im (sD zs))) c,C):=by
 have d:=Um (bd:=bd) B k h.mem h.few;have ne:=aep h B.ok;have j:=Vr zs (by have:=h.few;lia);have e:=Qy aH (dW strLt zs) du;rw[ajn] at e;rw[<-g] at d;have f:wQ [.list (zs.map .str)]=aa (.ow (.list (zs.map .str))):=rfl
 refine#[aa (.ow (sD zs)),aa (.im (.bool (decide (dW strLt zs∈du)))),?_]
 unfold gE sD at *;unfold GQ;generalize du.map (λa=>Uo (a.map .str))=l at *;generalize decide (dW strLt zs∈du)=m at *;simp_arith[f,d,qI,FZ,j,e,ne]
theorem adh(B:Book c0 C n qs ps)(j:0<ds)(i:du=iG bd ds ps)(v5 v6 v8:Option Vl):∀(l:List (List Str))(v7 v9 v10:Option Vl),(∀zs∈l,wu ps zs)->∃p o g,mZ (bZ 9) (GQ c0) (l.map sD) (gE b n du bd ds v5 v6 v7 v8 v9 v10) C=aa (.nx,gE b n du bd ds v5 v6 p v8 o g,C)
 |[],v7,v9,v10,_=>#[v7,v9,v10,rfl]
 |zs::l,v7,v9,v10,h=>by
  obtain⟨a,c,st⟩:=ant (b:=b) B j i (h zs cR) v5 v6 v7 v8 v10
  obtain⟨d,e,f,k⟩:=adh B j i v5 v6 v8 l a (aa (.im (sD zs))) c λz m=>h z (dI _ m)
  exact#[d,e,f,by rw[cM,wV (e1:=gE b n du bd ds v5 v6 v7 v8 (aa (.im (sD zs))) v10) rfl st,k]]
theorem adi(f:α->β)(xs:List α)(lo hi:Option Int):iY (xs.map f) lo hi=(iY xs lo hi).map f:=by
 unfold iY;rw[bC,ajB,List.map_drop]
theorem anu{xs:List α}{x:α}(h:x∈iY xs lo hi):x∈xs:=List.mem_of_mem_drop (ah6 h)
theorem anv{xs:List α}:(iY xs lo hi).length<=xs.length:=by
 unfold iY;rw[GJ,aaD];lia
theorem alN(l:009)(a:L.length<=100):gQ .one (GR c0) (La c0) [aa (.im (sD L))] (l.map .str) C=aa (((l.filter λz=>decide (z∉L)).map λz=>L++[z]).map sD,C):=by
 rw[eZ];refine Ah fP (λz=>decide (z∉L)) _ λz _=>#[[.str z],rfl,?_,λ_=>#[.ow (sD (L++[z])),[aa (.im (.str z)),aa (.im (sD L))],?_,rfl]]
 .have:Iw (.str z) (.list (L.map .str))=aa (.im (.bool (decide (z∉L)))):=by
   have e:=yI z L;unfold zu at e;unfold Iw;cases h:inB (.str z) (.list (L.map .str)) with
   |none=>rw[h] at e;cases e
   |some v=>
    rw[h] at e;cases e;rw[pI,decide_not]
  unfold sD;simp_arith[cW,j9,kh,GR,this]
 .have:dM (.list (L.map .str)) (.list [.str z])=aa (.ow (sD (L++[z]))):=by
   have:dM (.list (L.map .str)) (.list [.str z])=aa (.ow (.list (L.map .str++[.str z]))):=bG (by rw[bC];show _+1<=1000000;lia);rw[this];unfold sD;rw[jH];rfl
  unfold sD at *;simp_arith[cW,j9,kh,this]
theorem alO(B:Book c0 C n qs ps)(I:0<ds)(G:du=iG bd ds ps)(K:L∈du)(hB:Bl Ln C b (k+1))(Z:b<n)(v5 v6 v7 v8 v9 v10:Option Vl):
  ∃C' w6 y w8 w g,GX c0 (gE b n du bd ds (aa (.im (sD L))) v6 v7 v8 v9 v10) C=aa (.nx,gE b n du bd ds (aa (.im (sD L))) w6 y w8 w g,C')/\Bl Ln C' b k/\Book c0 C' n qs ps:=by
 obtain⟨t,C',e,t0,t1,D,l⟩:=alM (m:=2) B hB Z aP aP
 have o:=B.pap.NZ (by rw[<-G];exact K);have few:=B.ok.few;have lq:qs.length=ps.length:=B.pap.perm.length_eq;have W:L.length<=10:=by
  have:=V5 o.2.2.1 o.2.2.2;rw[bC] at this;lia
 have v:∀z∈qs.map (·.nm),z∈ps.map (·.nm):=λz d=>((B.pap.perm.map _).mem_iff).mp d
 have u:wu ps L:=#[λz d=>v z (o.2.2.2 z d),aD]
 obtain⟨T,hT,F,V⟩:∃T:List Str,dY 6 (zy (eU (bA tK (aX (cV gr (aF (aN 0) (aF (bN (.int 2)) aQ)))) (cI 0))) (JK (aZ 5) (aX (pF (cI 1)))) (dg wQ (cL (aZ 5) dw))) (gE b n du bd ds (aa (.im (sD L))) v6 v7 v8 v9 v10) C=aa (.nx,gE b n du bd ds (aa (.im (sD L))) (aa (.ow (sD T))) v7 v8 v9 v10,C')/\wu ps T/\dW strLt T=L:=by
  by_cases c:t=0
  .refine#[L.reverse,?_,#[λz d=>u.mem z (List.mem_reverse.mp d),by rw[List.length_reverse];lia],?_]
   .have Q:(L.map fP).reverse=L.reverse.map .str:=List.map_reverse.symm;unfold gE sD;simp_arith[e,c,JK,Q,ajD]
   .exact(Aw uG (λ_ _=>trivial) ((pM L.reverse).trans (List.reverse_perm L)) (Ia uG λ_ _=>trivial)).trans o.2.1
  .refine#[L,?_,u,o.2.1]
   have S:(t==0)=aH:=beq_eq_false_iff_ne.mpr c;have ld:wQ [.list (L.map .str)]=aa (.ow (.list (L.map .str))):=rfl;unfold gE sD;simp_arith[e,S,ld]
 have M:=Um (bd:=bd) l I F.mem F.few;rw[V,<-G,gq K] at M;have ne:=aep F B.ok;have U:dY 7 (dg wQ (cL (aZ 6) dw)) (gE b n du bd ds (aa (.im (sD L))) (aa (.ow (sD T))) v7 v8 v9 v10) C'=aa (.nx,gE b n du bd ds (aa (.im (sD L))) (aa (.ow (sD T))) (aa (.ow (sD T))) v8 v9 v10,C'):=rfl;have s3:fZ (pC (eU (bA Jp (aX (cV (wK c0) (aF (aN 1) (aF (aN 3) (aF (aN 4) (aF (aN 7) aQ)))))) (aX (bN (.bool aq))))) (eU (bA jy (aZ 7) (aZ 6)))) (eV (bN (.bool aH))) g8 (gE b n du bd ds (aa (.im (sD L))) (aa (.ow (sD T))) (aa (.ow (sD T))) v8 v9 v10) C'=aa (.nx,gE b n du bd ds (aa (.im (sD L))) (aa (.ow (sD T))) (aa (.ow (sD T))) v8 v9 v10,C'):=by
  unfold gE sD at *;generalize du.map (λa=>Uo (a.map .str))=DU at *;have R:Jp (.bool aq) (.bool aq)=aa (.im (.bool aH)):=rfl;simp_arith[M,R,ne]
 obtain⟨p,q,r,cN,O⟩:=l.at_
 have J:=O.names aD;rw[l.nms] at J;have P:=alN (c0:=c0) (C:=C') (L:=L) (qs.map (·.nm)) aD;have lf:=sy (λz=>decide (z∉L)) (qs.map (·.nm));rw[bC] at lf
 obtain⟨f,E⟩:∃f,f=((qs.map (·.nm)).filter λz=>decide (z∉L)).map λz=>L++[z]:=001
 have lm:f.length<=10:=by rw[E,bC];lia
 rw[<-E] at P;have A:∀zs∈f,wu ps zs:=λzs d=>by
  rw[E] at d
  obtain⟨z,X,rfl⟩:=eO.mp d
  refine#[λx s=>?_,by rw[eG];show _+1<_;lia]
  rcases dU.mp s with s|s
  .exact u.mem x s
  .rw[gB.mp s];exact v z (mR.mp X).1
 obtain⟨aj,h⟩:∃aj,aj=gE b n du bd ds (aa (.im (sD L))) (aa (.ow (sD T))) (aa (.ow (sD T))) v8 v9 v10:=001
 have lc:eF (iB (aX (cZ c0 (aO "names") 1 (mj c0) aQ))) .one (GR c0) (La c0) [5] aj C'=aa (.ow (.list (f.map sD)),aj,C'):=by
  have m:cZ c0 (aO "names") 1 (mj c0) aQ aj C'=aa (.ow (.list ((qs.map (·.nm)).map .str)),aj,C'):=oE O.bk (by rw[h];rfl) aP rfl J rfl;unfold eF;rw[Ff (aK:=(qs.map (·.nm)).map .str) (sY m rfl) rfl];dsimp only;rw[show frB [5] aj=[aa (.im (sD L))] by rw[h];rfl,P];dsimp only;rw[bG (by rw[bC];show _<=1000000;lia),show jE [5] aj=aj by rw[h];rfl,ite_self]
 have c1:iY (L.map fP) (aa 1) ao=(iY L (aa 1) ao).map .str:=adi _ _ _ _;have c2:iY (L.map fP) ao (aa (-1))=(iY L ao (aa (-1))).map .str:=adi _ _ _ _;have H:dY 8 (bA dM (aX (fQ (aF (qQ (aZ 5) (qP (cI 1)) rY) (aF (qQ (aZ 5) rY (qP (aX (pF (cI 1))))) aQ)))) (aX (eF (iB (aX (cZ c0 (aO "names") 1 (mj c0) aQ))) .one (GR c0) (La c0) [5]))) aj C'=aa (.nx,gE b n du bd ds (aa (.im (sD L))) (aa (.ow (sD T))) (aa (.ow (sD T))) (aa (.ow (.list ((iY L (aa 1) ao::iY L ao (aa (-1))::f).map sD)))) v9 v10,C'):=by
  have l5:aX (fQ (aF (qQ (aZ 5) (qP (cI 1)) rY) (aF (qQ (aZ 5) rY (qP (aX (pF (cI 1))))) aQ))) aj C'=aa (.list [sD (iY L (aa 1) ao),sD (iY L ao (aa (-1)))],aj,C'):=by
   rw[h];unfold gE sD;simp_arith[qQ,qP,rY,Kq,c1,c2,ajD]
  have Y:dM (.list [sD (iY L (aa 1) ao),sD (iY L ao (aa (-1)))]) (.list (f.map sD))=aa (.ow (.list ((iY L (aa 1) ao::iY L ao (aa (-1))::f).map sD))):=by
   show(if _ then _ else _)=_
   rw[bG (by rw[bC];show 2+_<=1000000;lia)];rfl
  unfold dY;rw[X3 l5 (sY lc rfl) Y,h];rfl
 have j:∀zs∈iY L (aa 1) ao::iY L ao (aa (-1))::f,wu ps zs:=λzs d=>by
  have N:∀lo hi,wu ps (iY L lo hi):=λlo hi=>#[λz d=>u.mem z (anu d),Nat.lt_of_le_of_lt anv u.few]
  rcases cC.mp d with rfl|d
  .exact N _ _
  rcases cC.mp d with rfl|d
  .exact N _ _
  .exact A zs d
 generalize iY L (aa 1) ao::iY L ao (aa (-1))::f=i at H j
 obtain⟨y,w,g,lo⟩:=adh (b:=b) (du:=du) l I G (aa (.im (sD L))) (aa (.ow (sD T))) (aa (.im (.list (i.map sD)))) i (aa (.ow (sD T))) v9 v10 j
 have s5:iD (iV (aN 8)) (bZ 9) (GQ c0) (gE b n du bd ds (aa (.im (sD L))) (aa (.ow (sD T))) (aa (.ow (sD T))) (aa (.ow (.list (i.map sD)))) v9 v10) C'=aa (.nx,gE b n du bd ds (aa (.im (sD L))) (aa (.ow (sD T))) y (aa (.im (.list (i.map sD)))) w g,C'):=(uv (Bt (r:=.im (.list (i.map sD))) rfl rfl rfl)).trans lo
 refine#[C',aa (.ow (sD T)),y,aa (.im (.list (i.map sD))),w,g,?_,D,l]
 rw[h] at H;unfold GX;simp only[bV,hT,U,s3,H,s5]
theorem ack(p:0<ds)(o:du=iG bd ds ps)(j:b<n):∀(l:List (List Str))(k:Nat)(C:Ce)(v5 v6 v7 v8 v9 v10:Option Vl),(∀L∈l,L∈du)->Book c0 C n qs ps->Bl Ln C b (k+l.length)->∃C' q y w v u i,mZ (bZ 5) (GX c0) (l.map sD) (gE b n du bd ds v5 v6 v7 v8 v9 v10) C=aa (.nx,gE b n du bd ds q y w v u i,C')/\Bl Ln C' b k/\Book c0 C' n qs ps
 |[],k,C,v5,v6,v7,v8,v9,v10,_,B,h=>#[C,v5,v6,v7,v8,v9,v10,rfl,h,B]
 |L::l,k,C,v5,v6,v7,v8,v9,v10,hl,B,h=>by
  obtain⟨C1,a,c,d,e,f,st,h1,t⟩:=alO (k:=k+l.length) B p o (hl L cR) h j (aa (.im (sD L))) v6 v7 v8 v9 v10
  obtain⟨C2,g,a,c,d,e,f,s,h2,r⟩:=ack p o j l k C1 (aa (.im (sD L))) a c d e f (λx m=>hl x (dI _ m)) t h1
  exact#[C2,g,a,c,d,e,f,by rw[cM,wV (e1:=gE b n du bd ds (aa (.im (sD L))) v6 v7 v8 v9 v10) rfl st,s],h2,r]
theorem apd(B:Book c0 C n qs ps)(l:0<ds)(o:b<n)(h:Bl Ln C b (k+20)):∃C',Hj c0 [.ce b,.ce n,.im (.list ((iG bd ds ps).map sD)),.im (.int bd),.im (.int ds)] C=aa (.im (.bool aq),C')/\Bl Ln C' b k/\Book c0 C' n qs ps:=by
 have t:=ael (bd:=bd) (ds:=ds) (ps:=ps);have r:=B.ok.few
 obtain⟨C',d,i,g,f,e,a,lo,h',j⟩:=ack (du:=iG bd ds ps) (k:=k) l rfl o (iG bd ds ps) C ao ao ao ao ao ao (λ_ m=>m) B (h.mono aD)
 have c:=Um (bd:=bd) j l (zs:=[]) (λ_ m=>nomatch m) aP;rw[m7 λm=>by have:=(B.pap.NZ m).1;exact absurd this aP] at c;have c:wK c0 [.ce n,.im (.int bd),.im (.int ds),.im (.list [])] C'=aa (.im (.bool aH),C'):=c
 refine#[C',mC (gE b n (iG bd ds ps) bd ds ao ao ao ao ao ao) rfl rfl ?_ rfl (h.eq h'),h',j]
 have s1:iD (iV (aN 2)) (bZ 5) (GX c0) (gE b n (iG bd ds ps) bd ds ao ao ao ao ao ao) C=aa (.nx,gE b n (iG bd ds ps) bd ds d i g f e a,C'):=(uv (Bt rfl rfl rfl)).trans lo;have q:eV (bA JL (aX (cV (wK c0) (aF (aN 1) (aF (aN 3) (aF (aN 4) (aF (fQ aQ) aQ)))))) (aX (bN (.bool aH)))) (gE b n (iG bd ds ps) bd ds d i g f e a) C'=aa (.rt (.im (.bool aq)),gE b n (iG bd ds ps) bd ds d i g f e a,C'):=by
  have p:JL (.bool aH) (.bool aH)=aa (.im (.bool aq)):=rfl;unfold gE
  generalize(iG bd ds ps).map sD=s at *
  simp_arith[c,p]
 unfold TJ;simp only[bV,s1,q,pI]
def lS(a:009):Cl:=.lst ((a.map fP).map .dat)
def kY(m:Nat):Nat->List Ci
 |0=>[]
 |k+1=>.cD m::kY (m+1) k
theorem Wi:∀(k m:Nat),(kY m k).length=k
 |0,_=>rfl
 |k+1,m=>by
  show(kY (m+1) k).length+1=k+1
  rw[Wi k]
theorem aeq:∀(k m i:Nat),i<k->(kY m k)[i]?=aa (.cD (m+i))
 |k+1,m,0,_=>rfl
 |k+1,m,i+1,h=>by
  show(kY (m+1) k)[i]?=_
  rw[aeq k (m+1) i aD,show m+1+i=m+(i+1) by lia]
theorem Wj:∀(k m n:Nat),m+k<=n->(kY m k).all (tU n)=aq
 |0,_,_,_=>rfl
 |k+1,m,n,h=>by
  show(decide (m<n)&&(kY (m+1) k).all (tU n))=aq
  rw[gq aD,Wj k (m+1) n aD];rfl
theorem aft:∀(l:List (List Str))(C:Ce),mG (l.map tW) C=(kY C.length l.length,C++l.map lS)
 |[],C=>by rw[sG,sG,jt];rfl
 |a::l,C=>by
  show(Ci.cD C.length::(mG (l.map tW) (C++[lS a])).1,(mG (l.map tW) (C++[lS a])).2)=_
  rw[aft l (C++[lS a]),eG,iK];rfl
section
variable{C:Ce}{l:List (List Str)}
def pH(C:Ce)(l:List (List Str)):Ce:=C++l.map lS++[.lst (kY C.length l.length)]
theorem Xo:(pH C l).length=C.length+l.length+1:=by
 unfold pH;rw[eG,eG,bC];rfl
theorem afu(h:i<C.length):(pH C l)[i]?=C[i]?:=by
 unfold pH;rw[iK,gK h]
theorem Xp(h:i<l.length):∃a∈l,(pH C l)[C.length+i]?=aa (lS a)/\l[i]?=aa a:=by
 have e:l[i]?=aa l[i]:=qR h
 refine#[_,ym h,?_,e]
 unfold pH;rw[iK,gh aD,show C.length+i-C.length=i by lia,gK (by rw[bC];exact h),jr,e];rfl
theorem Xq:(pH C l)[C.length+l.length]?=aa (.lst (kY C.length l.length)):=by
 unfold pH;rw[gh (by rw[eG,bC];exact bQ _),eG,bC,pK];rfl
theorem ape(h:jj C):jj (pH C l):=λi c hi=>by
 rw[Xo];by_cases h1:i<C.length
 .rw[afu h1] at hi;exact Nh aD (h i c hi)
 .by_cases h2:i<C.length+l.length
  .obtain⟨a,_,e,_⟩:=Xp (C:=C) (l:=l) (i:=i-C.length) aD
   rw[show C.length+(i-C.length)=i by lia,hi] at e;cases e;refine jT.mpr λx f=>?_
   obtain⟨d,_,rfl⟩:=eO.mp f
   rfl
  .have b:=(jk.mp hi).1;rw[Xo] at b;have:i=C.length+l.length:=aD;subst this;rw[Xq] at hi;cases hi;exact Wj _ _ _ aD
theorem adk:∀{l:List (List Str)}{m:Nat},(∀i a,l[i]?=aa a->look (m+i)=aa (G a))->rM look (kY m l.length)=aa (l.map G)
 |[],_,_=>rfl
 |a::l,m,h=>by
  show(look m).bind (λd=>(rM look (kY (m+1) l.length)).bind λds=>aa (d::ds))=_
  rw[show look m=aa (G a) from h 0 a rfl,adk (G:=G) λi k hi=>by rw[show m+1+i=m+(i+1) by lia];exact h (i+1) k hi];rfl
theorem anw:oJ (pH C l) 0 4 (C.length+l.length)=aa (.list (l.map sD)):=by
 unfold oJ;rw[bG (jJ _),Xq]
 show(rM _ _).map _=_
 rw[adk (G:=sD) λi a hi=>?_]
 .rfl
 .obtain⟨b,_,e,e2⟩:=Xp (C:=C) (l:=l) (i:=i) (jk.mp hi).1
  rw[hi] at e2;cases e2;unfold oJ;rw[bG (jJ _),e]
  show(rM _ _).map _=_
  rw[Wh];rfl
theorem Xr(C:Ce):∀aj:En,JZ aj (aj.map (frC C))=aj
 |[]=>rfl
 |x::e=>by
  rw[cM,JZ,Xr C e];cases x with
  |none=>rfl
  |some y=>cases y<;>rfl
theorem apf{aj:En}{D:Ce}(h:aj[i]?=aa (aa (.ce m)))(a:oJ D 0 4 m=aa d):aZ i (aj.map (frC D)) []=aa (d,aj.map (frC D),[]):=by
 unfold aZ;rw[jr,h]
 show(match(aa ((oJ D 0 4 m).map Vl.im):Option (Option Vl)) with|some (some x)=>_|_=>ao)=_
 rw[a];rfl
theorem afv(h:∀a∈l,∀z∈a,iI z=aq):ye 2 (.list (l.map sD)):=ae8 λd b=>by
 obtain⟨a,e,rfl⟩:=eO.mp b
 exact ae8 λd b=>by
  obtain⟨z,c,rfl⟩:=eO.mp b
  exact aqc (h a e z c)
theorem acn(h:ye e d)(c:e<=64)(a:mX d=aH):jy d d=aa (.im (.bool aH)):=by
 have q:=alm h c a;unfold tK at q;unfold jy;cases hq:xZ d d with
 |none=>rw[hq] at q;cases q
 |some b=>
  rw[hq] at q;have:b=aq:=by injection q with q;injection q with q;injection q
  rw[this];rfl
variable{aj:En}
theorem alP{D:Ce}(d:aj[10]?=aa (aa (.ce m)))(p:aZ 7 (aj.map (frC D)) []=aa (.list (l.map sD),aj.map (frC D),[]))(n:oJ D 0 4 m=aa (.list (l.map sD)))(g:∀a∈l,∀z∈a,iI z=aq)(j:l.length<=100):fZ (pC (jW (jo (aX (tD (qI "list" (aZ 10)))))) (pC (jW (jo (aX (tD (dg uB (cL (aX (eF (iB (aZ 10)) .one dh (DW c0) [])) dw)))))) (Es (eU (bA jy (aZ 10) (aZ 7)))))) (eV (bN (.bool aH))) g8 aj D=aa (.nx,aj,D):=by
 have b:=apf d n;have h:tD (qI "list" (aZ 10)) aj D=aa (.im (.bool aq),aj,D):=by
  unfold tD qI;rw[b];dsimp only;rw[show FZ "list" (.list (l.map sD))=aa aq from rfl];dsimp only;rw[bU,bG #[rfl,rfl]];dsimp only;rw[Xr]
 have v2:tD (dg uB (cL (aX (eF (iB (aZ 10)) .one dh (DW c0) [])) dw)) aj D=aa (.im (.bool aq),aj,D):=by
  have c:gQ .one dh (DW c0) [] (l.map sD) []=aa ((l.map λ_=>aq).map .bool,[]):=by
   rw[eZ];exact qZ sD _ λx _=>#[[sD x],rfl,rfl,.im (.bool aq),[aa (.im (sD x))],rfl,rfl]
  have o:eF (iB (aZ 10)) .one dh (DW c0) [] (aj.map (frC D)) []=aa (.ow (.list ((l.map λ_=>aq).map .bool)),aj.map (frC D),[]):=afR (Ff b rfl) c (by rw[bC,bC];lia) (Dt _);have e:=O5 (l.map λ_=>aq);rw[adf] at e;unfold tD;rw[Nz (sY o rfl) e,bU,yx,bG #[rfl,rfl]];dsimp only;rw[Xr]
 have f:Es (eU (bA jy (aZ 10) (aZ 7))) aj D=aa (aH,D):=by
  unfold Es eU;rw[X3 b p (acn (afv g) aP rfl)];rfl
 have i:jW (jo (aX (tD (qI "list" (aZ 10))))) aj D=aa (aH,D):=by
  unfold jW jo;rw[sY h rfl];rfl
 have k:jW (jo (aX (tD (dg uB (cL (aX (eF (iB (aZ 10)) .one dh (DW c0) [])) dw))))) aj D=aa (aH,D):=by
  unfold jW jo;rw[sY v2 rfl];rfl
 unfold fZ pC;rw[i];dsimp only;rw[k];dsimp only;rw[f];rfl
end
abbrev lE(ns:List Int)(k:Int)(b:Nat)(bd ds:Int)(ps:List Pr)(n:Nat)(du:List (List Str))(s:Str)(v9 v10 v11 bL bO bM:Option Vl):En:=[aa (.sc ns),aa (.im (.int k)),aa (.ce b),aa (.im (.int bd)),aa (.im (.int ds)),aa (.im (.list (ps.map pD))),aa (.ce n),aa (.ow (.list (du.map sD))),aa (.im (.str s)),v9,v10,v11,bL,bO,bM]
structure Mk(C D:Ce)(len i:Nat):Prop where
 ln:D.length=C.length+len+1
 top:D[C.length+len]?=aa (.lst (kY C.length len))
 lo:∀j,j<C.length->D[j]?=C[j]?
 clo:jj D
 mid:∀j,i<=j->j<len->∃es:List aB,D[C.length+j]?=aa (.lst (es.map .dat))/\es.length<=1000
theorem aco:∀(r i a:Nat)(v11:Option Vl)(D:Ce),i+r=len->r<a->Mk C D len i->∃g f,Bv (C.length+len) 11 (Ig c0) a i (lE ns k b bd ds ps n du s v9 (aa (.ce (C.length+len))) v11 bL bO bM) D=aa (.nx,lE ns k b bd ds ps n du s v9 (aa (.ce (C.length+len))) g bL bO bM,f)/\Mk C f len len
 |0,i,a+1,v11,D,h,_,M=>by
  have:i=len:=aD;subst this
  refine#[v11,D,?_,M]
  unfold Bv;rw[M.top]
  show(aa (kY C.length i)).bind _=_
  rw[bU,Gs (by rw[Wi];exact bQ _)]
 |r+1,i,a+1,v11,D,h,hf,M=>by
  obtain⟨es,l,q⟩:=M.mid i (bQ _) aD
  have p:C.length+i<D.length:=(jk.mp l).1;have st:Ig c0 (lE ns k b bd ds ps n du s v9 (aa (.ce (C.length+len))) (aa (.ce (C.length+i))) bL bO bM) D=aa (.nx,lE ns k b bd ds ps n du s v9 (aa (.ce (C.length+len))) (aa (.ce (C.length+i))) bL bO bM,D.set (C.length+i) (.lst (es.map .dat++[.dat (.str (aO "more"))]))):=by
   unfold Ig Bu;dsimp only[KC,KD];rw[l,show kW (aa (.lst (es.map .dat)))=aa (es.map .dat) from rfl,bU,show bN (.str (aO "more")) (lE ns k b bd ds ps n du s v9 (aa (.ce (C.length+len))) (aa (.ce (C.length+i))) bL bO bM) D=aa (.im (.str (aO "more")),lE ns k b bd ds ps n du s v9 (aa (.ce (C.length+len))) (aa (.ce (C.length+i))) bL bO bM,D) from rfl,bU];dsimp only;rw[show zN (.im (.str (aO "more")))=aa (.dat (.str (aO "more"))) from rfl,bU,l,show kW (aa (.lst (es.map .dat)))=aa (es.map .dat) from rfl,bU,bG (by rw[bC];show _<1000000;lia)];rfl
  have M2:Mk C (D.set (C.length+i) (.lst (es.map .dat++[.dat (.str (aO "more"))]))) len (i+1):=by
   refine#[by rw[wD];exact M.ln,by rw[qT aD];exact M.top,λj o=>by rw[qT aD];exact M.lo j o,M.clo.set _ ?_,λj h1 h2=>?_]
   .refine jT.mpr λx c=>?_
    rcases dU.mp c with c|c
    .obtain⟨d,_,rfl⟩:=eO.mp c
     rfl
    .rw[gB.mp c];rfl
   .rw[qT aD];exact M.mid j aD h2
  obtain⟨w,f,e,m⟩:=aco (v9:=v9) (bL:=bL) (bO:=bO) (bM:=bM) r (i+1) a (aa (.ce (C.length+i))) _ aD aD M2
  refine#[w,f,?_,m]
  unfold Bv;rw[M.top]
  show(aa (kY C.length len)).bind _=_
  rw[bU,aeq _ _ _ aD];dsimp only[CT,aah,air];rw[st];exact e
theorem aer(B:Book c0 C n qs ps)(A:0<ds)(h:du=iG bd ds ps)(v9 v10 v11 bL bO bM:Option Vl):∃C' p d,Ng c0 (lE ns k b bd ds ps n du s v9 v10 v11 bL bO bM) C=aa (.nx,lE ns k b bd ds ps n du s v9 p d bL bO bM,C')/\C.length<=C'.length/\(∀j,j<C.length->C'[j]?=C[j]?)/\jj C':=by
 have sp:=Vq (bd:=bd) B A;rw[<-h] at sp;have y:=B.ok.few;have q:=ael (bd:=bd) (ds:=ds) (ps:=ps);rw[<-h] at q;have E:qs.length=ps.length:=B.pap.perm.length_eq;have ok:∀a∈du,(∀z∈a,iI z=aq)/\a.length<=10:=λa f=>by
  have i:=B.pap.NZ (by rw[<-h];exact f)
  refine#[λz t=>?_,?_]
  .obtain⟨o,u,e⟩:=eO.mp (i.2.2.2 z t)
   rw[<-e];exact Fv (B.ok.one o (B.pap.perm.mem_iff.mp u)).nm
  .have:=V5 i.2.2.1 i.2.2.2;rw[bC] at this;lia
 have s1:Qs 10 (wO c0) (aF (aN 6) (aF (aN 3) (aF (aN 4) aQ))) (lE ns k b bd ds ps n du s v9 v10 v11 bL bO bM) C=aa (.nx,lE ns k b bd ds ps n du s v9 (aa (.ce (C.length+du.length))) v11 bL bO bM,pH C du):=by
  unfold Qs;rw[show aF (aN 6) (aF (aN 3) (aF (aN 4) aQ)) (lE ns k b bd ds ps n du s v9 v10 v11 bL bO bM) C=aa ([.ce n,.im (.int bd),.im (.int ds)],lE ns k b bd ds ps n du s v9 v10 v11 bL bO bM,C) from rfl,bU];dsimp only;rw[bG (show[Vl.ce n,.im (.int bd),.im (.int ds)].all Zh=aq from rfl),sp,bU];dsimp only;rw[show Rf (.ow (.list (du.map sD)))=aa du from Js du,bU,bG (by rw[h];exact aqw),aft];dsimp only;rw[eG,bC];rfl
 have look:oJ (pH C du) 0 4 (C.length+du.length)=aa (.list (du.map sD)):=anw;have r:=alP (c0:=c0) (l:=du) (D:=pH C du) (aj:=lE ns k b bd ds ps n du s v9 (aa (.ce (C.length+du.length))) v11 bL bO bM) (m:=C.length+du.length) rfl rfl look (λa f=>(ok a f).1) aD;have w:Mk C (pH C du) du.length 0:=⟨Xo,Xq,λj g=>afu g,ape B.clo,λj _ g=>by
  obtain⟨a,f,e,_⟩:=Xp (C:=C) g
  exact⟨a.map .str,e,by rw[bC];have:=(ok a f).2;lia⟩⟩
 obtain⟨d,D,lo,M⟩:=aco (c0:=c0) (ns:=ns) (k:=k) (b:=b) (bd:=bd) (ds:=ds) (ps:=ps) (n:=n) (du:=du) (s:=s) (v9:=v9) (bL:=bL) (bO:=bO) (bM:=bM) du.length 0 100000 v11 (pH C du) (Hs _) aD w
 have x:JN 10 11 (Ig c0) (lE ns k b bd ds ps n du s v9 (aa (.ce (C.length+du.length))) v11 bL bO bM) (pH C du)=aa (.nx,lE ns k b bd ds ps n du s v9 (aa (.ce (C.length+du.length))) d bL bO bM,D):=lo;have v:Bu 10 (fQ aQ) (lE ns k b bd ds ps n du s v9 (aa (.ce (C.length+du.length))) d bL bO bM) D=aa (.nx,lE ns k b bd ds ps n du s v9 (aa (.ce (C.length+du.length))) d bL bO bM,Am (D++[Cl.lst []]) (C.length+du.length) (Cl.lst (kY C.length du.length++[Ci.cD D.length]))):=by
  unfold Bu;dsimp only[KC,KD];rw[M.top,show kW (aa (.lst (kY C.length du.length)))=aa (kY C.length du.length) from rfl,bU,show fQ aQ (lE ns k b bd ds ps n du s v9 (aa (.ce (C.length+du.length))) d bL bO bM) D=aa (.ow (.list []),lE ns k b bd ds ps n du s v9 (aa (.ce (C.length+du.length))) d bL bO bM,D) from rfl,bU];dsimp only;rw[show zN (.ow (.list []))=aa (.lst []) from rfl,bU,M.top,show kW (aa (.lst (kY C.length du.length)))=aa (kY C.length du.length) from rfl,bU,bG (by rw[Wi];show _<1000000;lia)];rfl
 have F:=M.ln
 refine#[Am (D++[Cl.lst []]) (C.length+du.length) (Cl.lst (kY C.length du.length++[Ci.cD D.length])),aa (.ce (C.length+du.length)),d,?_,by rw[wD,eG];lia,λj g=>?_,(M.clo.app (c:=.lst []) rfl).set _ ?_]
 .unfold Ng;simp only[bV,s1,r,x,v]
 .rw[qT aD,gK aD];exact M.lo j g
 .show List.all (kY C.length du.length++[Ci.cD D.length]) (tU (D++[Cl.lst []]).length)=aq;rw[ajc,Wj _ _ _ (by rw[eG];lia)]
  show(decide (D.length<(D++[Cl.lst []]).length)&&aq)=aq
  rw[gq (by rw[eG];exact zW _)];rfl
section
variable{c0:az}{C:Ce}{n b:Nat}{bd ds:Int}{qs ps:List Pr}{du:List (List Str)}{ns:List Int}{k:Int}{s:Str}
theorem alQ(h:Cj o):tV 1 423 (qy o):=by
 have b:iH 8 o.pt:=by
  have m:=h.pt;unfold Gf at m;simp only[cC,mQ,or_false] at m;rcases m with e|e|e<;>rw[e]<;>exact zg rfl aP
 have a0:=h.am0;have f:=h.am1;have c:=h.dy0;have g:=h.dy1;refine aom (e:=0) (B:=82) (C:=5) (ds:=[.str o.pt,.int o.am,.str o.ak,.str o.gt,.int o.dy]) (λd a=>?_) (bQ _);simp only[cC,mQ,or_false] at a;rcases a with rfl|rfl|rfl|rfl|rfl
 .exact WR b
 .exact(ad0 a0 aD).mono aP aP
 .exact WR (h.ak.mono aP)
 .exact WR (h.gt.mono aP)
 .exact(ad0 c aD).mono aP aP
theorem aes{α:Type}{D:α->aB}(h:∀a,jX (D a)=aq):∀l:List α,qG (l.map D)=aq
 |[]=>rfl
 |a::l=>by
  show(jX (D a)&&qG (l.map D))=aq
  rw[h,aes h l];rfl
theorem aj7(b:∀o∈qs,Cj o)(g:qs.length<=10):xj [.list (qs.map qy)]=aa (.im (.str (Uo (qs.map qy)).shown)):=by
 have a:tV 2 (10*(423+2)+3) (.list (qs.map qy)):=amK (e:=1) (B:=423) (C:=10) (λd f=>by
  obtain⟨o,c,rfl⟩:=eO.mp f
  exact alQ (b o c)) (by rw[bC];exact g)
 have h:jX (.list (qs.map qy))=aq:=aes (λ_=>rfl) qs;refine bG ?_;rw[h,a.Zb,gq (jl a.deep aP),gq (jl a.len (by show 10*(423+2)+3<=1000000;decide))];rfl
def kp(qs:List Pr):Str:=(Uo (qs.map qy)).shown
theorem adl(B:Book c0 C n qs ps)(d:ce=cZ c0 (aO "paper_of") 1 (qX c0) (aF (aN 0) aQ))(e:aj[6]?=aa (aa (.ce n))):dg xj (cL (aX (eF (iB (aX (cZ c0 (aO "names") 6 (mj c0) aQ))) .one dh ce [6])) dw) aj C=aa (.im (.str (kp qs)),aj,C):=by
 obtain⟨p,q,r,cN,a⟩:=B.at_
 have g:=B.ok.few;have j:qs.length=ps.length:=B.pap.perm.length_eq;have f:=a.names aD;rw[B.nms] at f;have m:cZ c0 (aO "names") 6 (mj c0) aQ aj C=aa (.ow (.list ((qs.map (·.nm)).map .str)),aj,C):=oE a.bk e aP rfl f rfl;have h:frB [6] aj=[aa (.ce n)]:=by
  unfold frB
  show[((aj[6]?).join).map still]=_
  rw[e];rfl
 have c:gQ .one dh ce [aa (.ce n)] ((qs.map (·.nm)).map .str) C=aa (qs.map qy,C):=by
  rw[eZ];refine qZ (λo:Pr=>fP o.nm) qy λo b=>#[[.str o.nm],rfl,rfl,.im (qy o),[aa (.im (.str o.nm)),aa (.ce n)],?_,rfl]
  rw[d];exact oE a.bk rfl aP rfl (a.paper B.ok.nd (B.pap.perm.mem_iff.mp b)) rfl
 have i:eF (iB (aX (cZ c0 (aO "names") 6 (mj c0) aQ))) .one dh ce [6] aj C=aa (.ow (.list (qs.map qy)),aj,C):=afR (Ff (sY m rfl) rfl) (by rw[h];exact c) (by rw[bC];lia) (N5 (λ_=>rfl) qs);rw[Nz (sY i rfl) (aj7 (λo b=>B.ok.one o (B.pap.perm.mem_iff.mp b)) aD),yx];rfl
theorem anx(B:Book c0 C n qs ps)(f:0<many)(v9 v10 v11 bL:Option Vl):DR c0 (lE ns k b bd ds ps n du s v9 v10 v11 bL (aa (08 low)) (aa (08 many))) C=aa (.nx,lE ns k b bd ds ps n du s v9 v10 v11 bL (aa (08 low)) (aa (08 many)),C):=by
 have sp:=Vq (bd:=low) B f;have dk:=afs (C:=C) (bd:=low) (ds:=many) B.ok;have j:=acn (afv (l:=iG low many ps) λa g z h=>by
  obtain⟨o,i,e⟩:=eO.mp ((B.pap.NZ g).2.2.2 z h)
  rw[<-e];exact Fv (B.ok.one o (B.pap.perm.mem_iff.mp i)).nm) aP rfl
 have d:rG (.int 10) (.int 9)=aa (08 1000000000):=rfl;unfold lE
 generalize(iG low many ps).map sD=X at *
 generalize du.map sD=Y at *;unfold DR;by_cases c:low<=1000000000
 .simp_arith[d,c,sp,dk,j]
 .simp_arith[d,c]
theorem adm(B:Book c0 C n qs ps)(v9 v10 v11 bL:Option Vl):∀(l:List (Int×Int))(bO bM:Option Vl),(∀p∈l,0<p.2)->∃d e,mZ (nD 2 (cU (bZ 13) (cU (bZ 14) mY))) (DR c0) (l.map λp=>.tuple [.int p.1,.int p.2]) (lE ns k b bd ds ps n du s v9 v10 v11 bL bO bM) C=aa (.nx,lE ns k b bd ds ps n du s v9 v10 v11 bL d e,C)
 |[],bO,bM,_=>#[bO,bM,rfl]
 |p::l,bO,bM,h=>by
  have st:=anx (ns:=ns) (k:=k) (b:=b) (bd:=bd) (ds:=ds) (du:=du) (s:=s) B (low:=p.1) (h p cR) v9 v10 v11 bL
  obtain⟨a,c,f⟩:=adm B v9 v10 v11 bL l (aa (.im (.int p.1))) (aa (.im (.int p.2))) λq m=>h q (dI _ m)
  exact#[a,c,by rw[cM,wV (e1:=lE ns k b bd ds ps n du s v9 v10 v11 bL (aa (.im (.int p.1))) (aa (.im (.int p.2)))) rfl st,f]]
end
theorem ins_map(f:α->β)(x:α):∀l:List α,(ins (λa b=>lt (f a) (f b)) x l).map f=ins lt (f x) (l.map f)
 |[]=>rfl
 |y::l=>by
  rw[cM];unfold ins;split
  .rw[cM,ins_map f x l]
  .rfl
theorem acp(f:α->β):∀l:List α,(dW (λa b=>lt (f a) (f b)) l).map f=dW lt (l.map f)
 |[]=>rfl
 |x::l=>by
  show(ins _ x (dW _ l)).map f=ins lt (f x) (dW lt (l.map f))
  rw[ins_map,acp f l]
theorem aqH(c:zH ps):∃qs,gJ qs ps/\dW strLt (ps.map (·.nm))=qs.map (·.nm):=by
 have p:=pM (lt:=λa b:Pr=>strLt a.nm b.nm) ps;have m:=acp (lt:=strLt) (λp:Pr=>p.nm) ps
 refine#[dW (λa b=>strLt a.nm b.nm) ps,#[p,?_,?_,λo d=>(c.one o (p.mem_iff.mp d)).am0],m.symm]
 .rw[m];exact Ia uG λ_ _=>trivial
 .exact(p.map _).nodup_iff.mpr c.nd
theorem Book.grow(B:Book c0 C n qs ps)(h:∀j,j<C.length->D[j]?=C[j]?)(b:jj D):Book c0 D n qs ps:=by
 obtain⟨p,q,r,cN,a⟩:=B.at_
 exact#[#[p,q,r,cN,a.ext h b],B.ok,B.pap,B.nms]
theorem Bl.grow(h:Bl L C b k)(c:∀j,j<C.length->D[j]?=C[j]?)(d:jj D):Bl D.length D b k:=by
 obtain⟨⟨_,x,y,z,e,h1,h2,a⟩,_⟩:=h
 exact#[#[rfl,x,y,z,by rw[c b (jk.mp e).1];exact e,h1,h2,a],d]
theorem anz(B:Book c0 C n qs ps)(r:Bl Ln C b j)(p:0<ds)(e:du=iG bd ds ps)(v9 v10 v11 bL bO bM:Option Vl):∃C' u a c,iD (uU (cI 2)) (bZ 9) (Ng c0) (lE ns k b bd ds ps n du s v9 v10 v11 bL bO bM) C=aa (.nx,lE ns k b bd ds ps n du s u a c bL bO bM,C')/\Book c0 C' n qs ps/\Bl C'.length C' b j:=by
 obtain⟨C1,o,l,e1,v,d,h⟩:=aer (ns:=ns) (k:=k) (b:=b) (s:=s) B p e (aa (08 0)) v10 v11 bL bO bM
 have i:=B.grow d h;have h1:=r.grow d h
 obtain⟨C2,q,t,e2,w,f,g⟩:=aer (ns:=ns) (k:=k) (b:=b) (s:=s) i p e (aa (08 1)) o l bL bO bM
 refine#[C2,aa (08 1),q,t,?_,i.grow f g,h1.grow f g]
 refine(uv (ae1 (m:=2) (e1:=lE ns k b bd ds ps n du s v9 v10 v11 bL bO bM) (C1:=C) rfl aP aP)).trans ?_
 rw[show qH 0 (2:Int).toNat=[.int 0,.int 1] from rfl,wV (e1:=lE ns k b bd ds ps n du s (aa (08 0)) v10 v11 bL bO bM) rfl e1,wV (e1:=lE ns k b bd ds ps n du s (aa (08 1)) o l bL bO bM) rfl e2];rfl
theorem anA(h:Bl Ln C b (j+10)):∃(bd ds:Int)(C':Ce),(∀v3 v4 v5 v6 v7 v8 v9 v10 v11 bL bO bM:Option Vl,dY 3 (bA fY (aX (fQ (aF (bN (.int 0)) (aF (bN (.int 1)) (aF (bA dM (cI 2) (aX (cV gr (aF (aN 2) (aF (bN (.int 60)) aQ))))) (aF (bA dM (cI 1) (aX (cV gr (aF (aN 2) (aF (bA rG (cI 10) (cI 9)) aQ))))) (aF (bA rG (cI 10) (cI 9)) aQ))))))) (aX (cV gr (aF (aN 2) (aF (bN (.int 5)) aQ))))) [aa (.sc ns),aa (.im (.int k)),aa (.ce b),v3,v4,v5,v6,v7,v8,v9,v10,v11,bL,bO,bM] C=aa (.nx,[aa (.sc ns),aa (08 k),aa (.ce b),aa (08 bd),v4,v5,v6,v7,v8,v9,v10,v11,bL,bO,bM],C'))/\0<=bd/\bd<=1000000000/\Bl Ln C' b (j+7):=by
 obtain⟨n,C1,e1,x1,o,h1⟩:=mq (m:=60) (k:=j+9) h aP aP
 obtain⟨i,C2,e2,x2,p,h2⟩:=mq (m:=1000000000) (k:=j+8) h1 aP aP
 obtain⟨q,C3,d,l,g,f⟩:=mq (m:=5) (k:=j+7) h2 aP aP
 obtain⟨v,c,a⟩:=Ju (xs:=[0,1,2+n,1+i,1000000000]) l g
 have e:rG (.int 10) (.int 9)=aa (08 1000000000):=rfl;simp only[cM,sG] at a;simp only[cC,mQ,or_false] at c
 refine#[v,0,C3,λv3 v4 v5 v6 v7 v8 v9 v10 v11 bL bO bM=>?_,aD,aD,f]
 simp_arith[e1,e2,d,a,e]
theorem apg(h:Bl Ln C b (j+7)):∃(ds:Int)(C':Ce),(∀v3 v4 v5 v6 v7 v8 v9 v10 v11 bL bO bM:Option Vl,dY 4 (bA fY (aX (fQ (aF (bN (.int 1)) (aF (bN (.int 2)) (aF (bA dM (cI 1) (aX (cV gr (aF (aN 2) (aF (bN (.int 9)) aQ))))) (aF (bA dM (cI 1) (aX (cV gr (aF (aN 2) (aF (bN (.int 70)) aQ))))) (aF (bA dM (cI 1) (aX (cV gr (aF (aN 2) (aF (bN (.int 99998)) aQ))))) aQ))))))) (aX (cV gr (aF (aN 2) (aF (bN (.int 5)) aQ))))) [aa (.sc ns),aa (.im (.int k)),aa (.ce b),v3,v4,v5,v6,v7,v8,v9,v10,v11,bL,bO,bM] C=aa (.nx,[aa (.sc ns),aa (08 k),aa (.ce b),v3,aa (08 ds),v5,v6,v7,v8,v9,v10,v11,bL,bO,bM],C'))/\0<ds/\Bl Ln C' b (j+3):=by
 obtain⟨q,C1,e1,x1,s,h1⟩:=mq (m:=9) (k:=j+6) h aP aP
 obtain⟨p,C2,e2,x2,t,h2⟩:=mq (m:=70) (k:=j+5) h1 aP aP
 obtain⟨g,C3,f,w,u,i⟩:=mq (m:=99998) (k:=j+4) h2 aP aP
 obtain⟨r,c,o,n,e,l⟩:=mq (m:=5) (k:=j+3) i aP aP
 obtain⟨v,d,a⟩:=Ju (xs:=[1,2,1+q,1+p,1+g]) n e
 simp only[cM,sG] at a;simp only[cC,mQ,or_false] at d
 refine#[v,c,λv3 v4 v5 v6 v7 v8 v9 v10 v11 bL bO bM=>?_,aD,l]
 simp_arith[e1,e2,f,o,a]
theorem aph(B:Book c0 C n qs ps)(u:0<ds)(v9 v10 v11 bL bO bM:Option Vl):∃a d c:Option Vl,bV (dY 12 (fQ (aF (dX (aF (bA dM (aZ 3) (cI 1)) (aF (aN 4) aQ))) (aF (dX (aF (dg ur (cL (cI 0) (cL (aX (bA yW (aZ 3) (cI 1))) dw))) (aF (aN 4) aQ))) (aF (dX (aF (aN 3) (aF (bA dM (aZ 4) (cI 1)) aQ))) (aF (dX (aF (bA qw (aZ 3) (cI 2)) (aF (aN 4) aQ))) aQ)))))) (bV (iD (ql (bA dM (aZ 12) (aX (fQ (aF (dX (aF (aN 3) (aF (aN 4) aQ))) aQ))))) (nD 2 (cU (bZ 13) (cU (bZ 14) mY))) (DR c0)) (fZ (eU (bA jy (aX (dg xj (cL (aX (eF (iB (aX (cZ c0 (aO "names") 6 (mj c0) aQ))) .one dh (Nf c0) [6])) dw))) (aZ 8))) (eV (bN (.bool aH))) g8)) (lE ns k b bd ds ps n du (kp qs) v9 v10 v11 bL bO bM) C=aa (.nx,lE ns k b bd ds ps n du (kp qs) v9 v10 v11 a d c,C):=by
 have fd:qw (.int bd) (.int 2)=aa (08 (bd / 2)):=fdiv_eq aP aP
 obtain⟨i,j⟩:∃i:Int,(if bd-1>0 then bd-1 else 0)=i:=001
 obtain⟨l,f⟩:∃l:List (Int×Int),l=[(bd+1,ds),(i,ds),(bd,ds+1),(bd / 2,ds)]:=001
 obtain⟨a,e⟩:∃a:Option Vl,a=aa (.ow (.list (l.map λp=>.tuple [.int p.1,.int p.2]))):=001
 have s1:dY 12 (fQ (aF (dX (aF (bA dM (aZ 3) (cI 1)) (aF (aN 4) aQ))) (aF (dX (aF (dg ur (cL (cI 0) (cL (aX (bA yW (aZ 3) (cI 1))) dw))) (aF (aN 4) aQ))) (aF (dX (aF (aN 3) (aF (bA dM (aZ 4) (cI 1)) aQ))) (aF (dX (aF (bA qw (aZ 3) (cI 2)) (aF (aN 4) aQ))) aQ))))) (lE ns k b bd ds ps n du (kp qs) v9 v10 v11 bL bO bM) C=aa (.nx,lE ns k b bd ds ps n du (kp qs) v9 v10 v11 a bO bM,C):=by
  rw[e,f];unfold lE;generalize du.map sD=Y;simp_arith[fd,ur,j]
 have it:ql (bA dM (aZ 12) (aX (fQ (aF (dX (aF (aN 3) (aF (aN 4) aQ))) aQ)))) (lE ns k b bd ds ps n du (kp qs) v9 v10 v11 a bO bM) C=aa ((l++[(bd,ds)]).map λp=>.tuple [.int p.1,.int p.2],lE ns k b bd ds ps n du (kp qs) v9 v10 v11 a bO bM,C):=by
  refine XX (r:=.ow (.list ((l++[(bd,ds)]).map λp=>.tuple [.int p.1,.int p.2]))) ?_ rfl rfl;have m:dM (.list (l.map λp=>.tuple [.int p.1,.int p.2])) (.list [.tuple [.int bd,.int ds]])=aa (.ow (.list ((l++[(bd,ds)]).map λp=>.tuple [.int p.1,.int p.2]))):=by
   rw[f];rfl
  rw[e];unfold lE;generalize du.map sD=Y
  generalize(l.map λp=>aba [.int p.1,.int p.2])=X at m⊢
  simp_arith[m]
 obtain⟨d,c,lo⟩:=adm (ns:=ns) (k:=k) (b:=b) (bd:=bd) (ds:=ds) (du:=du) (s:=kp qs) B v9 v10 v11 a (l++[(bd,ds)]) bO bM λp h=>by
  rw[f] at h;simp only[j9,kh,cC,mQ,or_false] at h;rcases h with rfl|rfl|rfl|rfl|rfl<;>show 0<_<;>dsimp only<;>lia
 have o:=(uv (g:=nD 2 (cU (bZ 13) (cU (bZ 14) mY))) (body:=DR c0) it).trans lo;have q:=adl B (aj:=lE ns k b bd ds ps n du (kp qs) v9 v10 v11 a d c) (ce:=Nf c0) rfl rfl;have t:fZ (eU (bA jy (aX (dg xj (cL (aX (eF (iB (aX (cZ c0 (aO "names") 6 (mj c0) aQ))) .one dh (Nf c0) [6])) dw))) (aZ 8))) (eV (bN (.bool aH))) g8 (lE ns k b bd ds ps n du (kp qs) v9 v10 v11 a d c) C=aa (.nx,lE ns k b bd ds ps n du (kp qs) v9 v10 v11 a d c,C):=by
  unfold fZ eU;rw[X3 (sY q rfl) (y:=.str (kp qs)) rfl (Ec _ _),gq rfl];rfl
 refine#[a,d,c,?_]
 simp only[bV,s1,o,t]
theorem anB(Z:jj C)(H:0<=k)(F:k<=100)(v2 v3 v4 v5 v6 v7 v8 v9 v10 v11 bL bO bM:Option Vl):∃(C':Ce)(w2 w3 W Q w6 w7 w8 l d a h f g:Option Vl),Ih c0 [aa (.sc ns),aa (.im (.int k)),v2,v3,v4,v5,v6,v7,v8,v9,v10,v11,bL,bO,bM] C=aa (.nx,[aa (.sc ns),aa (08 k),w2,w3,W,Q,w6,w7,w8,l,d,a,h,f,g],C')/\jj C':=by
 refine hide λGG gg=>?_
 obtain⟨x,y,e1,x0⟩:=aoV (C:=C) (ns:=ns) H F
 have M:=X5 (y:=y) C Z x0
 obtain⟨b,J⟩:∃b,b=C.length:=001
 obtain⟨C1,o⟩:∃C1:Ce,C1=C++[inC [x,y,0]]:=001
 have s1:FW 2 (cV Ef (aF (aN 0) (aF (aN 1) aQ))) [aa (.sc ns),aa (.im (.int k)),v2,v3,v4,v5,v6,v7,v8,v9,v10,v11,bL,bO,bM] C=aa (.nx,[aa (.sc ns),aa (08 k),aa (.ce b),v3,v4,v5,v6,v7,v8,v9,v10,v11,bL,bO,bM],C1):=by
  rw[J,o];unfold FW;have:cV Ef (aF (aN 0) (aF (aN 1) aQ)) [aa (.sc ns),aa (.im (.int k)),v2,v3,v4,v5,v6,v7,v8,v9,v10,v11,bL,bO,bM] C=aa (.ow (.list [.int x,.int y,.int 0]),[aa (.sc ns),aa (08 k),v2,v3,v4,v5,v6,v7,v8,v9,v10,v11,bL,bO,bM],C):=by
   simp_arith[e1]
  rw[this];rfl
 rw[<-o,<-J] at M
 obtain⟨bd,_,C2,T,b0,O,z⟩:=anA (ns:=ns) (k:=k) (j:=799990) M
 obtain⟨ds,C3,s3,E,w⟩:=apg (ns:=ns) (k:=k) (j:=799990) z
 obtain⟨ps,e,e4,t,B⟩:=alF (j:=799900) (bd:=bd) (w.mono aP) b0 O
 obtain⟨i,p,q,r,cN,K,m,fr⟩:=ao4 (c0:=c0) (C:=e) B.clo t
 obtain⟨qs,P,G⟩:=aqH t
 have D:Book c0 i e.length qs ps:=#[#[p,q,r,cN,m],t,P,G]
 have Kv:=B.grow fr m.clo;have L:b<e.length:=by
  have:=B.box.1;rw[this,J];exact zW _
 obtain⟨n,hn⟩:∃n,n=e.length:=001
 rw[<-hn] at D L K
 obtain⟨du,I⟩:∃du,du=iG bd ds ps:=001
 have u:=afs (C:=i) (bd:=bd) (ds:=ds) t;rw[<-I] at u;have s4:dY 5 (cV HN (aF (aN 2) (aF (aN 3) aQ))) [aa (.sc ns),aa (.im (.int k)),aa (.ce b),aa (.im (.int bd)),aa (.im (.int ds)),v5,v6,v7,v8,v9,v10,v11,bL,bO,bM] C3=aa (.nx,[aa (.sc ns),aa (08 k),aa (.ce b),aa (08 bd),aa (08 ds),aa (.ow (.list (ps.map pD))),v6,v7,v8,v9,v10,v11,bL,bO,bM],e):=by
  simp_arith[e4]
 have s5:JM 6 (Eg c0) (aF (aN 5) aQ) [aa (.sc ns),aa (.im (.int k)),aa (.ce b),aa (.im (.int bd)),aa (.im (.int ds)),aa (.ow (.list (ps.map pD))),v6,v7,v8,v9,v10,v11,bL,bO,bM] e=aa (.nx,[aa (.sc ns),aa (08 k),aa (.ce b),aa (08 bd),aa (08 ds),aa (.im (.list (ps.map pD))),aa (.ce n),v7,v8,v9,v10,v11,bL,bO,bM],i):=by
  unfold JM;rw[show aF (aN 5) aQ [aa (.sc ns),aa (08 k),aa (.ce b),aa (08 bd),aa (08 ds),aa (.ow (.list (ps.map pD))),v6,v7,v8,v9,v10,v11,bL,bO,bM] e=aa ([.im (.list (ps.map pD))],[aa (.sc ns),aa (08 k),aa (.ce b),aa (08 bd),aa (08 ds),aa (.im (.list (ps.map pD))),v6,v7,v8,v9,v10,v11,bL,bO,bM],e) from rfl,bU];dsimp only;rw[K];rfl
 have s6:p8 [7,8] (lK (cV Bm (aF (aN 5) (aF (aN 3) (aF (aN 4) aQ)))) (lK (dg xj (cL (aX (eF (iB (aX (cZ c0 (aO "names") 6 (mj c0) aQ))) .one dh (We c0) [6])) dw)) aQ)) [aa (.sc ns),aa (.im (.int k)),aa (.ce b),aa (.im (.int bd)),aa (.im (.int ds)),aa (.im (.list (ps.map pD))),aa (.ce n),v7,v8,v9,v10,v11,bL,bO,bM] i=aa (.nx,lE ns k b bd ds ps n du (kp qs) v9 v10 v11 bL bO bM,i):=by
  have sh:=adl D (aj:=[aa (.sc ns),aa (08 k),aa (.ce b),aa (08 bd),aa (08 ds),aa (.im (.list (ps.map pD))),aa (.ce n),v7,v8,v9,v10,v11,bL,bO,bM]) (ce:=We c0) rfl rfl;have c:cV Bm (aF (aN 5) (aF (aN 3) (aF (aN 4) aQ))) [aa (.sc ns),aa (.im (.int k)),aa (.ce b),aa (.im (.int bd)),aa (.im (.int ds)),aa (.im (.list (ps.map pD))),aa (.ce n),v7,v8,v9,v10,v11,bL,bO,bM] i=aa (.ow (.list (du.map sD)),[aa (.sc ns),aa (08 k),aa (.ce b),aa (08 bd),aa (08 ds),aa (.im (.list (ps.map pD))),aa (.ce n),v7,v8,v9,v10,v11,bL,bO,bM],i):=by
   generalize ps.map pD=X at u⊢;generalize du.map sD=Y at u⊢;simp_arith[u]
  unfold p8 lK;rw[c];dsimp only;rw[sh];rfl
 obtain⟨C6,l,d,a,U,B6,S⟩:=anz (ns:=ns) (k:=k) (s:=kp qs) D Kv E I v9 v10 v11 bL bO bM
 obtain⟨N,v,A,B7⟩:=apd (k:=700000) B6 E L (S.mono aP)
 rw[<-I] at v;have V:fZ (jW (jo (aX (cV (Hj c0) (aF (aN 2) (aF (aN 6) (aF (aN 7) (aF (aN 3) (aF (aN 4) aQ))))))))) (eV (bN (.bool aH))) g8 (lE ns k b bd ds ps n du (kp qs) l d a bL bO bM) C6=aa (.nx,lE ns k b bd ds ps n du (kp qs) l d a bL bO bM,N):=by
  unfold lE;generalize ps.map pD=X;generalize du.map sD=Y at v⊢;simp_arith[v]
 obtain⟨h,f,g,R⟩:=aph (ns:=ns) (k:=k) (b:=b) (bd:=bd) (du:=du) B7 E l d a bL bO bM
 refine gg #[N,aa (.ce b),aa (08 bd),aa (08 ds),aa (.im (.list (ps.map pD))),aa (.ce n),aa (.ow (.list (du.map sD))),aa (.im (.str (kp qs))),l,d,a,h,f,g,?_,A.clo]
 .exact(seq_eq s1).trans ((seq_eq (T _ _ _ _ _ _ _ _ _ _ _ _)).trans ((seq_eq (s3 _ _ _ _ _ _ _ _ _ _ _ _)).trans ((seq_eq s4).trans ((seq_eq s5).trans ((seq_eq s6).trans ((seq_eq U).trans ((seq_eq V).trans R)))))))
theorem anC(c0:az)(ns:List Int)(K:ns.length<=63):∃C',YQ c0 [.sc ns] []=aa (.im (.bool aq),C'):=by
 obtain⟨m,w⟩:∃m:Int,(if(if(ns.length:Int)<5 then(ns.length:Int) else 5)>1 then(if(ns.length:Int)<5 then(ns.length:Int) else 5) else 1)=m:=001
 have J:0<=m/\m<=5:=by
  rw[<-w];split<;>(try split)<;>lia
 obtain⟨aj,C',e,_⟩:=HH (g:=bZ 1) (body:=Ih c0) (aK:=qH 0 m.toNat) (aj:=aa (.sc ns)::cH 14 ao) (C:=[]) (λi aj C=>(∃x v2 n f l s p j o a b r t v,aj=[aa (.sc ns),x,v2,n,f,l,s,p,j,o,a,b,r,t,v])/\jj C) ⟨⟨_,_,_,_,_,_,_,_,_,_,_,_,_,_,rfl⟩,λi c h=>by cases h⟩ (λi d aj C H A=>by
  obtain⟨⟨x,v2,n,f,l,s,p,j,o,a,b,r,t,v,rfl⟩,B⟩:=A
  obtain⟨rfl,hi⟩:=WQ H
  obtain⟨C',Q,M,L,I,R,P,O,N,z,G,E,D,y,e,q⟩:=anB (c0:=c0) (ns:=ns) (k:=0+(i:Int)) B aD aD v2 n f l s p j o a b r t v
  exact⟨_,.nx,_,C',rfl,e,.inl rfl,⟨_,_,_,_,_,_,_,_,_,_,_,_,_,_,rfl⟩,q⟩)
 have F:(aX (dg ur (cL (cI 1) (cL (aX (dg Bh (cL (cI 5) (cL (aX (xJ 0)) dw)))) dw)))) (aa (.sc ns)::cH 14 ao) []=aa (.int m,aa (.sc ns)::cH 14 ao,[]):=by
  rw[<-w];rfl
 have s1:=(uv (g:=bZ 1) (body:=Ih c0) (ae1 F aD aD)).trans e
 refine#[qe 0 C',?_]
 unfold YQ fN YM;rw[bG (show[Vl.sc ns].length=1 from rfl)];have u:iD (uU (aX (dg ur (cL (cI 1) (cL (aX (dg Bh (cL (cI 5) (cL (aX (xJ 0)) dw)))) dw))))) (bZ 1) (Ih c0) ([Vl.sc ns].map aa++cH (15-[Vl.sc ns].length) ao) []=aa (.nx,aj,C'):=s1;simp only[bV,u];rfl
theorem all_mk{l:aaJ}{w:cG}{h:cg}{H c0:az}(X:K.In h)(G:h.Ns iu mg)(g:mg "law"=aa (.ref H))
  (aC:nG K iu "Book"=aa (aa (.ref c0)))(C:ClsAt K c0)
  (DQ:tY K (.ref c0) "pages"=aa ao)
  (d0:lM K "splits" M8)
  (Z:lM K "is_split" Mm)
  (d2:lM K "alike_papers" Tj)
  (d3:lM K "longest_lists" Di)
  (d4:lM K "names_within" Dk)
  (R:lM K "is_within_another" Gu)
  (d6:MethAt K c0 "__init__" "Book.__init__" W5)
  (d7:MethAt K c0 "now" "Book.now" Yc)
  (d8:MethAt K c0 "turn" "Book.turn" W6)
  (d9:MethAt K c0 "add_part" "Book.add_part" Ue)
  (m:MethAt K c0 "put_paper" "Book.put_paper" T4)
  (d:MethAt K c0 "names" "Book.names" Wa)
  (c:MethAt K c0 "paper_of" "Book.paper_of" Ug)
  (t:MethAt K c0 "has_part" "Book.has_part" Ma)
  (k:MethAt K c0 "need_part" "Book.need_part" T5)
  (A:MethAt K c0 "kept_paper" "Book.kept_paper" Tu)
  (i:MethAt K c0 "keep_paper" "Book.keep_paper" Tv)
  (y:lM K "risen" W7)
  (p:lM K "_law_mix" Yd)
  (u:lM K "_law_left" W8)
  (o:lM K "_law_pick" W9)
  (z:lM K "_law_names" M9)
  (j:lM K "_law_papers" Vg)
  (x:lM K "_law_made" Xa)
  (e:lM K "_law_due" yS)
  (B:lM K "_law_each_right" Lw)
  (n:lM K "law" Fp)
  (Qt:nG K iu "abs"=aa ao)
  (Fq:nG K iu "all"=aa ao)
  (YK:nG K iu "any"=aa ao)
  (U:nG K iu "bool"=aa ao)
  (OD:nG K iu "dict"=aa ao)
  (Q:nG K iu "int"=aa ao)
  (Ad:nG K iu "isinstance"=aa ao)
  (Ft:nG K iu "len"=aa ao)
  (xm:nG K iu "list"=aa ao)
  (M:nG K iu "max"=aa ao)
  (Qv:nG K iu "min"=aa ao)
  (Ed:nG K iu "range"=aa ao)
  (N:nG K iu "repr"=aa ao)
  (vz:nG K iu "sorted"=aa ao)
  (YL:nG K iu "str"=aa ao)
  (Qw:nG K iu "sum"=aa ao)
  (Xb:nG K iu "tuple"=aa ao)
  :∃fd:o5,(∀(s:aR)(v:aG),DY s fd #[[v],[]] [("_law_script",v)])/\∀base:cg,K.In base->base.Ns iu mg->dG l.prog w K mg base dJ 8 H fd ["_law_script"] (Rc K):=by
 have T:Txt K mg c0:=#[C.cls,aa2 X G aC,DQ,oW X G Qt,oW X G Fq,oW X G YK,oW X G U,oW X G OD,oW X G Q,oW X G Ad,oW X G Ft,oW X G xm,oW X G M,oW X G Qv,oW X G Ed,oW X G N,oW X G vz,oW X G YL,oW X G Qw,oW X G Xb]
 refine n.law X G g (λbase f fd F=>?_) (λ_ _ _ _ _ _=>(cP λ_=>(jq rfl)));have Xh:=y.has X G (λf fd F=>am5 (P:=l.prog) (w:=w) (base:=base) F T) (λ_ _ _ _ _ _=>(cP λ_=>(cP λ_=>(jq rfl))));have Xi:=d6.arO (mg:=mg) C (λf fd F=>am6 (P:=l.prog) (w:=w) (base:=base) F T) (λ_ _ _ _ _ _=>(cP λ_=>(jq rfl)));have a:=d7.has (mg:=mg) (λf fd F=>aoS (P:=l.prog) (w:=w) (base:=base) F T) (λ_ _ _ _ _ _=>(cP λ_=>(cP λ_=>(jq rfl))));have E:=d8.has (mg:=mg) (λf fd F=>am7 (P:=l.prog) (w:=w) (base:=base) F T) (λ_ _ _ _ _ _=>(cP λ_=>(cP λ_=>(cP λ_=>(jq rfl)))));have D:=t.has (mg:=mg) (λf fd F=>ajR (P:=l.prog) (w:=w) (base:=base) F T a) (λ_ _ _ _ _ _=>(cP λ_=>(cP λ_=>(jq rfl))));have J:=k.has (mg:=mg) (λf fd F=>ajz (P:=l.prog) (w:=w) (base:=base) F T D) (λ_ _ _ _ _ _=>(cP λ_=>(cP λ_=>(jq rfl))));have Hu:=d9.has (mg:=mg) (λf fd F=>ajS (P:=l.prog) (w:=w) (base:=base) F T Xh a E D J) (λ_ _ _ _ _ _=>(cP λ_=>(cP λ_=>(cP λ_=>(jq rfl)))));have TV:=A.has (mg:=mg) (λf fd F=>ajk (P:=l.prog) (w:=w) (base:=base) F T a) (λ_ _ _ _ _ _=>(cP λ_=>(cP λ_=>(jq rfl))));have V:=i.has (mg:=mg) (λf fd F=>ajl (P:=l.prog) (w:=w) (base:=base) F T a E) (λ_ _ _ _ _ _=>(cP λ_=>(cP λ_=>(cP λ_=>(jq rfl)))));have T8:=m.has (mg:=mg) (λf fd F=>ajA (P:=l.prog) (w:=w) (base:=base) F T a J V) (λ_ _ _ _ _ _=>(cP λ_=>(cP λ_=>(cP λ_=>(cP λ_=>(cP λ_=>(cP λ_=>(cP λ_=>(jq rfl)))))))));have q:=d.has (mg:=mg) (λf fd F=>alC (P:=l.prog) (w:=w) (base:=base) F T a) (λ_ _ _ _ _ _=>(cP λ_=>(jq rfl)));have r:=c.has (mg:=mg) (λf fd F=>ajT (P:=l.prog) (w:=w) (base:=base) F T TV) (λ_ _ _ _ _ _=>(cP λ_=>(cP λ_=>(jq rfl))));have Tq:=d2.has X G (λf fd F=>aja (P:=l.prog) (w:=w) (base:=base) F T q r) (λ_ _ _ _ _ _=>(cP λ_=>(cP λ_=>(jq rfl))));have Tp:=d4.has X G (λf fd F=>ajb (P:=l.prog) (w:=w) (base:=base) F T) (λ_ _ _ _ _ _=>(cP λ_=>(cP λ_=>(cP λ_=>(cP λ_=>(jq rfl))))));have Y:=R.has X G (λf fd F=>ah3 (P:=l.prog) (w:=w) (base:=base) F T) (λ_ _ _ _ _ _=>(cP λ_=>(cP λ_=>(jq rfl))));have Tf:=d3.has X G (λf fd F=>aiX (P:=l.prog) (w:=w) (base:=base) F T Tp Y) (λ_ _ _ _ _ _=>(cP λ_=>(cP λ_=>(cP λ_=>(jq rfl)))));have I:=d0.has X G (λf fd F=>alD (P:=l.prog) (w:=w) (base:=base) F T Tq Tf) (λ_ _ _ _ _ _=>(cP λ_=>(cP λ_=>(cP λ_=>(jq rfl)))));have W:=Z.has X G (λf fd F=>aj6 (P:=l.prog) (w:=w) (base:=base) F T r I) (λ_ _ _ _ _ _=>(cP λ_=>(cP λ_=>(cP λ_=>(cP λ_=>(jq rfl))))));have O2:=p.has X G (λf fd F=>aoT (P:=l.prog) (w:=w) (base:=base) F T) (λ_ _ _ _ _ _=>(cP λ_=>(cP λ_=>(jq rfl))));have Xj:=u.has X G (λf fd F=>am8 (P:=l.prog) (w:=w) (base:=base) F T) (λ_ _ _ _ _ _=>(cP λ_=>(cP λ_=>(jq rfl))));have b:=o.has X G (λf fd F=>am9 (P:=l.prog) (w:=w) (base:=base) F T O2) (λ_ _ _ _ _ _=>(cP λ_=>(cP λ_=>(jq rfl))));have Wf:=z.has X G (λf fd F=>alE (P:=l.prog) (w:=w) (base:=base) F T b) (λ_ _ _ _ _ _=>(cP λ_=>(cP λ_=>(jq rfl))));have L:=j.has X G (λf fd F=>akE (P:=l.prog) (w:=w) (base:=base) F T b Wf) (λ_ _ _ _ _ _=>(cP λ_=>(cP λ_=>(jq rfl))));have S:=x.has X G (λf fd F=>ana (P:=l.prog) (w:=w) (base:=base) F T Xi Hu T8) (λ_ _ _ _ _ _=>(cP λ_=>(jq rfl)));have O:=e.has X G (λf fd F=>aoU (P:=l.prog) (w:=w) (base:=base) F T) (λ_ _ _ _ _ _=>(cP λ_=>(cP λ_=>(cP λ_=>(jq rfl)))));have TX:=B.has X G (λf fd F=>ajm (P:=l.prog) (w:=w) (base:=base) F T q W b) (λ_ _ _ _ _ _=>(cP λ_=>(cP λ_=>(cP λ_=>(cP λ_=>(cP λ_=>(jq rfl)))))))
 exact(aqu F T q r I Xj b L S O TX).imp (aoG λns hl=>anC c0 ns hl)
theorem walk{l:aaJ}{q:dB}{b:009}{d:DefRec}{K:Params->aU}(m:l.most=aa 63)(c:d.params.defaults=[])
  (j:∀(w:cG)(h:cg),YP w h->(K w.params).In h)
  (F:∀(w:cG)(mg:Str->Option aG)(e:az)(h:cg),(K w.params).In h->h.Ns iu mg->mg d.name=aa (.ref e)->
   ∃fd:o5,(∀(s:aR)(u:aG),DY s fd ⟨[u],[]⟩ [("_law_script",u)])/\∀base:cg,(K w.params).In base->base.Ns iu mg->dG l.prog w (K w.params) mg base dJ 8 e fd ["_law_script"] (Rc (K w.params))):
  ajr q b XP YP l.row.toRowW d [] (λf vs=>abz f vs):=
 L2.anV (n:=63) (k:=8) (x:="_law_script") (CX:=λ_=>dJ) (sp:=λw=>Rc (K w.params)) m aP c #[rfl,aP,aP,rfl] j F (λ_ _ a ns i _ g=>#[a,ns,rfl,g,i,rfl]) λ_ _ _ _ _ z=>z
end zQ
namespace PySem.W.Fast
def tw10041483778546665967:=0
def tw10318837858229212927:=0
def tw10415219065112715758:=0
def tw10440519776869512024:=0
def tw10847590107909423795:=0
def tw10873318222921396458:=0
def tw10879040872019941465:=0
def tw11355623214279000467:=0
def tw1138416844810743105:=0
def tw11843085594953360537:=0
def tw12209603141553115526:=0
def tw12527312421779713355:=0
def tw12592988025136780760:=0
def tw1268869453771333549:=0
def tw13222598840197488488:=0
def tw1329766600098676421:=0
def tw13426818693242964426:=0
def tw13922745664362435488:=0
def tw13962708020714794845:=0
def tw14018917849767344361:=0
def tw14239279508680226792:=0
def tw14246372152944706658:=0
def tw14415386842090050054:=0
def tw14590331774610661079:=0
def tw15390211619909446422:=0
def tw15804706817244554895:=0
def tw16119496426604861045:=0
def tw16138126484435196393:=0
def tw16358922789661603520:=0
def tw16499512383995093982:=0
def tw16564967769061199643:=0
def tw16585321201081749311:=0
def tw16711769215831347656:=0
def tw16714834730421628610:=0
def tw16774038396267965699:=0
def tw17016289860518622245:=0
def tw17273266772020464427:=0
def tw17399181138207912821:=0
def tw17404455046935373994:=0
def tw17528574794580304968:=0
def tw17598663884426577843:=0
def tw17600930035793592990:=0
def tw17838996564047090013:=0
def tw17844328347011223445:=0
def tw17849482000424276384:=0
def tw17966050119074048935:=0
def tw1825859935740243433:=0
def tw1942576712387786210:=0
def tw2286390446368754088:=0
def tw2337709441211832584:=0
def tw2575563072040006036:=0
def tw2726634530788866552:=0
def tw2999090167531667886:=0
def tw300987953190457408:=0
def tw3073802100512727989:=0
def tw314045552887490488:=0
def tw314906015847783129:=0
def tw3564675379006978275:=0
def tw3697812215500778618:=0
def tw3896733144646276185:=0
def tw4033838095413429128:=0
def tw4186571385289237080:=0
def tw4353131543420691925:=0
def tw4661097319571999296:=0
def tw4940925213443771984:=0
def tw5052199505161574493:=0
def tw5157106274337029848:=0
def tw5170994883618649279:=0
def tw5422216010580460160:=0
def tw550348831206062147:=0
def tw5971861815923741879:=0
def tw5997366178931828109:=0
def tw6017044874511816766:=0
def tw6419168219776699936:=0
def tw6595749556277721559:=0
def tw6673906315189935646:=0
def tw6768273695734873504:=0
def tw6852199765964534978:=0
def tw7129229269870344548:=0
def tw7275384643537977018:=0
def tw7398052987961136038:=0
def tw7557105368276282467:=0
def tw7595712273482757542:=0
def tw7655476917320408322:=0
def tw7815877292526730228:=0
def tw7818138853111420356:=0
def tw8167901613975851783:=0
def tw838345990630836007:=0
def tw843390212955930397:=0
def tw8563059135825209533:=0
def tw8995652435500743778:=0
def tw9543670231170229018:=0
def tw9576288769073316770:=0
def tw9978229698170755812:=0
end PySem.W.Fast
open PySem PySem.W PyProof.Rows
set_option maxRecDepth 100000 in
set_option maxHeartbeats 0 in
theorem PySem.Challenge.cw_rankseals_k65_split_papers_holds : PySem.Challenge.rw_rankseals_k65_split_papers.Holds := by
 w_on;o_law;k_head;(case hw=>w_witness2)
 k_fill
 refine zQ.walk (l:=PySem.Challenge.rw_rankseals_k65_split_papers) rfl rfl (λw h Y=>PySem.W.kIn_of Y) ?F
 case F=>
  intro w mg fa h KX G hmg
  refine' zQ.all_mk KX G hmg ?_ ?_ ?_ ?_ ?_ ?_ ?_ ?_ ?_ ?_ ?_ ?_ ?_ ?_ ?_ ?_ ?_ ?_ ?_ ?_ ?_ ?_ ?_ ?_ ?_ ?_ ?_ ?_ ?_ ?_ ?_ ?_ ?_ ?_ ?_ ?_ ?_ ?_ ?_ ?_ ?_ ?_ ?_ ?_ ?_ ?_ ?_
  all_goals try first|exact .mk (by k_is) (by k_is) (by k_is) (by k_is)|exact L2.MethAt.mk (by k_is) (by k_is) (by k_is) (by k_is) (by k_is)|exact L2.ClsAt.mk (by k_is) (by k_is) (by k_is) (by k_is) (by k_is) (by k_is)|k_is
