import PyProof.Rows.All
import Wide.All
import OpenK.AllK
import Wide.FinOn
import Lean
import PyProof.EqAt
import PyProof.EqKinds
import PyProof.TupleCall
import PyProof.Rows.IntBool
import KE.KIntText
import PySem.Challenge.RW_rankseals_k23_rows_by_turns
set_option bootstrap.genMatcherCode false
set_option compiler.extract_closed false
set_option Elab.async false
set_option linter.all false
set_option maxRecDepth 100000
set_option maxHeartbeats 4000000
set_option autoImplicit true
set_option backward.eqns.nonrecursive false
set_option tactic.hygienic false
open PySem renaming Value->aL,World->cW,Program->dY,KeyKind->Aa,Heap->cF,Addr->aH,IsTupleKey->Ju,tupleKeyHash->Jm,Around->fB,Shared->bf,wpAny->bH,wpAny_bind->aQ,wpAny_cRoomFor_or->alb,wpAny_specialOf->Cd,wpAny_callSpecialIfBoundUnlessNone?_slot->aj3,wpAny_call_entry->pC,wpAny_ret_mkInt->acB,wpAny_pure->bM,cLine->fJ,wpAny_pyHash_tuple->akZ,wpAny_rule->wZ,wpAny_eqBool_tuple->ak0,eqIsQuiet->W4,wpAny_isInstance->Nj,isSubtype_tuple_tuple->aky,wpAny_seqItems->Ck,wpAny_forIn_list->acr,sizeLine->cG,sysModules->qH,Within->amt,mainGlobals->jA,bootBuiltins->uc,Scope->kI,Drawn->Ds,backTo->jx,starEach->bV,Stmt->dH,wpAny_mono->vq,wpAny_Name->adS,wpAny_loadName_local->akI,wpAny_loadName_cell->akT,standAt->xx,holding->rR,wpAny_truthy_bool->yz,wpAny_execs_nil->Vi,wpAny_execs_cons->aly,swapsWith->p7,assignEach->xj,wpAny_assign_Name->Ng,wpAny_holding->m9,wpAny_standAt->Ab,swapsWithSole->Cp,swappedStores->Cq,wpAny_newObj_type->qD,wpAny_bindName->Nx,PassesOwn->PK,wpAny_passesOwn->Eu,pyNext->ux,letOwnedTupleGo->Ew,pyIter->G6,wpAny_load->Pn,wpAny_pyIter_list->U0,foldedSetIterable->tY,binaryOp->qL,compareOp->iu,behindInMarks->Ff,lastMarks->W6,sizeLine_eq->jV,Result->Dk,FuncData->um,BindsTo->Gu,codeAny->nQ,codeAny_mono->Og,wpAny_Call_Name_kw->Iv,NameKind->CP,cellsFrom->uf,mem_of_lookup->BL,concat_meets->adt,noFill_tuple_add->acs,seq_tuple_add->ade,IsPart->xH,wpAny_field->adI,getItem->Dc,wpAny_sequenceKey->alh,wpAny_callSpecial?_slot->BJ,wpAny_typeOf->Ft,seqIndex_of->adK,seqIndex_neg->adu,subscripted->adL,typeIs_str->adV,sliceBounds->O2,typeIs_int->adW,attributeBase->Fg,backToKw->Qp,keywordEach->O3,Keyword->yP,call_meets->WL,valueAt->J0,atKey->vL,call_meetsIn->adx,callerA->J1,call->adY,compEnvC->XD,pushCells->Gf,newFunctionEnv->Ny,lookup_relabel_local->akJ,compTurn->JC,wpAny_comprehension_free->Ux,exec_Assign_Name_used->akz,Walks->Ay,PyData->az,wpAny_dictSet_pairs->akU,wpAny_pyIter_zip->alD,Builtin->qg,wpAny_newList->NQ,DictEntry->PX,wpAny_pyIter_slot->acn,wpAny_notOrdered_dict->ab0,wpAny_dictEntries->U6,wpAny_dictEpoch->acF,wpAny_attempt->Jk,wpAny_typeNameOfWhole_keyiter->Uq,wpAny_fieldsOf->Jf,wpAny_isOneOf_keyiter->akB,wpAny_setField->Cm,rawInt->mK,firstArgMember->Vs,wpAny_of_eq->adP,wpAny_pyIter_keyiter->akK,codeAny_builtin->wW,plainId_quiet->vf,richCompare->Js,wpAny_loadPart'->sV,richCompare_meets_room->abW,SetTable->CQ,relayAll->Nz,scanBound->ug,wpAny_setState_of->IK,wpAny_storeSet_of->alo,fits_of_scanBound->acp,entryFor->Qx,entryFor_of_tree->alH,wpAny_setEntries_of->M9,wpAny_askSetting->Va,wpAny_ite_split->Vk,pickOrder->Gh,wpAny_setEpoch_of->alp,updateSeq->Xe,wpAny_updateSeq->Nq,strKind->adk,wpAny_Call_method->acq,argBest->qi,wpAny_tryCatch->NB,wpAny_letGo->Wj,wpAny_pyIter_enum->als,getattributeRaised->ak7
open PySem.Value renaming isInt->amQ,isStrOf->al9,isStrOf_shape->akN,bool->oM,ref->fY,none->vp,type->Jv
open Sum renaming inl->qe,inr->lX
open PySem.SeqAt.EqAt renaming int_str->akX,str_int->akY,int_bool->akO,bool_int->akP,str_bool->akQ,bool_str->akR,same->Vh,of_refs->UL,bool_bool->akH,int_int->ak4
open PySem.Builtin.Tuple renaming tupleHashOf->M4,tupleItemsOf->abL,tupleCompareSizes->aj5
open PySem.IsTupleKey renaming inj->acU,keeps->alw
open List renaming mem_cons_self->fV,forIn_cons->Np,mem_cons->cB,range->gQ,mem_range->Cj,range_succ->alP,mem_cons_of_mem->fU,mem_filter->lK,filterMap_cons->akS,mem_append->gP,mem_append_left->pB,getElem?_eq_some_iff->lW,getElem?_set_self->Ir,getElem?_set_ne->yx,set_comm->Vy,mem_filterMap->ak1,mem_append_right->jH,size_toArray->u5,any_eq_false->ald,append_nil->jg,nodup_cons->lM,of_mem_zip->Vj,replicate->fX,length->sW,length_take->yD,getElem?_append_right->uY,getElem?_replicate->aki,getElem?_append_left->uZ,getElem?_map->jN,getElem?_take_of_lt->ake,take_sublist->U5,mem_of_getElem?->pZ,length_append->fW,length_map->bR,length_replicate->Uy,all_cons->Jh,any_cons->adf,replicate_succ->M8,foldl_cons->z7,nil_append->lN,nodup_nil->qG,length_nil->acD,lookup_cons->U8,map_map->dJ,all_eq_true->u6,getElem_of_mem->wQ,getElem?_eq_getElem->mH,getElem_mem->BZ,mem_singleton->jU,not_mem_nil->nM,getD->Gg,ext_getElem->Et,length_range->tZ,map_congr_left->wR,zip_cons_cons->UW,map_cons->dN,mem_map->dG,ext_getElem?->aco,getElem?_eq_none->ab2,pairwise_iff_getElem->M5,pairwise_lt_range->abX,pairwise_append->Uz,getElem_take->alm,pairwise_cons->rM,append_assoc->ie,length_cons->eZ,nodup_append->qF,Sublist->adz,length_set->Ex,length_zip->Jb,getElem?_eq_none_iff->Uv,drop_length->alI,drop_eq_getElem_cons->Uw,sublist_nil->alJ,getElem?_take->ab9,map_id->Wi,map_fst_zip->alK,sum_cons->amg,mem_of_mem_take->Eo,find?_cons->alV,map_append->kj,find?_map->acZ,isEmpty_nil->alL,getElem_map->alN,find?_eq_none->ak6,cons_append->m8,reverse_cons->alu,pairwise_reverse->akE,length_drop->Vc,drop_of_length_le->akv,set_cons_succ->Nf,filter_eq_self->BP,map_take->amq,map_nil->rN,length_filter_le->zZ,length_pos_iff->ab6,getD_eq_getElem?_getD->Ut,map_drop->ams,mem_of_mem_drop->ab5,map_const'->alY,any_eq_true->acA,set_cons_zero->acg,countP_eq_length_filter->aj9,filter_filter->ak9,filter_sublist->akW,getElem?_cons_zero->akp
open Bool renaming false_ne_true->kY,eq_iff_iff->Cg,and_eq_true->lJ,not_eq_true->U9,false_eq_true->BV,not_true->adi,eq_false_iff->alq,not_eq_true'->alr,false_and->adb,not_false->Vx,true_and->Oe,true->aq,false->aR
open PySem.Heap renaming SameBut->vg,lt_size->dj,get?_push_of_some->dF,get?_push_size->ji,get?_update_self->zY,get?_update_other->wO,size_push->yH
open PySem.F renaming slot_bool_hash->alx,slot_tuple_hash->alc,slot_tuple_add->abT,entry_tuple_add->abQ,args_tuple_add_2->abO,slot_list_append->ab8,slot_int_rmul->alQ,slot_dict_get->abZ,entry_dict_get->akr,args_dict_get_3->akj,slot_dict_iter->alE,slot_dict_keyiterator_next->Ur,entry_dict_keyiterator_next->aj7,args_dict_keyiterator_next_1->aj6,plain_list_iadd->akk,slot_tuple_lt->akD,entry_tuple_lt->aks,args_tuple_lt_2->akl,slot_set_iter->alU,plain_extend_loop->akc,plainAttrs_list->akm,type_list_append->akh,plainAttrs_dict->abR,entry_min_loop->abY,plain_min_loop->Iu,slot_dict_items->akn,slot_dict_setdefault->aj8
open Nat renaming lt_of_succ_lt->z6,lt_of_lt_of_le->qz,lt_irrefl->u9,ne_of_lt->fH,le_trans->jw,le_of_lt->wY,ne_of_gt->yJ,le_refl->cH,lt_trans->Cu,zero_le->lO,lt_succ_self->Nm,lt_succ_of_lt->yC,succ_pos->V1,not_lt->WM,le_succ->Ad,zero_add->V2,mul_le_mul_right->akL,succ_le_succ->Vb,not_lt_zero->Ey,mul_le_mul->al2,le_of_ble_eq_true->BK,sub_self->Jo,le_add_right->Ca,min_eq_left->Vo,le_of_succ_le_succ->akx,le_succ_of_le->alv,mul_succ->amP
open Array renaming forIn_toList->ab7,getElem?_eq_getElem->oJ,getElem?_eq_none->abV,getElem?_toList->ab1,getD_eq_getD_getElem?->By,length_toList->p6,toList_push->aln
open PySem.SeqAt renaming RcAt->am7,EqAt->Cz,shaped->jk
open PySem.SeqAt.RcAt renaming tuples->ach
open Ne renaming symm->jW
open PySem.W renaming instObj->acC,Frag->bw,lookIn->acV,plainGet->alz,findIn->alZ,kitOne->z9,kia_one->wU,kitx_none->ale,kitx_bool->alf,kitx_int->alA,kitx_str->alB,kitx_float->ak2,kitx_list->U3,kitx_tuple->ak3,kitx_dict->U4,kitx_own->alC,keepIn->EY,cellsFrom_some->akq,fnOf->Cr,codeIn->Vq,OpenLaw->acE,WalkO->amb,kitAny->Vr,kia_tup->wV,nsIn->pD,mg_of->Vz,mg_none_of->qC
open Option.some renaming inj->nO,injEq->aci
open PySem.Calls renaming Name_function_global->akb,spliced_nil->Iz,spliced_cons->BR,callWith_builtin->abU,evalArgs_plain->ab3,call_function_entry->Uu
open False renaming elim->Pk
open Int renaming mul_one->adH,toNat_natCast->Er,le_refl->Fy,emod_eq_emod_iff_emod_sub_eq_zero->aj4,emod_eq_of_lt->U7,emod_nonneg->yF,emod_lt_of_pos->Iw,ediv_nonneg->alX,le_of_lt->Wf,le_trans->O1,ne_of_lt->Wg
open PySem.Builtin.Range renaming rangeSize->ayV
open PyProof.Rows renaming callWith_type1->Us,callWith_builtin1->abK,slot_tuple_getitem->Uo,boot_zip->ayZ,toString_length_le->ayn,boot_enumerate->ays,evalArgs_none->ayv
open PySem.EqNone renaming eq_none_none->ayw,eq_none_bool->ayx,eq_none_int->ayG,eq_none_str->ayH,eq_bool_none->ayy,eq_int_none->ayI,eq_str_none->ayK,ne_none_none->ayB,ne_none_bool->ayC,ne_none_int->ayM,ne_none_str->ayN,ne_bool_none->ayD,ne_int_none->ayO,ne_str_none->ayQ
open PySem.EqMixed renaming eq_bool_str->ayz,eq_int_str->ayJ,eq_str_bool->ayA,eq_str_int->ayL,ne_bool_str->ayE,ne_int_str->ayP,ne_str_bool->ayF,ne_str_int->ayR
open True renaming intro->qI
open Option renaming isSome_iff_exists->wN,getD_none->Nk,isSome_some->Ep,isSome_map->Nh,map_eq_some_iff->pY,map_some->mU,bind_some->ir,getD_some->IW,none->ud,map_map->Jg,bind_eq_some_iff->sU,map_eq_none_iff->aku,isSome_none->acf,map_none->Vp,isNone_some->ak8,map->ael,some->aa,none->aj
open PySem.Builtin.Slice renaming sliceAdjust->abM,slicePlaces->abN,slicePartIndex->ayo,sliceApplied->ayt
open PySem.Heap.IsSliceOf renaming new->ay0
open PySem.Obj renaming mapSeq->rP,mapFields->amc,isFreed_of_fields->akC,data_mapFields->UT,cls_mapFields->ali,putSet->WQ,data_mapDictKeys->akM
open PySem.Builtin.List renaming listTooLong->akf,listLengthHint->ayq,listExtendWith->aka,listSameRef->abP
open List.Pairwise renaming nil->BW,filterMap->ayW,imp_of_mem->ayT
open Or renaming inl->uz,inr->Aq
open PySem.NameKind renaming free->Ji,cell->vd
open ForInStep renaming yield->alS
open PySem.Code renaming compLoop->Jj
open PySem.Walks renaming list->ad0
open PySem.PyData renaming hasDict->al0,hasDictAll->acj,int->kZ,str->gR,eqv->xq,tuple->vh,depth->vm,showable->Vm,showableAll->ak5,depthAll->yE,shownAll->Jc,shown->vo,shownAll_length->akt,strOk->Oh,canLayAll0->BX,canLay0->yI,eqvAll->NZ,none->am0,list->am6
open PySem.Heap.SameBut renaming refl->ack,update->rK
open PySem.WalksT renaming zip2->amV
open List.Perm renaming refl->Je,of_eq->alT,swap->acY
open List.cons renaming inj->Fi,injEq->acH
open PySem.Builtin.Dict renaming showsAll->akA,pairItems->ayY,selfAndRest->ayU,updateFrom->ako
open PySem.Builtin.Dict_items renaming ownsTuple->ayp
open PySem.AutoSeq1 renaming sub_tuple_tuple->akg
open PySem.Str renaming ofString->gV
open PySem.SetTable.below renaming go->Ni
open PySem.SetTable renaming below->mW,has->amz,slot->ame,grown->Fb
open PySem.SetTable.probe renaming go->alk
open Prod.mk renaming injEq->amf
open PySem.pickOrder renaming go->ady
open PySem.Builtin.Frozenset renaming slot0->ayX,sizeOf->ayS,oneOther->ayu
open List.Sublist renaming refl->IV,append->Nb,map->ay1
open PySem.Around renaming under_plainId->ab4
open PySem.Builtin.Builtins renaming bindParams->ayr
open Classical renaming byContradiction->akd
open Nat.succ renaming inj->Oi
open PySem.PassesOwn renaming never->mV
open Sum.inl renaming inj->am3
theorem bZ{c:Prop}[i:Decidable c](h:c){α:Sort _}{t e:α}:ite c t e=t:=if_pos h
theorem cC{c:Prop}[i:Decidable c](h:¬c){α:Sort _}{t e:α}:ite c t e=e:=if_neg h
theorem f9{p:Prop}[i:Decidable p](h:p):decide p=true:=decide_eq_true h
theorem jz{p:Prop}[i:Decidable p](h:¬p):decide p=false:=decide_eq_false h
noncomputable section
local macro_rules(kind:=Lean.Parser.Command.declaration)
|s=>do
 if s.getPos?.isNone then Lean.Macro.throwUnsupported
 let x←`(command|noncomputable def x:=1)
 let d:=s[1].isOfKind ``Lean.Parser.Command.definition||s[1].isOfKind ``Lean.Parser.Command.abbrev
 let t:=(if d&&s[0].getArgs.all (·.isNone) then s.setArg 0 x.raw[0] else s).rewriteBottomUp (·.setInfo .none)
 if (s.find? (·.isOfKind ``Lean.Parser.Tactic.renameI)).isSome then `(set_option tactic.hygienic true in $(⟨t⟩):command) else return t
theorem bG{p:Prop}(h:p:=by decide +kernel):p:=h
theorem bh{p:Prop}(h:p:=by decide):p:=h
theorem aK{p:Prop}(h:p:=by lia):p:=h
theorem k7{a c:α}{b d:β}(h:Option.some (a,b)=.some (c,d)):a=c∧b=d:=by cases h;exact⟨rfl,rfl⟩
theorem k8{a c:α}{b d:β}{e f:γ}(h:Option.some (a,b,e)=.some (c,d,f)):a=c∧b=d∧e=f:=by cases h;exact⟨rfl,rfl,rfl⟩
local macro_rules
|`(tactic|cases $h:ident)=>`(tactic|first|subst $h|(have k:=Option.some.inj $h;clear $h;subst k)|(have k:=k8 $h;clear $h;rcases k with⟨rfl,rfl,rfl⟩)|(have k:=k7 $h;clear $h;rcases k with⟨rfl,rfl⟩)|contradiction|cases($h))
theorem c3{p:Prop}(h:p:=by grind_order):p:=h
theorem c4{p:Prop}(h:p:=by lia -abstractProof):p:=h
theorem c5{p:Prop}(h:p:=by omega):p:=h
theorem c6{p:Prop}(h:p:=by grind_linarith):p:=h
theorem c8{p:Prop}(h:p:=by grind -abstractProof):p:=h
theorem cg{p:Prop}(h:p:=by simp):p:=h
theorem eqT{p:Prop}(h:p:=by lia):p=True:=eq_true h
local macro_rules
|`(#[$a,*])=>`(⟨$a,*⟩)
|`(#v[$a,*])=>`(List.toArray [$a,*])
set_option hygiene false
local macro_rules
 |`(00 $a)=>`((.im (.int $a)))
 |`(01)=>`(#[rfl,rfl,rfl,bG,rfl,bG,bG])
 |`(02)=>`((model X.prog X.w))
 |`(03)=>`(Inv X aC σ H s)
 |`(04)=>`((cu λ_=>(cu λ_=>(iR rfl))))
 |`(05)=>`(#[_,rfl])
 |`(06)=>`((.im (cJ z a1 b1 n)))
 |`(07)=>`((by grind))
 |`(08 $a)=>`((cj $a a (aJ (aV 0) (aJ dO bJ))))
 |`(09)=>`((model prog w))
 |`(000 $a)=>`((.im (.str $a)))
 |`(001)=>`(Sm K Z Θ ao C σ H)
 |`(002 $a)=>`((cj b a (aJ (aV 0) (aJ $a bJ))))
 |`(004 $a)=>`((aJ (aV $a) (aJ dO bJ)))
 |`(005 $a)=>`((.ow (.list $a)))
 |`(006)=>`((.im (.list (pe.map .str))))
 |`(007)=>`(List (aH×Obj))
 |`(008)=>`((.dict (bI (cD ps))))
 |`(009)=>`((bL.refl _ _))
local macro_rules
 |`(010 $a)=>`((aR,eval $a X.env))
 |`(011 $a)=>`((.ow (.dict (bI $a))))
 |`(012)=>`((λz=>nomatch z))
 |`(013)=>`((.list (lv.map bU)))
 |`(014)=>`(List Str)
 |`(015)=>`(aL->bf->Prop)
 |`(016 $a)=>`((aJ (aV $a) bJ))
 |`(017)=>`((x==("__debug__":Str)))
 |`(018)=>`((by with_unfolding_all rfl))
 |`(019)=>`(List (Str×Int))
 |`(020)=>`(Txt K mg gF)
 |`(021)=>`(List (az×az))
 |`(022)=>`((up ps z))
 |`(023)=>`(X.env.scope.names.lookup y=aa .local)
 |`(024)=>`((Fz.refl _))
 |`(025)=>`((bQ Z Θ ao σ))
 |`(026)=>`((aY.map (·.2)))
 |`(028)=>`(List Int)
 |`(029)=>`(List (Str×Str))
local macro_rules
 |`(030)=>`((j4 S rfl rfl))
 |`(031)=>`(oX X NT NF js scope)
 |`(032)=>`(Option Vl)
 |`(033)=>`(X.A.units+2<fJ)
 |`(035)=>`(X.calm=aq)
 |`(036)=>`(List az)
 |`(037)=>`((.bool aq))
 |`(038)=>`((.inl rfl))
 |`(039)=>`((.tup vs))
 |`(040)=>`(List aH)
 |`(041)=>`(List V)
 |`(042)=>`(List aL)
 |`(043)=>`((.ref a))
 |`(044)=>`(Loc X.env.scope x)
 |`(045)=>`(A.handled=aj)
 |`(046)=>`((cH _))
 |`(047)=>`((.ref it))
 |`(048)=>`((.ref s.heap.objs.size))
 |`(049)=>`(X.N.Nodup)
local macro_rules
 |`(050)=>`((ns.map V.int))
 |`(051)=>`(List Nat)
 |`(052)=>`((aU 1))
 |`(053)=>`(lv.length<=16)
 |`(054)=>`(Names zs)
 |`(055)=>`(List cY)
 |`(056)=>`(List Row)
 |`(057)=>`(List Expr)
set_option hygiene true
namespace L2
open PySem PySem.Spec PyProof.Rows
theorem hide{P:Prop}(h:∀G:Prop,(P->G)->G):P:=h P id
abbrev Key:=Sum Int Str
def Hr:Key->aL->Bool
 |.inl k,v=>amQ k v
 |.inr x,v=>al9 x v
def avL(w:cW):Key->Int
 |.inl k=>hashInt k
 |.inr x=>hashStr w x
theorem rO:∀{k:Key}{v:aL},Hr k v=aq->(∃i t,k=qe i/\v=Value.int i t)\/(∃x t,k=lX x/\v=Value.str x t)
 |.inl i,v,h=>by
  obtain⟨t,e⟩:=Value.isInt_shape h
  simp_all
 |.inr x,v,h=>by
  obtain⟨t,e⟩:=akN h
  simp_all
theorem anR(i:Int)(t:Tok):Hr (.inl i) (.int i t)=aq:=by simp[Hr,amQ]
theorem anS(x:Str)(t:Tok):Hr (.inr x) (.str x t)=aq:=by simp[Hr,al9]
theorem asL(a b:Int):decide ((qe a:Key)=qe b)=(a==b):=by lia
theorem asM(a b:Str):decide ((lX a:Key)=lX b)=decide (a=b):=by simp
theorem asN(a:Int)(b:Str):decide ((qe a:Key)=lX b)=aR:=jz (λq=>nomatch q)
theorem asO(a:Str)(b:Int):decide ((lX a:Key)=qe b)=aR:=jz (λq=>nomatch q)
def gq(prog:dY)(w:cW):Aa prog w Key where
 is:=Hr
 hash:=avL w
 inj:=λv a b ha hb=>by
  rcases rO ha with⟨i,t,rfl,rfl⟩|⟨x,t,rfl,rfl⟩
  .rcases rO hb with⟨j,u,rfl,e⟩|⟨y,u,rfl,e⟩
   .injection e with e1 _;rw[e1]
   .exact nomatch e
  .rcases rO hb with⟨j,u,rfl,e⟩|⟨y,u,rfl,e⟩
   .exact nomatch e
   .injection e with e1 _;rw[e1]
 byValue:=λk v h=>by
  rcases rO h with⟨i,t,rfl,rfl⟩|⟨x,t,rfl,rfl⟩<;>rfl
 pyHash:=λhv h=>by
  rcases rO hv with⟨i,t,rfl,rfl⟩|⟨x,t,rfl,rfl⟩
  .exact wpAny_pyHash_int h
  .exact wpAny_pyHash_str h
 eqBool:=λhu hv h=>by
  rcases rO hu with⟨i,t,rfl,rfl⟩|⟨x,t,rfl,rfl⟩
  .rcases rO hv with⟨j,u,rfl,rfl⟩|⟨y,u,rfl,rfl⟩
   .rw[asL] at h;exact wpAny_eqBool_int h
   .rw[asN] at h;exact akX i t y u _ _ _ _ h
  .rcases rO hv with⟨j,u,rfl,rfl⟩|⟨y,u,rfl,rfl⟩
   .rw[asO] at h;exact akY x t j u _ _ _ _ h
   .rw[asM] at h;exact wpAny_eqBool_str h
 «strs»:=λk x t v h=>by
  rcases rO h with⟨i,u,rfl,e⟩|⟨y,u,rfl,e⟩
  .exact nomatch e
  .injection e with e1 _
   subst e1;cases v<;>rfl
theorem amR(prog:dY)(w:cW)(i:Int)(t:Tok):(gq prog w).is (.inl i) (.int i t)=aq:=anR i t
theorem amS(prog:dY)(w:cW)(x:Str)(t:Tok):(gq prog w).is (.inr x) (.str x t)=aq:=anS x t
abbrev TK:=List Key×Option Bool
section
variable{P:dY}{w:cW}
def Sg(h:cF)(a c:aH)(b:Bool):Prop:=∃o n,h.get? a=aa o/\o.cls=.type "tuple"/\o.data=.seq #v[.ref c,.bool b] n
def qY(P:dY)(w:cW)(h:cF):TK->aH->Prop
 |(ks,none),a=>Ju (gq P w) h ks a
 |(ks,some b),a=>∃c,Sg h a c b/\Ju (gq P w) h ks c
def Zn(P:dY)(w:cW):TK->Int
 |(ks,none)=>Jm (gq P w) ks
 |(ks,some b)=>reduceHash (M4 [Jm (gq P w) ks,if b then 1 else 0])
theorem qY.inj{x y:TK}(hx:qY P w h x a)(hy:qY P w h y a):x=y:=by
 obtain⟨ks,b⟩:=x;obtain⟨js,c⟩:=y;cases b with
 |none=>
  cases c with
  |none=>rw[acU hx hy]
  |some b=>obtain⟨o,_,n,h1,_,h3,hi⟩:=hx;obtain⟨c,⟨o',n',d,_,e⟩,_⟩:=hy;rw[h1] at d;cases d;rw[h3] at e;cases e;exact absurd (hi.byValue _ fV) kY
 |some b=>
  cases c with
  |none=>obtain⟨o,_,n,h1,_,h3,hi⟩:=hy;obtain⟨c,⟨o',n',d,_,e⟩,_⟩:=hx;rw[h1] at d;cases d;rw[h3] at e;cases e;exact absurd (hi.byValue _ fV) kY
  |some b'=>
   obtain⟨c,⟨o,n,h1,_,h3⟩,q⟩:=hx;obtain⟨c',⟨o',n',d,_,e⟩,q'⟩:=hy
   rw[h1] at d;cases d;rw[h3] at e;injection e with e1 _
   have e2:=congrArg Array.toList e1;injection e2 with e3 e4;injection e3 with e3;injection e4 with e4;injection e4 with e4
   subst e3 e4;rw[acU q q']
theorem Sg.keeps{es ep}(x:Sg h a c b)(g:h.get? d=aa o)(hd:o.data=.dict es ep)(hs:vg d h h'):Sg h' a c b:=by
 obtain⟨o',n,h1,h2,f⟩:=x
 have e:a≠d:=c3
 exact#[o',n,(hs.2 a e).trans h1,h2,f]
theorem qY.keeps{es ep}:∀{k:TK},qY P w h k a->h.get? d=aa o->o.data=.dict es ep->vg d h h'->qY P w h' k a
 |(_,none),x,ho,hd,hs=>alw x ho hd hs
 |(_,some _),⟨c,q,x⟩,ho,hd,hs=>#[c,q.keeps ho hd hs,alw x ho hd hs]
variable{A:fB}{E:aL->bf->Prop}{s:bf}
theorem ala(b:Bool)(h:Q (if b then 1 else 0) {s with toks:=s.toks+1}):bH (model P w) A (pyHash (.bool b)) Q E s:=by
 refine aQ (alb 038 (aQ (Cd (T:="bool") rfl F.slot_bool_hash.lookup (aQ (Cd (T:="bool") rfl F.slot_bool_hash.lookup (aQ (aj3 (T:="bool") rfl alx (pC alx rfl entry_int_hash ?_ (args_int_hash _)))))))));cases b
 .exact acB (bM h)
 .exact acB (bM h)
theorem qY.pyHash(hu:A.units+1<fJ)(f:qY P w s.heap (ks,aa b) a)(h:Q (Zn P w (ks,aa b)) {s with toks:=s.toks+(ks.length+3)}):
  bH (model P w) A (pyHash 043) Q E s:=by
 obtain⟨c,⟨o,n,g,i,j⟩,f⟩:=f
 have e:s.TypeIs (.ref a) "tuple":=#[o,g,i]
 unfold PySem.pyHash;refine aQ (alb (.inr (z6 hu)) (aQ (Cd e F.slot_tuple_hash.lookup ?_)));refine aQ (Cd e F.slot_tuple_hash.lookup ?_);refine aQ (aj3 e alc (pC alc e F.entry_tuple_hash ?_ (F.args_tuple_hash_1 _)));show bH _ _ (abL 043 >>= _) _ _ s;refine aQ (wpAny_tupleItemsOf g j (aQ ?_));rw[<-ab7];rw[Np];refine aQ (aQ (akZ hu f (bM ?_)));show bH _ _ (forIn [oM b] _ _) _ _ _;rw[Np];refine aQ (aQ (ala b (bM ?_)));show bH _ _ (forIn [] _ _) _ _ _;rw[List.forIn_nil];refine bM ?_;refine acB ?_;have h':=h;unfold Zn reduceHash at h';show bH _ _ (if(decide (-(2:Int)^63<=M4 [Jm (gq P w) ks,if b then 1 else 0])&&decide (M4 [Jm (gq P w) ks,if b then 1 else 0]<2^63))=aq then _ else _) Q E _;by_cases d:(decide (-(2:Int)^63<=M4 [Jm (gq P w) ks,if b then 1 else 0])&&decide (M4 [Jm (gq P w) ks,if b then 1 else 0]<2^63))=aq
 .rw[bZ d];simp only[bZ d] at h';exact bM h'
 .rw[cC d];simp only[cC d] at h';exact aQ (wZ (bM h'))
theorem ItemsAre.mix(h:ItemsAre (gq P w) ks vs):ItemsAre (gq P' w') ks vs:=by
 induction h with
 |nil=>exact .nil
 |cons a _ ih=>exact .cons a ih
theorem aiH(x:Ju (gq P w) h ks a):Ju (gq P' w') h ks a:=
 let ⟨o,aN,n,h1,h2,h3,h4⟩:=x;#[o,_,n,h1,h2,h3,ItemsAre.mix h4]
def Sh:Option aL->Bool->Bool
 |some (.int i _),b=>i==(if b then 1 else 0)
 |_,_=>aR
theorem mixed(hu:A.units+1<fJ)(hi:ItemsAre (gq P w) ks aN.toList)(h1:s.heap.IsTuple a aN)(h2:s.heap.IsTuple b #v[.ref c,.bool t])(r:s.heap.IsTuple c its2):
  am7 A s 043 (.ref b) aR/\am7 A s (.ref b) 043 aR:=by
 have f:∀j (h1:j<aN.size)(h2:j<(#v[fY c,oM t]:Array aL).size),Cz A.in1 s aN[j] (#v[fY c,oM t]:Array aL)[j] (if j=0 then aR else Sh aN[1]? t)/\
   Cz A.in1 s (#v[fY c,oM t]:Array aL)[j] aN[j] (if j=0 then aR else Sh aN[1]? t):=by
  intro j d o;have B:∃k,(gq P w).is k aN[j]=aq:=by
   have:aN[j]∈aN.toList:=cg;generalize aN[j]=v at this;generalize aN.toList=l at hi this;induction hi with
   |nil=>cases this
   |@cons k v' ks vs g _ ih=>
    rcases cB.mp this with e|m
    .exact#[k,by rw[e];exact g]
    .exact ih m
  obtain⟨k,g⟩:=B
  match j,d,o,g with
  |0,d,_,g=>
   rcases rO g with⟨i,u,rfl,e⟩|⟨x,u,rfl,e⟩
   .rw[e];exact#[SeqAt.EqAt.int_tuple i u r hu,SeqAt.EqAt.tuple_int i u r hu]
   .rw[e];exact#[SeqAt.EqAt.str_tuple x u r hu,SeqAt.EqAt.tuple_str x u r hu]
  |1,d,_,g=>
   have e1:aN[1]?=aa aN[1]:=oJ d;rw[e1];rcases rO g with⟨i,u,rfl,e⟩|⟨x,u,rfl,e⟩
   .rw[e]
    refine#[akO i u t,?_]
    have:=akP (A:=A.in1) (s:=s) t i u
    rwa [show((if t then 1 else 0)==i)=(i==(if t then(1:Int) else 0)) from by rw[Cg];simp;exact eq_comm] at this
   .rw[e];exact#[akQ x u t,akR t x u]
 have h:∀n m:Nat,n≠0/\m≠0\/n≠m->((gQ (min n m)).all (λj=>if j=0 then aR else Sh aN[1]? t)&&n==m)=aR:=by
  intro n m C;rcases C with⟨p,q⟩|p
  .have:((gQ (min n m)).all (λj=>if j=0 then aR else Sh aN[1]? t))=aR:=by
    rw[List.all_eq_false]
    exact#[0,Cj.mpr aK,cg]
   rw[this];rfl
  .rw[show(n==m)=aR from beq_eq_false_iff_ne.mpr p,Bool.and_false]
 have sz:aN.size≠0/\(#v[fY c,oM t]:Array aL).size≠0\/aN.size≠(#v[fY c,oM t]:Array aL).size:=by
  show aN.size≠0/\2≠0\/aN.size≠2;lia
 have y:=ach (A:=A) h1 h2 (z6 hu) (λj d o=>(f j d o).1);have z:=ach (A:=A) h2 h1 (z6 hu) (λj d o=>(f j o d).2);rw[h _ _ sz] at y;rw[h _ _ (by rcases sz with⟨p,q⟩|p;exact .inl #[q,p];exact .inr (jW p))] at z
 exact#[y,z]
theorem qY.eqBool(hu:A.units+1<fJ)(k:qY P w s.heap x a)(i:qY P w s.heap y b)(h:Q (decide (x=y)) s):
  bH (model P w) A (PySem.eqBool 043 (.ref b)) Q E s:=by
 by_cases v:a=b
 .subst v;rw[f9 (k.inj i)] at h;exact Vh _ P w E Q h
 obtain⟨ks,_|t⟩:=x<;>obtain⟨js,_|r⟩:=y
 .exact ak0 (z6 hu) k i (by simpa using h)
 .obtain⟨o,L,n,q,m,p,hi⟩:=k
  obtain⟨c,⟨o',l,f,d,g⟩,⟨F,K,G,C,B,D,_⟩⟩:=i
  exact UL v (mixed hu hi #[o,q,m,n,p] #[o',f,d,l,g] #[F,C,B,G,D]).1 P w E Q (by simpa using h)
 .obtain⟨o,L,n,q,m,p,hi⟩:=i
  obtain⟨c,⟨o',l,f,d,g⟩,⟨F,K,G,C,B,D,_⟩⟩:=k
  exact UL v (mixed hu hi #[o,q,m,n,p] #[o',f,d,l,g] #[F,C,B,G,D]).2 P w E Q (by simpa using h)
 .refine hide λGG J=>?_;obtain⟨c,⟨o,n,q,m,p⟩,H⟩:=k
  obtain⟨z,⟨o',l,f,d,g⟩,u⟩:=i
  have N:Cz A.in1 s (.ref c) (.ref z) (decide (ks=js)):=by
   by_cases I:c=z
   .subst I;rw[f9 (acU H u)];exact Vh _
   .intro S R O Q' M;exact ak0 hu (aiH H) (aiH u) M
  refine J (UL v ?_ P w E Q h);have:=ach (e:=λj=>if j=0 then decide _ else(t==r)) ⟨o,q,m,n,p⟩ ⟨o',f,d,l,g⟩ (z6 hu) (λj h1 h2=>by
   match j,h1,h2 with
   |0,_,_=>exact N
   |1,_,_=>exact akH t r)
  have e1:decide ((ks,aa t)=(js,aa r))=((gQ (min (#v[fY c,oM t]).size (#v[fY z,oM r]).size)).all (λj=>if j=0 then decide (ks=js) else(t==r))&&#v[fY c,oM t].size==#v[fY z,oM r].size):=by
   show _=((gQ 2).all _&&aq)
   rw[Cg];simp[alP]
  rwa [e1]
theorem asQ(d:Ju (gq P w) s.heap ks a)(h:Q aq s):bH (model P w) A (W4 (n+1) 043) Q E s:=by
 have c:=d.typeIs
 obtain⟨o,items,m,e,_,f,hi⟩:=d
 unfold W4;refine aQ (Cd c F.slot_tuple_eq.lookup (aQ (Nj c aky ?_)));refine aQ (Ck e f (aQ ?_));rw[<-ab7];refine acr _ (λrest r s'=>r.1=aj/\s'=s/\∀v∈rest,carriedByValue v=aq) _ ?_ ?_ _ _ #[rfl,rfl,hi.byValue]
 .rintro v rest r s' ⟨hr,rfl,hall⟩;rw[eqIsQuiet_byValue _ (hall v fV)];exact bM #[rfl,rfl,λu b=>hall u (fU _ b)]
 .rintro⟨r1,r2⟩ s' ⟨hr,rfl,_⟩
  subst hr;exact bM h
theorem qY.quiet(b:qY P w s.heap k a)(h:Q aq s):bH (model P w) A (W4 8 043) Q E s:=by
 obtain⟨ks,_|t⟩:=k
 .exact wpAny_eqIsQuiet_tuple b h
 obtain⟨c,⟨o,n,d,f,g⟩,b⟩:=b
 have e:s.TypeIs (.ref a) _:=#[o,d,f]
 unfold W4;refine aQ (Cd e F.slot_tuple_eq.lookup (aQ (Nj e aky (aQ (Ck d g (aQ ?_))))));rw[<-ab7];show bH _ _ (forIn [fY c,oM t] _ _) _ _ _;rw[Np];refine aQ (aQ (asQ b (bM ?_)));show bH _ _ (forIn _ _ _) _ _ _;exact bM (bM h)
def GZ(P:dY)(w:cW):HeapKind P w TK where
 is:=qY P w
 hash:=Zn P w
 draws:=λk=>match k.2 with|none=>k.1.length+1|some _=>k.1.length+3
 room:=λA=>A.units+1<fJ
 inj:=λhx hy=>hx.inj hy
 keeps:=λx ho hd hs=>x.keeps ho hd hs
 pyHash:=λ{A E s k a Q} hu hk h=>by
  obtain⟨ks,_|b⟩:=k
  .exact akZ (z6 hu) hk h
  .exact qY.pyHash hu hk h
 eqBool:=λhu hx hy h=>hx.eqBool hu hy h
 quiet:=λhk h=>hk.quiet h
theorem Gs(hu:A.units+2<fJ):(GZ P w).room A.in1:=hu
end
set_option autoImplicit false
inductive V where
 |non|bl (b:Bool)|int (i:Int)|str (x:Str)|tQ (b:Array UInt8)|flt (b:UInt64)|ref (a:aH)|ty (n:String)
 deriving DecidableEq
set_option genSizeOf false
def RelV:V->aL->Prop
 |.non,u=>u=vp
 |.bl b,u=>u=oM b
 |.int i,u=>∃t,u=Value.int i t
 |.str x,u=>∃t,u=Value.str x t
 |.tQ b,u=>∃t,u=Value.bytes b t
 |.flt b,u=>∃t,u=Value.float b t
 |.ref a,u=>u=fY a
 |.ty n,u=>u=Jv n
abbrev Vals:List V->List aL->Prop:=Paired RelV
theorem Vals.length{xs:041}{us:042}(r:Vals xs us):xs.length=us.length:=Paired.length r
theorem Vals.get:∀{xs:041}{us:042}{i:Nat}{x:V},Vals xs us->xs[i]?=aa x->∃u,us[i]?=aa u/\RelV x u
 |_,_,_,_,.nil,e=>by simp_all
 |_,_,0,_,.cons r _,e=>by simp_all
 |_,_,i+1,x,.cons _ t,e=>by
  obtain⟨u,h1,h2⟩:=Vals.get (i:=i) (x:=x) t 07
  simp_all
theorem Vals.set{x:V}{u:aL}(r:RelV x u):∀{xs:041}{us:042}(i:Nat),Vals xs us->Vals (xs.set i x) (us.set i u)
 |_,_,_,.nil=>.nil
 |_,_,0,.cons _ t=>.cons r t
 |_,_,i+1,.cons q t=>.cons q (Vals.set r i t)
theorem Vals.append:∀{xs ys:041}{us ws:042},Vals xs us->Vals ys ws->Vals (xs++ys) (us++ws)
 |_,_,_,_,.nil,s=>s
 |_,_,_,_,.cons r t,s=>.cons r (Vals.append t s)
theorem Vals.take:∀{xs:041}{us:042}(n:Nat),Vals xs us->Vals (xs.take n) (us.take n)
 |_,_,0,_=>.nil
 |_,_,_+1,.nil=>.nil
 |_,_,n+1,.cons r t=>.cons r (Vals.take n t)
theorem Vals.drop:∀{xs:041}{us:042}(n:Nat),Vals xs us->Vals (xs.drop n) (us.drop n)
 |_,_,0,r=>r
 |_,_,_+1,.nil=>.nil
 |_,_,n+1,.cons _ t=>Vals.drop n t
def tH:Option V->Option aL->Prop
 |some v,some u=>RelV v u
 |none,none=>True
 |_,_=>False
def KV{κ:Type}:List (κ×V)->List (κ×aL)->Prop:=Paired λ(p:κ×V)(q:κ×aL)=>p.1=q.1/\RelV p.2 q.2
def kV:Key->V
 |.inl i=>.int i
 |.inr x=>.str x
inductive HO where
 |lst (xs:041)
 |tup (xs:041)
 |dK (au:List (Key×V)) (ep:Nat)|dT (au:List (TK×V)) (ep:Nat)
 |set (S:Int->Bool) (n:Nat)
 |ins (C dx:aH) (fs:List (Str×V))
 |own (x:aH)
 |xd (fs:List (Str×V))
 |met (f x:aH)
 |Mf (lo hi:Int)
 |tR (o:Obj) (u:HO)
 |DQ (ps:Array aL)
 |ext (φ:cF->Prop)
set_option genInjectivity false
abbrev Hp:=aH->Option HO
def upd(H:Hp)(a:aH)(o:HO):Hp:=λb=>if b=a then aa o else H b
theorem fj{H:Hp}{a:aH}{o:HO}:upd H a o a=aa o:=by unfold upd;simp
theorem di{H:Hp}{a b:aH}{o:HO}(h:b≠a):upd H a o b=H b:=by unfold upd;lia
theorem QZ{H:Hp}{a:aH}{o u:HO}:upd (upd H a o) a u=upd H a u:=by
 unfold upd;simp_all
theorem Dr{H:Hp}{a b:aH}{o u:HO}(h:H a=aa o)(h':H b=aa u)(d:o≠u):a≠b:=by lia
theorem ue{H:Hp}{a b:aH}{o:HO}(h:H a=aa o)(h':H b=aj):a≠b:=c3
def kO(H:Hp)(b:aH):TK->Prop
 |(ks,none)=>H b=aa (.tup (ks.map kV))
 |(ks,some t)=>∃c,H b=aa (.tup [.ref c,.bl t])/\H c=aa (.tup (ks.map kV))
theorem kO.mono{H H':Hp}{b:aH}(ht:∀b xs,H b=aa (.tup xs)->H' b=aa (.tup xs)):∀{k:TK},kO H b k->kO H' b k
 |(_,none),h=>ht _ _ h
 |(_,some _),⟨c,h1,h2⟩=>#[c,ht _ _ h1,ht _ _ h2]
section
variable(P:dY)(w:cW)
def mX(H:Hp)(h:cF)(a:aH):HO->Prop
 |.lst xs=>xs.length<=cG/\∃(aN:042)(n:Nat),Vals xs aN/\h.get? a=aa {cls:=.type "list",data:=.seq aN.toArray n}
 |.tup xs=>xs.length<=cG/\∃aN:List aL,Vals xs aN/\IsTup h a aN.toArray
 |.dK au ep=>au.length<=cG/\(a==qH)=aR/\∃vs,KV au vs/\h.DictAt (gq P w) a vs ep
 |.dT au ep=>au.length<=cG/\(a==qH)=aR/\∃xs:List (TK×aH×aL),
   Paired (λ(p:TK×V)(q:TK×aH×aL)=>p.1=q.1/\kO H q.2.1 p.1/\RelV p.2 q.2.2) au xs/\
   ∃o es,h.get? a=aa o/\o.ExactDict/\o.data=.dict es ep/\es.toList=xs.map (entryOfKey (GZ P w))/\(xs.map (·.1)).Nodup
 |.set S n=>h.SetOf (intKind P w) a S n
 |.ins C dx fs=>H dx=aa (.own a)/\fs.length<=1000/\dx≠a/\h.get? a=aa (acC C dx)/\
   ∃mA,h.Ns1 dx mA/\(∀f,tH (fs.lookup f) (mA f))/\amt mA (fs.map (·.1))
 |.own _=>∃o,h.get? a=aa o
 |.xd fs=>∃mA,h.Ns1 a mA/\∀f,tH (fs.lookup f) (mA f)
 |.Mf lo hi=>∃t u v,h.get? a=aa {cls:=.type "range",data:=.fields #v[.int lo t,.int hi u,.int 1 v]}
 |.tR o u=>h.get? a=aa o/\mX H h a u
 |.DQ ps=>h.get? a=aa {cls:=.none,data:=.fields ps}
 |.met f x=>h.get? a=aa (PySem.W.methodObj (.ref f) (.ref x))
 |.ext φ=>φ h/\(∃o,h.get? a=aa o)/\∀h1 h2:cF,φ h1->(∀o,h1.get? a=aa o->h2.get? a=aa o)->φ h2
def jG(H:Hp)(h:cF):Prop:=∀a o,H a=aa o->mX P w H h a o
end
section
variable{P:dY}{w:cW}{H H':Hp}{h h':cF}{a:aH}{o:HO}
theorem mX.lt(x:mX P w H h a o):a<h.objs.size:=by
 cases o with
 |lst xs=>obtain⟨_,_,_,_,e⟩:=x;exact dj e
 |tup xs=>obtain⟨_,_,_,p⟩:=x;exact p.lt
 |dK au ep=>obtain⟨_,_,_,_,o,_,e,_⟩:=x;exact dj e
 |dT au ep=>obtain⟨_,_,_,_,o,_,e,_⟩:=x;exact dj e
 |set S n=>obtain⟨o,_,_,_,e,_⟩:=x;exact dj e
 |ins C dx fs=>obtain⟨_,_,_,e,_⟩:=x;exact dj e
 |own y=>obtain⟨_,e⟩:=x;exact dj e
 |xd fs=>obtain⟨_,⟨_,_,_,e,_⟩,_⟩:=x;exact dj e
 |Mf lo hi=>obtain⟨_,_,_,e⟩:=x;exact dj e
 |tR ob u=>obtain⟨e,_⟩:=x;exact dj e
 |DQ ps=>exact dj (x)
 |met f y=>exact dj (x)
 |ext φ=>obtain⟨_,⟨_,e⟩,_⟩:=x;exact dj e
theorem Paired.aaC{α β:Type}{F G:α->β->Prop}:∀{l₁:List α}{l₂:List β},Paired F l₁ l₂->(∀a b,F a b->G a b)->Paired G l₁ l₂
 |_,_,.nil,_=>.nil
 |_,_,.cons r t,f=>.cons (f _ _ r) (Paired.aaC t f)
theorem mX.stay(x:mX P w H h a o)(k:∀b u,(b=a\/H b=aa (.own a))->h.get? b=aa u->h'.get? b=aa u)
  (m:∀b,H b=aa (.own a)->H' b=aa (.own a))(ht:∀b xs,H b=aa (.tup xs)->H' b=aa (.tup xs)):mX P w H' h' a o:=by
 induction o with
 |lst xs=>obtain⟨z,l,n,r,e⟩:=x;exact#[z,_,n,r,k _ _ 038 e]
 |tup xs=>obtain⟨z,l,r,g,e,c⟩:=x;exact#[z,_,r,g,k _ _ 038 e,c]
 |dK au ep=>obtain⟨z,y,vs,r,g,es,e,c⟩:=x;exact#[z,y,vs,r,g,es,k _ _ 038 e,c]
 |dT au ep=>
  obtain⟨z,y,xs,r,g,es,e,c⟩:=x
  exact#[z,y,xs,Paired.aaC r λp q z=>#[z.1,z.2.1.mono ht,z.2.2],g,es,k _ _ 038 e,c]
 |set S n=>obtain⟨g,es,ep,t,e,c⟩:=x;exact#[g,es,ep,t,k _ _ 038 e,c]
 |ins C dx fs=>
  obtain⟨d,z,ne,e,i,⟨j,es,ep,e2,c⟩,r⟩:=x
  exact#[m _ d,z,ne,k _ _ 038 e,i,#[j,es,ep,k _ _ (.inr d) e2,c],r]
 |own y=>obtain⟨g,e⟩:=x;exact#[g,k _ _ 038 e]
 |xd fs=>obtain⟨i,⟨j,es,ep,e,c⟩,r⟩:=x;exact#[i,#[j,es,ep,k _ _ 038 e,c],r]
 |Mf lo hi=>obtain⟨t,u,v,e⟩:=x;exact#[t,u,v,k _ _ 038 e]
 |tR g u ih=>obtain⟨e,q⟩:=x;exact#[k _ _ 038 e,ih q]
 |DQ ps=>
  have e:=x;exact k a _ 038 e
 |met f y=>
  have e:=x;exact k a _ 038 e
 |ext φ=>obtain⟨p,⟨o,e⟩,st⟩:=x;exact#[st _ _ p λo q=>k _ _ 038 q,#[o,k _ _ 038 e],st]
theorem jG.lt(x:jG P w H h)(e:H a=aa o):a<h.objs.size:=(x a o e).lt
theorem jG.fresh(x:jG P w H h)(e:h.objs.size<=a):H a=aj:=by
 cases q:H a with
 |none=>rfl
 |some u=>exact absurd (qz (x.lt q) e) (u9 _)
theorem jG.kept(x:jG P w H h)(k:∀b u,h.get? b=aa u->h'.get? b=aa u):jG P w H h':=λa o e=>
 (x a o e).stay (λb u j q=>k b u q) (λj q=>q) λj j q=>q
theorem jG.laid(x:jG P w H h)(k:∀b u,h.get? b=aa u->h'.get? b=aa u)(i:h.objs.size<=a)(g:mX P w (upd H a o) h' a o):jG P w (upd H a o) h':=λb u e=>by
 have f:=x.fresh i;by_cases d:b=a
 .subst d;rw[fj] at e;exact c4
 .rw[di d] at e
  exact(x b u e).stay (λc v j q=>k c v q) (λc q=>by rwa [di (ue q f)]) λc xs q=>by rwa [di (ue q f)]
end
def Rd(H:Hp)(a:aH)(u:HO):Prop:=H a=aa u\/∃o,H a=aa (.tR o u)
theorem Rd.ok{P:dY}{w:cW}{H:Hp}{h:cF}{a:aH}{u:HO}(r:Rd H a u)(x:jG P w H h):mX P w H h a u:=by
 rcases r with r|⟨o,r⟩
 .exact x a u r
 .obtain⟨_,q⟩:=x a _ r
  exact q
def Mg:Option HO->Prop
 |some (.lst _)=>True
 |some (.dK _ _)=>True
 |some (.dT _ _)=>True
 |some (.set _ _)=>True
 |some (.ins _ _ _)=>True
 |some (.ext _)=>True
 |_=>False
section
variable{P:dY}{w:cW}{H:Hp}{h h':cF}{x e:aH}{o':HO}
theorem jG.write(ok:jG P w H h)(i:Mg (H x))(he:e=x\/H e=aa (.own x))(k:∀b u,b≠e->h.get? b=aa u->h'.get? b=aa u)(a:∃u,h'.get? e=aa u)
  (m:mX P w (upd H x o') h' x o'):jG P w (upd H x o') h':=λb u q=>by
 have d:∀c y,H c=aa (.own y)->c≠x:=λc y r z=>by subst z;rwa [r] at i
 have f:∀c xs,H c=aa (.tup xs)->c≠x:=λc xs r z=>by subst z;rwa [r] at i
 by_cases g:b=x
 .subst g;rw[fj] at q;exact c4
 .rw[di g] at q;by_cases l:b=e
  .have j:H b=aa (.own x):=by lia
   rw[q] at j;cases j
   obtain⟨v,n⟩:=a
   exact#[v,by lia]
  .refine(ok b u q).stay (λc v o r=>k c v ?_ r) (λc r=>by rwa [di (d c b r)]) λc xs r=>by rwa [di (f c xs r)]
   grind
end
structure Un(fs ex:List aH)(H H':Hp)(h h':cF):Prop where
 keep:∀b o,h.get? b=aa o->H b=aj->b∉fs->b∉ex->h'.get? b=aa o
 slot:∀b o,h.get? b=aa o->H b=aj->b∈fs->b∉ex->∃sl,h'.get? b=aa {o with slots:=sl}
 free:∀b o,h.get? b=aa o->H b=aj->b∉ex->H' b=aj
 there:∀b o,h.get? b=aa o->b∉ex->∃o',h'.get? b=aa o'
 tups:∀b xs,H b=aa (.tup xs)->H' b=aa (.tup xs)
 zB:∀b o u,H b=aa (.tR o u)->H' b=aa (.tR o u)
 Bg:∀b ps,H b=aa (.DQ ps)->∃more,H' b=aa (.DQ (ps++more))
section
variable{fs fs' ex ex':List aH}{H H1 H2:Hp}{h h1 h2 h':cF}{a x e:aH}{o:HO}
theorem Un.any(u:Un fs ex H H1 h h1){b:aH}{ob:Obj}(q:h.get? b=aa ob)(n:H b=aj)(a:b∉ex):∃sl,h1.get? b=aa {ob with slots:=sl}:=by
 by_cases c:b∈fs
 .exact u.slot b ob q n c a
 .exact#[_,u.keep b ob q n c a]
theorem Un.kept(k:∀b u,h.get? b=aa u->h'.get? b=aa u):Un fs ex H H h h':=
 #[λb a q j j j=>k b a q,λb a q j j j=>#[_,k b a q],λj j j n j=>n,λb a q j=>#[a,k b a q],λj j q=>q,λj j j q=>q,λj ps q=>#[#v[],‹_›]]
theorem Un.refl:Un fs ex H H h h:=Un.kept λk k q=>q
theorem Un.laid(k:∀b u,h.get? b=aa u->h'.get? b=aa u)(d:h.objs.size<=a)(c:H a=aj):Un fs ex H (upd H a o) h h' where
 keep:=λb u q j j j=>k b u q
 slot:=λb u q j j j=>#[_,k b u q]
 free:=λb u q n j=>by rwa [di (fH (qz (dj q) d))]
 there:=λb u q j=>#[u,k b u q]
 tups:=λb xs q=>by rwa [di (ue q c)]
 zB:=λb u xs q=>by rwa [di (ue q c)]
 Bg:=λb ps q=>#[#v[],by rw[di (ue q c),q];rfl]
theorem Un.write(g:Mg (H x))(he:e=x\/H e=aa (.own x))(k:∀b u,b≠e->h.get? b=aa u->h'.get? b=aa u)(f:∃u,h'.get? e=aa u):Un fs ex H (upd H x o) h h':=by
 have d:∀b,H b=aj->b≠x:=λb n z=>by subst z;rwa [n] at g
 have c:∀b,H b=aj->b≠e:=λb n z=>by lia
 have a:∀b u,H b=aa u->¬Mg (aa u)->b≠x:=λb u q i z=>c3
 refine⟨λb u q n j j=>k b u (c b n) q,λb u q n j j=>⟨_,k b u (c b n) q⟩,λb u q n j=>by rwa [di (d b n)],λb u q j=>?_,
  λb xs q=>by rwa [di (a b _ q λz=>z)],λb u xs q=>by rwa [di (a b _ q λz=>z)],λb ps q=>⟨#v[],by rw[di (a b _ q λz=>z),q];rfl⟩⟩
 grind
end
def trk(h:cF)(H:Hp):List aH:=(gQ h.objs.size).filter λa=>(H a).isSome
def HQ(h:cF)(H:Hp):cF:=PySem.W.hideAll h (trk h H)
theorem anT(h:cF)(H:Hp):(HQ h H).objs.size=h.objs.size:=PySem.W.hideAll_size _ _
theorem ao7{h:cF}{H:Hp}{b:aH}{o:Obj}(e:h.get? b=aa o)(n:H b=aj):(HQ h H).get? b=aa o:=
 PySem.W.hideAll_get _ e λa=>by
  have q:=(lK.mp a).2;simp_all
theorem aqI{h:cF}{H:Hp}{b:aH}{o:Obj}(e:(HQ h H).get? b=aa o):h.get? b=aa o/\H b=aj:=by
 have a:=PySem.W.of_hideAll _ e
 refine#[a,?_]
 cases q:H b with
 |none=>rfl
 |some x=>
  have c:b∈trk h H:=lK.mpr #[Cj.mpr (dj a),c8];have z:(HQ h H).get? b=aj:=PySem.W.hideAll_none _ c
  lia
def aqJ(g h:cF)(L:aH):List (aH×Obj):=(gQ h.objs.size).filterMap λa=>if a=L\/(g.get? a).isSome=aq then aj else(h.get? a).map λo=>(a,o)
def rest(g h:cF)(L d:aH):List (aH×Obj):=(aqJ g h L).filter λp=>decide (p.1≠d)
structure Mod(K:bw)(mg:Str->Option aL)(base:cF):Prop where
 kin:K.In base
 glob:base.Ns jA mg
 blt:∃mb,base.Ns builtinsNs mb/\∀x:Str,x≠"__name__"->mb x=uc x
 nolimit:base.NoLimit
structure Cx where
 prog:dY
 w:cW
 K:bw
 mg:Str->Option aL
 base:cF
 A:fB
 N:List Str
 s₀:bf
 H₀:Hp
 env:Env
 outer:List Env
 stack:List Env
 ex:List aH
 fn:Str->Bool
 calm:Bool
 pn:List (aH×Obj)
 xe:aL->bf->Prop
def frs(l:List Env):List aH:=l.filterMap (·.frame)
abbrev Cx.fs(X:Cx):List aH:=frs X.outer
def Ie(sc:kI)(x:Str):Prop:=sc.names.lookup x=aa .local\/sc.names.lookup x=aa .cell\/sc.names.lookup x=aa .free
def Loc(sc:kI)(x:Str):Prop:=sc.names.lookup x=aa .local\/sc.names.lookup x=aa .cell
def Look(ao:Env)(h:cF)(m:Str->Option aL)(x:Str)(u:aL):Prop:=
 (ao.kindOf x=aa .local/\m x=aa u)\/((ao.kindOf x=aa .cell\/ao.kindOf x=aa .free)/\∃c,ao.cells.lookup x=aa c/\h.IsCell c (aa u))
structure Cx.Ok(X:Cx):Prop where
 mod:Mod X.K X.mg X.base
 kind:X.env.scope.kind=.function
 glob:X.env.globals=jA
 blt:X.env.builtins=builtinsNs
 above:X.s₀.heap.objs.size<=X.env.locals
 inj:∀x y c,X.env.cells.lookup x=aa c->X.env.cells.lookup y=aa c->x=y
 has:∀x,(X.env.kindOf x=aa .cell\/X.env.kindOf x=aa .free)->∃c,X.env.cells.lookup x=aa c
 cab:∀x c,X.fn x=aq->X.env.cells.lookup x=aa c->X.s₀.heap.objs.size<=c
 hd:X.calm=aq->X.A.handled=aj
 frames:X.A.frames=aa X.stack
 stk:X.stack=X.outer\/(X.stack=X.env::X.outer/\X.env.frame=aa X.env.locals)
 exf:∀b∈X.ex,b≠X.env.locals/\∀x c,X.env.cells.lookup x=aa c->c≠b
 bs:∀b o,X.base.get? b=aa o->X.s₀.heap.get? b=aa o/\X.H₀ b=aj
 Bq:X.base.objs.size<=X.s₀.heap.objs.size
 Lf:∀b o,X.base.get? b=aa o->b∉X.ex
 Sq:∀b∈X.ex,b∉X.fs
 vU:X.s₀.heap.FunFrames X.base X.outer
 Ig:∀b∈X.fs,X.H₀ b=aj
structure Inv(X:Cx)(aC:List (aH×Obj))(σ:List (Option V))(H:Hp)(s:bf):Prop where
 ok:X.Ok
 os:s.os=X.s₀.os
 bare:AllBare s.gens
 base:Un X.fs X.ex X.H₀ H X.s₀.heap s.heap
 loc:∃m,s.heap.Ns X.env.locals m/\∀(i:Nat)(x:Str)(v:V),X.N[i]?=aa x->σ[i]?=aa (aa v)->Ie X.env.scope x->∃u,RelV v u/\Look X.env s.heap m x u
 cell:∀x c,X.env.cells.lookup x=aa c->∃v,s.heap.IsCell c v
 free:H X.env.locals=aj
 vK:∀x c,X.env.cells.lookup x=aa c->H c=aj
 pin:∀p∈X.pn++aC,s.heap.get? p.1=aa p.2/\H p.1=aj/\p.1≠X.env.locals/\p.1∉X.fs/\∀v,p.2.data≠.cell v
 hok:jG X.prog X.w H s.heap
 len:σ.length=X.N.length
section
variable{X:Cx}{aC:List (aH×Obj)}{σ:List (Option V)}{H H':Hp}{s:bf}{h':cF}
theorem Cx.Ok.avO(ok:X.Ok){b:aH}{o:Obj}(e:X.base.get? b=aa o):b∉X.fs:=λa=>by
 have:=(ok.vU.mem a).1
 lia
theorem Inv.bs(I:03):∀b o,X.base.get? b=aa o->s.heap.get? b=aa o/\H b=aj:=λb o e=>
 #[I.base.keep b o (I.ok.bs b o e).1 (I.ok.bs b o e).2 (I.ok.avO e) (I.ok.Lf b o e),I.base.free b o (I.ok.bs b o e).1 (I.ok.bs b o e).2 (I.ok.Lf b o e)]
theorem Inv.bk(I:03):∀b o,X.base.get? b=aa o->s.heap.get? b=aa o:=λb o e=>(I.bs b o e).1
theorem Inv.mod(I:03):Mod X.K X.mg X.base:=I.ok.mod
theorem Inv.j0(I:03):X.K.In s.heap:=I.ok.mod.kin.keeps I.bk
theorem Inv.lt(I:03):X.env.locals<s.heap.objs.size:=let ⟨_,hn,_⟩:=I.loc;hn.lt
theorem Inv.sz(I:03):X.s₀.heap.objs.size<=s.heap.objs.size:=jw I.ok.above (wY I.lt)
theorem Inv.avP(I:03){a:aH}(h:s.heap.objs.size<=a):a∉X.fs:=λb=>by
 obtain⟨_,o,c,_⟩:=I.ok.vU.mem b
 exact absurd (qz (dj c) (jw I.sz h)) (u9 _)
theorem Inv.DR(I:03):∀x c,X.env.cells.lookup x=aa c->c≠X.env.locals:=λx c e z=>by
 obtain⟨v,o,d,f⟩:=I.cell x c e
 obtain⟨m,⟨o',es,ep,b,a,_⟩,_⟩:=I.loc
 exact c4
theorem Inv.vU(I:03):s.heap.FunFrames X.base X.outer:=by
 have all:∀(l:List _),(∀b∈frs l,b∈X.fs)->X.s₀.heap.FunFrames X.base l->s.heap.FunFrames X.base l:=by
  intro l;induction l with
  |nil=>intro k k;trivial
  |cons ao r ih=>
   intro hs hl
   obtain⟨f,⟨L,o,d,i,j,h⟩,g⟩:=hl
   have c:=hs L (by unfold frs;simp_all)
   obtain⟨sl,e⟩:=I.base.slot L o j (I.ok.Ig L c) c λz=>I.ok.Sq L z c
   exact#[f,#[L,_,d,i,e,h],ih (λb a=>hs b (by unfold frs;rw[akS,d];exact fU _ a)) g]
 exact all _ (λk a=>a) I.ok.vU
theorem Inv.stack(I:03):s.heap.FunFrames X.base X.stack:=by
 rcases I.ok.stk with e|⟨e,b⟩
 .rw[e];exact I.vU
 .rw[e]
  obtain⟨m,a,_⟩:=I.loc
  exact .cons (by rw[I.ok.kind];decide) b a (Heap.get?_none_of_le (jw I.ok.Bq I.ok.above)) I.vU
theorem Inv.G3(I:03):∀b∈frs X.stack,b∈X.env.locals::X.fs:=λb a=>by
 rcases I.ok.stk with e|⟨e,c⟩
 .grind
 .rw[e] at a;unfold frs at a;rw[akS,c] at a;trivial
theorem Inv.af8(I:03):∀b∈frs X.stack,H b=aj:=λb a=>by
 rcases cB.mp (I.G3 b a) with e|a
 .rw[e];exact I.free
 .obtain⟨_,o,c,_⟩:=I.ok.vU.mem a
  exact I.base.free b o c (I.ok.Ig b a) λz=>I.ok.Sq b z a
theorem Inv.step{J:Array GenState}{t':Nat}{Q:Ds}{ch:040}(I:03)
  (g:∀b∈ch,(b∈X.ex\/X.s₀.heap.objs.size<=b)/\b≠X.env.locals/\(∀x c,X.env.cells.lookup x=aa c->c≠b)/\∀p∈X.pn++aC,p.1≠b)
  (keep:∀b o,b≠X.env.locals->b∉X.fs->b∉ch->s.heap.get? b=aa o->H b=aj->h'.get? b=aa o)
  (j:∀b o,b≠X.env.locals->b∈X.fs->b∉ch->s.heap.get? b=aa o->H b=aj->∃sl,h'.get? b=aa {o with slots:=sl})(f:∀b o,b∉ch->s.heap.get? b=aa o->H b=aj->H' b=aj)
  (t:∀b o,b∉ch->s.heap.get? b=aa o->∃o',h'.get? b=aa o')
  (C:∀b xs,H b=aa (.tup xs)->H' b=aa (.tup xs))(M:∀b o u,H b=aa (.tR o u)->H' b=aa (.tR o u))(S:∀b ps,H b=aa (.DQ ps)->∃more,H' b=aa (.DQ (ps++more)))
  (ns:∀m,s.heap.Ns X.env.locals m->h'.Ns X.env.locals m)(E:jG X.prog X.w H' h')(hg:AllBare J):
  Inv X aC σ H' {s with heap:=h',gens:=J,drawn:=Q,toks:=t'}:=by
 have B:∀b o,X.s₀.heap.get? b=aa o->b≠X.env.locals:=λb o e=>fH (qz (dj e) I.ok.above)
 have D:∀b o,X.s₀.heap.get? b=aa o->b∉X.ex->b∉ch:=λb o e a w=>by
  rcases(g b w).1 with z|z
  .exact a z
  .exact absurd (qz (dj e) z) (u9 _)
 have h:∀x c,X.env.cells.lookup x=aa c->∀v,s.heap.IsCell c v->h'.IsCell c v:=λx c e v P=>by
  obtain⟨o,y,F⟩:=P
  have A:=λz=>(g c z).2.2.1 x c e rfl
  by_cases L:c∈X.fs
  .obtain⟨sl,q⟩:=j c o (I.DR x c e) L A y (I.vK x c e)
   exact#[_,q,F]
  .exact#[o,keep c o (I.DR x c e) L A y (I.vK x c e),F]
 refine#[I.ok,I.os,hg,#[λb o e n w a=>?_,λb o e n w a=>?_,λb o e n a=>?_,λb o e a=>?_,λb xs e=>C b xs (I.base.tups b xs e),λb o xs e=>M b o xs (I.base.zB b o xs e),λb ps e=>?_],?_,λx c e=>?_,?_,λx c e=>?_,λp K=>?_,E,I.len]
 .exact keep b o (B b o e) w (D b o e a) (I.base.keep b o e n w a) (I.base.free b o e n a)
 .obtain⟨sl,e1⟩:=I.base.slot b o e n w a
  obtain⟨N,e2⟩:=j b _ (B b o e) w (D b o e a) e1 (I.base.free b o e n a)
  exact#[_,e2]
 .obtain⟨o',e1⟩:=I.base.there b o e a
  exact f b o' (D b o e a) e1 (I.base.free b o e n a)
 .obtain⟨o',e1⟩:=I.base.there b o e a
  exact t b o' (D b o e a) e1
 .obtain⟨U,e1⟩:=I.base.Bg b ps e
  obtain⟨T,e2⟩:=S b _ e1
  exact#[_,by rw[e2,Array.append_assoc]]
 .obtain⟨m,R,hl⟩:=I.loc
  refine#[m,ns m R,λi x v e1 e2 O=>?_]
  obtain⟨u,r,l⟩:=hl i x v e1 e2 O
  refine#[u,r,?_]
  rcases l with l|⟨k,c,e,z⟩
  .exact .inl l
  .exact .inr #[k,c,e,h x c e _ z]
 .obtain⟨v,z⟩:=I.cell x c e
  exact#[v,h x c e v z]
 .obtain⟨m,⟨o,_,_,y,_⟩,_⟩:=I.loc
  exact f _ o (λz=>(g _ z).2.1 rfl) y I.free
 .obtain⟨v,o,y,F⟩:=I.cell x c e
  exact f c o (λz=>(g c z).2.2.1 x c e rfl) y (I.vK x c e)
 .obtain⟨e,n,ne,G,d⟩:=I.pin p K
  have A:=λz=>(g _ z).2.2.2 p K rfl
  exact#[keep _ _ ne G A e n,f _ _ A e n,ne,G,d]
theorem Inv.un{t':Nat}(I:03)(u:Un X.fs [] H H' s.heap h')(c:jG X.prog X.w H' h'):Inv X aC σ H' {s with heap:=h',toks:=t'}:=by
 refine hide λGG h=>?_
 obtain⟨m,⟨o,es,ep,f,r⟩,y⟩:=id I.loc
 obtain⟨sl,i⟩:=u.any f I.free cg
 exact h (I.step (ch:=[]) (λy z=>nomatch z) (λb o y d y e n=>u.keep b o e n d cg) (λb o y d y e n=>u.slot b o e n d cg) (λb o y e n=>u.free b o e n cg) (λb o y e=>u.there b o e c5) u.tups u.zB u.Bg (λl k=>by
  obtain⟨o',j,g,a,r'⟩:=k
  rw[f] at a;cases a
  exact⟨_,_,_,i,r'⟩) c I.bare)
theorem Inv.call{i:Array GenState}{t':Nat}{v:Ds}{ch:040}(I:03)(u:Un (frs X.stack) ch H H' s.heap h')(g:jG X.prog X.w H' h')(hg:AllBare i)
  (f:∀b∈ch,(b∈X.ex\/X.s₀.heap.objs.size<=b)/\b≠X.env.locals/\(∀x c,X.env.cells.lookup x=aa c->c≠b)/\∀p∈X.pn++aC,p.1≠b):
  Inv X aC σ H' {s with heap:=h',gens:=i,drawn:=v,toks:=t'}:=by
 refine hide λGG l=>?_
 obtain⟨m,⟨o,es,ep,j,r⟩,_⟩:=id I.loc
 obtain⟨sl,h⟩:=u.any j I.free λz=>(f _ z).2.1 rfl
 exact l (I.step f (λb o h q a e n=>u.keep b o e n (λz=>(cB.mp (I.G3 b z)).elim h q) a) (λb o _ _ a e n=>u.any e n a) (λb o a e n=>u.free b o e n a) (λb o a e=>u.there b o e a) u.tups u.zB u.Bg (λy w=>by
  obtain⟨o',t,k,d,r'⟩:=w
  rw[j] at d;cases d
  exact⟨_,_,_,h,r'⟩) g hg)
theorem Inv.turned{t':Nat}{it:aH}(I:03)(k:∀b o,b≠it->s.heap.get? b=aa o->h'.get? b=aa o)(j:H it=aj)(d:it≠X.env.locals)
  (h1:it∈X.ex\/X.s₀.heap.objs.size<=it)(h2:∀x c,X.env.cells.lookup x=aa c->c≠it)(i:∀p∈X.pn++aC,p.1≠it):Inv X aC σ H {s with heap:=h',toks:=t'}:=by
 refine I.step (ch:=[it]) (λb h=>?_) (λb o y y a e y=>k b o (λz=>a (by simp[z])) e) (λb o y y a e y=>#[_,k b o (λz=>a (by simp[z])) e]) (λy y y y n=>n)
  (λb o a e=>#[o,k b o (λz=>a 07) e]) (λy y e=>e) (λy y y e=>e) (λb ps e=>#[#v[],by grind]) (λm f=>?_) (λb u e=>?_) I.bare
 .grind
 .obtain⟨o,es,ep,g,r⟩:=f
  exact#[o,es,ep,k _ o (jW d) g,r]
 .refine(I.hok b u e).stay (λc v a q=>k c v ?_ q) (λy q=>q) λy y q=>q
  grind
theorem Inv.tok(I:03)(t:Nat):Inv X aC σ H {s with toks:=t}:=I.un Un.refl I.hok
theorem Inv.kept{t':Nat}(I:03)(k:∀b u,s.heap.get? b=aa u->h'.get? b=aa u):Inv X aC σ H {s with heap:=h',toks:=t'}:=I.un (Un.kept k) (I.hok.kept k)
theorem Inv.laid{a:aH}{o:HO}{t':Nat}(I:03)(k:∀b u,s.heap.get? b=aa u->h'.get? b=aa u)(d:s.heap.objs.size<=a)(c:mX X.prog X.w (upd H a o) h' a o):
  Inv X aC σ (upd H a o) {s with heap:=h',toks:=t'}:=I.un (Un.laid k d (I.hok.fresh d)) (I.hok.laid k d c)
theorem Inv.write{x e:aH}{o:HO}{t':Nat}(I:03)(d:Mg (H x))(he:e=x\/H e=aa (.own x))(k:∀b u,b≠e->s.heap.get? b=aa u->h'.get? b=aa u)(a:∃u,h'.get? e=aa u)
  (c:mX X.prog X.w (upd H x o) h' x o):Inv X aC σ (upd H x o) {s with heap:=h',toks:=t'}:=I.un (Un.write d he k a) (I.hok.write d he k a c)
theorem Inv.weak{F':List (Option V)}(I:03)(hl:F'.length=σ.length)(w:∀(i:Nat) v,F'[i]?=aa (aa v)->σ[i]?=aa (aa v)):Inv X aC F' H s:=
 #[I.ok,I.os,I.bare,I.base,let ⟨m,hn,hl'⟩:=I.loc;#[m,hn,λi x v e1 e2 a=>hl' i x v e1 (w i v e2) a],I.cell,I.free,I.vK,I.pin,I.hok,hl.trans I.len]
theorem Inv.af9{a:007}(I:03)(h:∀p∈a,s.heap.get? p.1=aa p.2/\H p.1=aj/\p.1≠X.env.locals/\p.1∉X.fs/\∀v,p.2.data≠.cell v):Inv X a σ H s:=
 #[I.ok,I.os,I.bare,I.base,I.loc,I.cell,I.free,I.vK,λp b=>(gP.mp b).elim (λz=>I.pin p (pB _ z)) (h p),I.hok,I.len]
theorem ae5{N:014}(hN:N.Nodup){i j:Nat}{x:Str}(a:N[i]?=aa x)(b:N[j]?=aa x):i=j:=by
 obtain⟨h1,e1⟩:=lW.mp a
 obtain⟨h2,e2⟩:=lW.mp b
 exact(List.getElem_inj hN).mp (e1.trans e2.symm)
theorem W5{M:Model}{A:fB}{E:015}{i:Nat}{x:Str}{v:V}{u:aL}{Q:Unit->bf->Prop}(I:03)(hN:049)(hi:X.N[i]?=aa x)(g:044)(r:RelV v u)
  (h:∀s',Inv X aC (σ.set i (aa v)) H s'->(∃a,vg a s.heap s'.heap/\(a=X.env.locals\/X.env.cells.lookup x=aa a))->Q () s')(hf:X.fn x=aq\/X.env.scope.names.lookup x=aa .local:=by first|exact .inl rfl|exact .inr rfl|assumption):bH M A (storeName X.env x u) Q E s:=by
 obtain⟨m,T,hl⟩:=id I.loc
 have D:(X.env.scope.kind==.class||(X.env.scope.kind==.module&&X.env.locals != X.env.globals))=aR:=by rw[I.ok.kind];rfl
 have hiF:i<σ.length:=by rw[I.len];exact(lW.mp hi).1
 have DR:=I.DR;have tracked:∀{a:aH}{h':cF},(∃o,s.heap.get? a=aa o/\H a=aj)->vg a s.heap h'->jG X.prog X.w H h':=λ{a h'} ha hs b ob e=>by
  obtain⟨_,_,l⟩:=ha
  refine(I.hok b ob e).stay (λc K f q=>(hs.2 c ?_).trans q) (λ_ q=>q) λ_ _ q=>q
  rintro rfl;rcases f with rfl|f
  .rw[l] at e;cases e
  .rw[l] at f;cases f
 rcases g with t|t
 .refine wpAny_storeName_local t T (λh' S hs=>?_) D
  obtain⟨Z,_,_,U,_⟩:=id T
  refine h _ #[I.ok,I.os,I.bare,#[λb o e n B g=>?_,λb o e n B g=>?_,I.base.free,λb o e g=>?_,I.base.tups,I.base.zB,I.base.Bg],#[_,S,λj y W e1 e2 O=>?_],λy c e=>?_,I.free,I.vK,λp P=>?_,tracked #[Z,U,I.free] hs,by simpa using I.len] #[_,hs,.inl rfl]
  .exact(hs.2 b (fH (qz (dj e) I.ok.above))).trans (I.base.keep b o e n B g)
  .obtain⟨sl,e1⟩:=I.base.slot b o e n B g
   exact#[sl,(hs.2 b (fH (qz (dj e) I.ok.above))).trans e1]
  .obtain⟨o',e1⟩:=I.base.there b o e g
   exact#[o',(hs.2 b (fH (qz (dj e) I.ok.above))).trans e1]
  .by_cases C:j=i
   .subst C;rw[hi] at e1;cases e1;rw[Ir hiF] at e2;cases e2
    exact#[u,r,.inl #[t,cg]]
   .rw[yx (jW C)] at e2
    obtain⟨R,r',q⟩:=hl j y W e1 e2 O
    refine#[R,r',?_]
    rcases q with⟨k,e⟩|⟨k,c,e,z⟩
    .refine .inl #[k,?_];have:y≠x:=λe=>C (ae5 hN e1 (e▸hi))
     simp_all
    .exact .inr #[k,c,e,z.sameBut hs (DR y c e)]
  .obtain⟨K,z⟩:=I.cell y c e
   exact#[K,z.sameBut hs (DR y c e)]
  .obtain⟨e,n,ne,N,d⟩:=I.pin p P
   exact#[(hs.2 p.1 ne).trans e,n,ne,N,d]
 .have w:X.fn x=aq:=by
   rcases hf with z|z
   .exact z
   .rw[z] at t;cases t
  obtain⟨c,f⟩:=I.ok.has x (.inl t)
  obtain⟨K,z⟩:=I.cell x c f
  refine wpAny_storeName_cell I.ok.kind t f z (λh' F hs=>?_)
  obtain⟨Y,G,aza⟩:=id z
  refine h _ #[I.ok,I.os,I.bare,#[λb o e n B g=>?_,λb o e n B g=>?_,I.base.free,λb o e g=>?_,I.base.tups,I.base.zB,I.base.Bg],#[m,T.sameBut hs (jW (DR x c f)),λj y W e1 e2 O=>?_],λy L e=>?_,I.free,I.vK,λp P=>?_,tracked #[Y,G,I.vK x c f] hs,by simpa using I.len] #[c,hs,.inr f]
  .exact(hs.2 b (fH (qz (dj e) (I.ok.cab x c w f)))).trans (I.base.keep b o e n B g)
  .obtain⟨sl,e1⟩:=I.base.slot b o e n B g
   exact#[sl,(hs.2 b (fH (qz (dj e) (I.ok.cab x c w f)))).trans e1]
  .obtain⟨o',e1⟩:=I.base.there b o e g
   exact#[o',(hs.2 b (fH (qz (dj e) (I.ok.cab x c w f)))).trans e1]
  .by_cases C:j=i
   .subst C;rw[hi] at e1;cases e1;rw[Ir hiF] at e2;cases e2
    exact#[u,r,.inr #[.inl t,c,f,F]]
   .rw[yx (jW C)] at e2
    obtain⟨R,r',q⟩:=hl j y W e1 e2 O
    refine#[R,r',?_]
    rcases q with q|⟨k,L,e,z'⟩
    .exact .inl q
    .refine .inr #[k,L,e,z'.sameBut hs ?_];rintro rfl;exact C (ae5 hN e1 (I.ok.inj _ _ _ e f▸hi))
  .by_cases J:L=c
   .subst J;exact#[_,F]
   .obtain⟨w2,z2⟩:=I.cell y L e
    exact#[w2,z2.sameBut hs J]
  .obtain⟨e,n,ne,N,d⟩:=I.pin p P
   refine#[(hs.2 p.1 ?_).trans e,n,ne,N,d]
   intro q;rw[q,G] at e;have q':Y=p.2:=nO e;exact d K (by rwa [<-q'])
theorem xr{M:Model}{A:fB}{E:015}{i:Nat}{x:Str}{v:V}{u:aL}{Q:Unit->bf->Prop}(I:03)(hN:049)(hi:X.N[i]?=aa x)(a:044)(r:RelV v u)
  (h:∀s',Inv X aC (σ.set i (aa v)) H s'->Q () s')(b:X.fn x=aq\/X.env.scope.names.lookup x=aa .local:=by first|exact .inl rfl|exact .inr rfl|assumption):bH M A (storeName X.env x u) Q E s:=
 W5 I hN hi a r (λs' c k=>h s' c) b
theorem Inv.call'{s':bf}{ch:040}(I:03)(f:s'.os=s.os)(u:Un (frs X.stack) ch H H' s.heap s'.heap)(a:jG X.prog X.w H' s'.heap)(hg:AllBare s'.gens)
  (d:∀b∈ch,(b∈X.ex\/X.s₀.heap.objs.size<=b)/\b≠X.env.locals/\(∀x c,X.env.cells.lookup x=aa c->c≠b)/\∀p∈X.pn++aC,p.1≠b):Inv X aC σ H' s':=by
 obtain⟨h',g,h,i,o'⟩:=s'
 have e:=f;subst e;exact I.call u a hg d
end
abbrev XK:=aL->Option aH->Hp->Prop
abbrev St:=List (Option V)
abbrev VK:=V->Hp->Prop
abbrev TE:=St->Hp->VK->Prop
abbrev TT:=St->Hp->(Bool->Hp->Prop)->Prop
abbrev TA:=St->Hp->(List V->Hp->Prop)->Prop
structure Ends where
 nx:St->Hp->Prop
 rt:VK
 bk:St->Hp->Prop:=λ_ _=>False
 ct:St->Hp->Prop:=λ_ _=>False
abbrev TS:=Ends->St->Hp->Prop
def EP(X:Cx)(aC:007)(σ:St)(Q:VK)(u:aL)(s':bf):Prop:=∃v H',Inv X aC σ H' s'/\RelV v u/\Q v H'
def TP(X:Cx)(aC:007)(σ:St)(Q:Bool->Hp->Prop)(b:Bool)(s':bf):Prop:=∃H',Inv X aC σ H' s'/\Q b H'
def AP(X:Cx)(aC:007)(σ:St)(Q:List V->Hp->Prop)(us:042)(s':bf):Prop:=∃vs H',Inv X aC σ H' s'/\Vals vs us/\Q vs H'
def SP(X:Cx)(aC:007)(D:Ends)(f:Flow)(s':bf):Prop:=
 match f with
 |.next=>∃F' H',Inv X aC F' H' s'/\D.nx F' H'
 |.brk=>∃F' H',Inv X aC F' H' s'/\D.bk F' H'
 |.cont=>∃F' H',Inv X aC F' H' s'/\D.ct F' H'
 |.ret u=>∃v F' H',Inv X aC F' H' s'/\RelV v u/\D.rt v H'
def PE(X:Cx)(e:Expr)(t:TE):Prop:=
 ∀(aC:007)(s:bf)(σ:St)(H:Hp)(Q:VK),Inv X aC σ H s->t σ H Q->bH 02 X.A (eval e X.env) (EP X aC σ Q) X.xe s
def PT(X:Cx)(e:Expr)(t:TT):Prop:=
 ∀(aC:007)(s:bf)(σ:St)(H:Hp)(Q:Bool->Hp->Prop),Inv X aC σ H s->t σ H Q->bH 02 X.A (isTrue e X.env (eval e X.env)) (TP X aC σ Q) X.xe s
def PW(X:Cx)(e:Expr)(t:TT):Prop:=
 ∀(whole:Sem aL)(aC:007)(s:bf)(σ:St)(H:Hp)(Q:Bool->Hp->Prop),Inv X aC σ H s->t σ H Q->bH 02 X.A (isTrue e X.env whole) (TP X aC σ Q) X.xe s
theorem PW.pt{X:Cx}{e:Expr}{t:TT}(h:PW X e t):PT X e t:=h _
def PA(X:Cx)(es:057)(t:TA):Prop:=
 ∀(pos:Pos)(aC:007)(s:bf)(σ:St)(H:Hp)(Q:List V->Hp->Prop),Inv X aC σ H s->t σ H Q->bH 02 X.A (spliced (jx pos (bV es X.env))) (AP X aC σ Q) X.xe s
def PS(X:Cx)(st:dH)(t:TS):Prop:=
 ∀(aC:007)(s:bf)(σ:St)(H:Hp)(D:Ends),Inv X aC σ H s->t D σ H->bH 02 X.A (exec st X.env) (SP X aC D) X.xe s
def jQ(X:Cx)(st:List dH)(t:TS):Prop:=
 ∀(aC:007)(s:bf)(σ:St)(H:Hp)(D:Ends),Inv X aC σ H s->t D σ H->bH 02 X.A (execs st X.env) (SP X aC D) X.xe s
theorem cz{α:Type}{t:Sem α}{Q Q':α->bf->Prop}{M:Model}{A:fB}{E:015}{s:bf}(h:bH M A t Q E s)(b:∀a s,Q a s->Q' a s):bH M A t Q' E s:=vq h b λk k x=>x
section
variable{X:Cx}
def lA(i:Nat):TE:=λσ H Q=>∃v,σ[i]?=aa (aa v)/\Q v H
def tC(v:V):TE:=λ_ H Q=>Q v H
theorem Zo{i:Nat}{x:Str}{pos:Pos}(hN:X.N[i]?=aa x)(g:Ie X.env.scope x)(hd:017=aR:=by decide)(f:(x==("__classdict__":Str))=aR:=by decide):PE X (.Name x pos) (lA i):=by
 intro aC s σ H Q I h;refine hide λGG d=>?_
 obtain⟨v,e,h⟩:=h
 obtain⟨m,j,hl⟩:=I.loc
 obtain⟨u,r,l⟩:=hl i x v hN e g
 have b:EP X _ σ Q u s:=#[v,H,I,r,h]
 rcases l with⟨a,hm⟩|⟨a,c,hc,hcell⟩
 .exact d (adS (akI I.ok.kind a j hm b) hd)
 .rcases a with a|a
  .exact d (adS (akT I.ok.kind a hc hcell b) hd)
  .exact d (adS (wpAny_loadName_free I.ok.kind a hc hcell b f) hd)
theorem asR{i j pos}:PE X (.Constant (.int i) j pos) (tC (.int i)):=λk k k H k I h=>wpAny_Constant_int #[.int i,H,I.tok _,05,h]
theorem tD{b j pos}:PE X (.Constant (.bool b) j pos) (tC (.bl b)):=λk k k H k I h=>Constant_bool #[.bl b,H,I,rfl,h]
theorem qP{j pos}:PE X (.Constant .none j pos) (tC .non):=λk k k H k I h=>Constant_none #[.non,H,I,rfl,h]
theorem G4{x j pos}:PE X (.Constant (.str x) j pos) (tC (.str x)):=λk k k H k I h=>Calls.Constant_str #[.str x,H,I.tok _,05,h]
def Gl(X:Cx)(x:Str):Prop:=X.env.kindOf x=aa .globalImplicit
theorem aga{E:015}{aC:007}{s:bf}{σ:St}{H:Hp}{x:Str}{u:aL}{pos:Pos}{Q:015}(I:03)(hg:Gl X x)(a:X.mg x=aa u)(h:Q u s)
  (hd:017=aR:=by decide):bH 02 X.A (eval (.Name x pos) X.env) Q E s:=
 akb I.ok.kind hg (Calls.loadGlobal_global (by rw[I.ok.glob];exact I.mod.glob.keeps I.bk) a h) hd
theorem yV{E:015}{aC:007}{s:bf}{σ:St}{H:Hp}{x:Str}{u:aL}{pos:Pos}{Q:015}(I:03)(hg:Gl X x)(a:X.mg x=aj)(b:uc x=aa u)(h:Q u s)
  (c:x≠"__name__":=by decide)(hd:017=aR:=by decide):bH 02 X.A (eval (.Name x pos) X.env) Q E s:=by
 obtain⟨mb,h1,h2⟩:=I.mod.blt
 exact akb I.ok.kind hg (Calls.loadGlobal_builtin (by rw[I.ok.glob];exact I.mod.glob.keeps I.bk) a (by rw[I.ok.blt];exact h1.keeps I.bk) ((h2 x c).trans b) h) hd
theorem agb{x:Str}{v:V}{u:aL}{pos:Pos}(hg:Gl X x)(a:X.mg x=aa u)(r:RelV v u)(hd:017=aR:=by decide):PE X (.Name x pos) (tC v):=
 λk k k H k I h=>aga I hg a #[v,H,I,r,h] hd
theorem pG{x:Str}{v:V}{u:aL}{pos:Pos}(hg:Gl X x)(a:X.mg x=aj)(b:uc x=aa u)(r:RelV v u)(c:x≠"__name__":=by decide)(hd:017=aR:=by decide):PE X (.Name x pos) (tC v):=
 λk k k H k I h=>yV I hg a b #[v,H,I,r,h] c hd
variable{a b:Expr}{ta tb:TE}{pos:Pos}
def tB(t:TE):TT:=λσ H Q=>t σ H λx H1=>∃c,x=.bl c/\Q c H1
theorem asS{e:Expr}{t:TE}(h:PE X e t)(he:∀a,isTrue e X.env a=(do let v <-a;xx e.pos;rR [v] (truthy v)):=by intro _;rfl):PT X e (tB t):=by
 intro aC s σ H Q I c;refine isTrue_plain (cz (h _ s σ H _ I c) λv s1 g=>(hide λGG f=>?_)) (he _)
 obtain⟨x,H1,j,i,b⟩:=g
 obtain⟨d,rfl,q⟩:=b
 cases i;exact f (yz #[H1,j,q])
variable{tA Ti:TT}{rest:List Expr}
def aiI(t u:TT):TT:=λσ H Q=>t σ H λc H1=>if c=aq then u σ H1 Q else Q aR H1
def tOr(t u:TT):TT:=λσ H Q=>t σ H λc H1=>if c=aq then Q aq H1 else u σ H1 Q
def avQ(t:TT):TT:=λσ H Q=>t σ H λc H1=>Q (!c) H1
theorem pw_and1(b:PT X a tA):PW X (.BoolOp .And [a] pos) tA:=by
 intro wh aC s σ H Q I h;refine isTrue_and (cz (b _ s σ H Q I h) λc s1 e=>?_);cases c with
 |true=>exact isTrue_and_nil e
 |false=>exact e
theorem pw_or1(b:PT X a tA):PW X (.BoolOp .Or [a] pos) tA:=by
 intro wh aC s σ H Q I h;refine isTrue_or (cz (b _ s σ H Q I h) λc s1 e=>?_);cases c with
 |false=>exact isTrue_or_nil e
 |true=>exact e
theorem pw_and(g:PT X a tA)(f:PW X (.BoolOp .And (b::rest) pos) Ti):PW X (.BoolOp .And (a::b::rest) pos) (aiI tA Ti):=by
 intro wh aC s σ H Q I h;refine isTrue_and (cz (g _ s σ H _ I h) λc s1 i=>?_)
 obtain⟨H1,e,d⟩:=i
 cases c with
 |true=>exact f wh _ s1 σ H1 Q e d
 |false=>exact#[H1,e,d]
theorem pw_or(g:PT X a tA)(f:PW X (.BoolOp .Or (b::rest) pos) Ti):PW X (.BoolOp .Or (a::b::rest) pos) (tOr tA Ti):=by
 intro wh aC s σ H Q I h;refine isTrue_or (cz (g _ s σ H _ I h) λc s1 i=>?_)
 obtain⟨H1,e,d⟩:=i
 cases c with
 |true=>exact#[H1,e,d]
 |false=>exact f wh _ s1 σ H1 Q e d
theorem asT(b:PT X a tA):PT X (.UnaryOp .Not a pos) (avQ tA):=by
 intro aC s σ H Q I h;exact isTrue_not (b _ s σ H _ I h)
def auH(ta tb:TE):TE:=λσ H Q=>ta σ H λx H1=>∃c,x=.bl c/\if c=aq then tb σ H1 Q else Q (.bl aR) H1
def auI(ta:TE):TE:=λσ H Q=>ta σ H λx H1=>∃c,x=.bl c/\Q (.bl (!c)) H1
theorem asU{op}{t:TE}(h:PE X a t):PE X (.BoolOp op [a] pos) t:=λaC s σ H Q I hw=>BoolOp_one (h _ s σ H Q I hw)
theorem asV(i:PE X a ta)(g:PE X (.BoolOp .And (b::rest) pos) tb):PE X (.BoolOp .And (a::b::rest) pos) (auH ta tb):=by
 intro aC s σ H Q I h;refine BoolOp_and (cz (i _ s σ H _ I h) λv s1 f=>?_)
 obtain⟨x,H1,e,j,d⟩:=f
 obtain⟨c,rfl,d⟩:=d
 cases j;refine yz ?_;cases c with
 |true=>exact g _ s1 σ H1 Q e d
 |false=>exact#[.bl _,H1,e,rfl,d]
theorem asW(f:PE X a ta):PE X (.UnaryOp .Not a pos) (auI ta):=by
 intro aC s σ H Q I h;refine UnaryOp_ (cz (f _ s σ H _ I h) λv s1 e=>(hide λGG d=>?_))
 obtain⟨x,H1,i,g,b⟩:=e
 obtain⟨c,rfl,b⟩:=b
 cases g;exact d (not_of (yz #[.bl _,H1,i,rfl,b]))
def tIf(t:TT)(ta tb:TE):TE:=λσ H Q=>t σ H λc H1=>if c=aq then ta σ H1 Q else tb σ H1 Q
theorem ao8{c:Expr}(i:PT X c tA)(j:PE X a ta)(g:PE X b tb):PE X (.IfExp c a b pos) (tIf tA ta tb):=by
 intro aC s σ H Q I h;refine wpAny_IfExp (cz (i _ s σ H _ I h) λd s1 k=>?_)
 obtain⟨H1,f,e⟩:=k
 cases d with
 |true=>exact j _ s1 σ H1 Q f e
 |false=>exact g _ s1 σ H1 Q f e
end
def cA(K:bw)(H:Hp)(a:aH)(xs:041):Prop:=
 Rd H a (.lst xs)\/
  ∃(o:Obj)(aN:Array aL)(n:Nat),K.lookup a=aa o/\o.cls=.type "list"/\o.dict=aj/\o.data=.seq aN n/\aN.size<=cG/\Vals xs aN.toList
def dW(K:bw)(H:Hp)(a:aH)(xs:041):Prop:=
 Rd H a (.tup xs)\/
  ∃(o:Obj)(aN:Array aL)(n:Nat),K.lookup a=aa o/\o.cls=.type "tuple"/\o.data=.seq aN n/\aN.size<=cG/\Vals xs aN.toList
def avR:aL->Option V
 |.none=>aa .non
 |.bool b=>aa (.bl b)
 |.int i _=>aa (.int i)
 |.str x _=>aa (.str x)
 |.bytes b _=>aa (.tQ b)
 |.float b _=>aa (.flt b)
 |.ref a=>aa 043
 |.type n=>aa (.ty n)
 |_=>aj
theorem RelV.abs{x:V}{u:aL}(r:RelV x u):avR u=aa x:=by
 cases x with
 |non=>cases r;rfl
 |bl _=>cases r;rfl
 |int _=>obtain⟨t,rfl⟩:=r;rfl
 |str _=>obtain⟨t,rfl⟩:=r;rfl
 |tQ _=>obtain⟨t,rfl⟩:=r;rfl
 |flt _=>obtain⟨t,rfl⟩:=r;rfl
 |ref _=>cases r;rfl
 |ty _=>cases r;rfl
theorem RelV.inj{x y:V}{u:aL}(r:RelV x u)(q:RelV y u):x=y:=nO (r.abs.symm.trans q.abs)
theorem Vals.inj:∀{xs ys:041}{us:042},Vals xs us->Vals ys us->xs=ys
 |_,_,_,.nil,.nil=>rfl
 |_,_,_,.cons r t,.cons r' t'=>by rw[r.inj r',Vals.inj t t']
section
variable{X:Cx}{aC:List (aH×Obj)}{σ:St}{H:Hp}{s:bf}{a:aH}{xs ys:List V}
theorem cA.of{K:bw}(h:H a=aa (.lst xs)):cA K H a xs:=.inl (.inl h)
theorem dW.of{K:bw}(h:H a=aa (.tup xs)):dW K H a xs:=.inl (.inl h)
theorem Inv.list(I:03)(h:cA X.K H a xs):∃aN:List aL,Vals xs aN/\PlainL s.heap a aN.toArray/\xs.length<=cG:=by
 refine hide λGG b=>?_
 rcases h with h|⟨o,aN,n,d,c,f,hs,g,r⟩
 .obtain⟨z,aN,n,r,e⟩:=h.ok I.hok
  exact b (#[_,r,#[_,n,e,rfl,rfl,rfl],z])
 .refine b (#[_,r,#[o,n,I.j0 a o d,c,f,by trivial],?_]);have e:=r.length
  simp_all
theorem Inv.tuple(I:03)(h:dW X.K H a xs):∃aN:List aL,Vals xs aN/\IsTup s.heap a aN.toArray/\xs.length<=cG:=by
 refine hide λGG d=>?_
 rcases h with h|⟨o,aN,n,c,b,hs,f,r⟩
 .obtain⟨z,aN,r,p⟩:=h.ok I.hok
  grind
 .refine d (#[_,r,#[o,I.j0 a o c,b,n,by trivial],?_]);have e:=r.length
  simp_all
theorem Inv.Qn(I:03)(h:cA X.K H a xs)(h':cA X.K H a ys):xs=ys:=by
 obtain⟨f,r,⟨o,n,e,_,_,d⟩,_⟩:=I.list h
 obtain⟨b,r',⟨o',g,c,_,_,i⟩,_⟩:=I.list h'
 rw[e] at c;have:f=b:=c3
 subst this;exact r.inj r'
theorem Inv.anU(I:03)(h:dW X.K H a xs)(h':dW X.K H a ys):xs=ys:=by
 obtain⟨f,r,⟨o,e,_,n,d⟩,_⟩:=I.tuple h
 obtain⟨b,r',⟨o',c,_,g,i⟩,_⟩:=I.tuple h'
 rw[e] at c;have:f=b:=c3
 subst this;exact r.inj r'
end
abbrev Cx.wish(X:Cx)(E:aL->bf->Prop):Cx:={X with xe:=E}
abbrev Cx.Ih(X:Cx):Cx:=X.wish λ_ _=>False
theorem Cx.Ok.wish{X:Cx}(ok:X.Ok)(E:015):(X.wish E).Ok:=
 #[ok.mod,ok.kind,ok.glob,ok.blt,ok.above,ok.inj,ok.has,ok.cab,ok.hd,ok.frames,ok.stk,ok.exf,ok.bs,ok.Bq,ok.Lf,ok.Sq,ok.vU,ok.Ig]
theorem Cx.Ok.An{X:Cx}{E:015}(ok:(X.wish E).Ok):X.Ok:=
 #[ok.mod,ok.kind,ok.glob,ok.blt,ok.above,ok.inj,ok.has,ok.cab,ok.hd,ok.frames,ok.stk,ok.exf,ok.bs,ok.Bq,ok.Lf,ok.Sq,ok.vU,ok.Ig]
section
variable{X:Cx}{aC:List (aH×Obj)}{σ:St}{H:Hp}{s:bf}{E:aL->bf->Prop}
theorem Inv.wish(I:03)(E:015):Inv (X.wish E) aC σ H s:=#[I.ok.wish E,I.os,I.bare,I.base,I.loc,I.cell,I.free,I.vK,I.pin,I.hok,I.len]
theorem Inv.An(I:Inv (X.wish E) aC σ H s):Inv X aC σ H s:=#[I.ok.An,I.os,I.bare,I.base,I.loc,I.cell,I.free,I.vK,I.pin,I.hok,I.len]
theorem SP.An{D:Ends}{f:Flow}{s':bf}(h:SP (X.wish E) aC D f s'):SP X aC D f s':=by
 cases f with
 |next=>obtain⟨F',H',I,q⟩:=h;exact#[F',H',I.An,q]
 |brk=>obtain⟨F',H',I,q⟩:=h;exact#[F',H',I.An,q]
 |cont=>obtain⟨F',H',I,q⟩:=h;exact#[F',H',I.An,q]
 |ret u=>obtain⟨v,F',H',I,r,q⟩:=h;exact#[v,F',H',I.An,r,q]
theorem jQ.Ih{st:List dH}{t:TS}(h:jQ X.Ih st t):jQ X st t:=λaC s σ H D I hw=>
 vq (h _ s σ H D (I.wish _) hw) (λk k q=>q.An) λk k z=>Pk z
end
section
variable{X:Cx}{st:dH}{rest:List dH}{t u:TS}{e:Expr}{te:TE}{pos:Pos}
def auJ:TS:=λD σ H=>D.nx σ H
def aiJ(t u:TS):TS:=λD σ H=>t {D with nx:=u D} σ H
theorem aqK:jQ X [] auJ:=λk k σ H k I h=>Vi #[σ,H,I,h]
theorem ao9(h1:PS X st t)(h2:jQ X rest u):jQ X (st::rest) (aiJ t u):=by
 intro aC s σ H D I h;refine aly (cz (h1 _ s σ H _ I h) λf s1 q=>?_);cases f with
 |next=>
  obtain⟨F',H',a,q⟩:=q
  exact h2 _ s1 F' H' D a q
 |ret v=>exact q
 |brk=>exact q
 |cont=>exact q
theorem aqL(h1:PS X st t):jQ X [st] t:=by
 intro aC s σ H D I h;refine aly (cz (h1 _ s σ H D I h) λf s1 q=>?_);cases f with
 |next=>exact Vi q
 |ret v=>exact q
 |brk=>exact q
 |cont=>exact q
theorem Inv.quiet{aC:007}{σ:St}{H:Hp}{s:bf}(I:03):interactive X.env=aR:=by simp[interactive,I.ok.kind]
def auK(te:TE):TS:=λD σ H=>te σ H λ_ H1=>D.nx σ H1
theorem agc(he:PE X e te)(hs:p7 e aj pos.line X.env=pure aR:=by rfl):PS X (.Expr e pos) (auK te):=by
 intro aC s σ H D I h;exact wpAny_Expr_any (cz (he _ s σ H _ I h) λv s1 ⟨x,H1,b,c,a⟩=>#[σ,H1,b,a]) I.quiet hs
def avS(te:TE):TS:=λD σ H=>te σ H D.rt
theorem ahr(he:PE X e te):PS X (.Return (aa e) pos) (avS te):=by
 intro aC s σ H D I h;exact wpAny_Return_some (cz (he _ s σ H _ I h) λv s1 ⟨x,H1,c,b,a⟩=>#[x,σ,H1,c,b,a])
def aiK(c:TT)(t u:TS):TS:=λD σ H=>c σ H λb H1=>if b=aq then t D σ H1 else u D σ H1
theorem ail{c:Expr}{a b:List dH}{tc:TT}(k:PT X c tc)(j:jQ X a t)(i:jQ X b u):PS X (.If c a b pos) (aiK tc t u):=by
 intro aC s σ H D I h;refine wpAny_If (cz (k _ s σ H _ I h) λd s1 g=>?_)
 obtain⟨H1,f,e⟩:=g
 cases d with
 |true=>exact j _ s1 σ H1 D f e
 |false=>exact i _ s1 σ H1 D f e
end
abbrev TG:=V->St->Hp->(St->Hp->Prop)->Prop
abbrev zL:=List V->St->Hp->(St->Hp->Prop)->Prop
def PG(X:Cx)(target:Expr)(t:TG):Prop:=
 ∀(aC:007)(s:bf)(σ:St)(H:Hp)(v:V)(u:aL)(Q:St->Hp->Prop),Inv X aC σ H s->RelV v u->t v σ H Q->
  bH 02 X.A (assign target X.env u) (λ_ s'=>∃F' H',Inv X aC F' H' s'/\Q F' H') X.xe s
def Tj(X:Cx)(ts:057)(t:zL):Prop:=
 ∀(aC:007)(s:bf)(σ:St)(H:Hp)(vs:041)(us:042)(Q:St->Hp->Prop),Inv X aC σ H s->Vals vs us->t vs σ H Q->
  bH 02 X.A (assignInOrder ((xj ts X.env).map (·.2)) us) (λ_ s'=>∃F' H',Inv X aC F' H' s'/\Q F' H') X.xe s
abbrev aaD:=V->V->V->Hp->(Hp->Prop)->Prop
def zE(X:Cx)(t:aaD):Prop:=
 ∀(aC:007)(s:bf)(σ:St)(H:Hp)(o i v:V)(ov iv u:aL)(Q:Hp->Prop),Inv X aC σ H s->RelV o ov->RelV i iv->RelV v u->t o i v H Q->
  bH 02 X.A (setItem ov iv u) (λ_ s'=>∃H',Inv X aC σ H' s'/\Q H') X.xe s
abbrev Tn:=V->V->Hp->VK->Prop
def PIp(X:Cx)(op:Operator)(t:Tn):Prop:=
 ∀(aC:007)(s:bf)(σ:St)(H:Hp)(x y:V)(v u:aL)(Q:VK),Inv X aC σ H s->RelV x v->RelV y u->t x y H Q->
  bH 02 X.A (inplaceOp op v u) (EP X aC σ Q) X.xe s
section
variable{X:Cx}{pos:Pos}
def qQ(i:Nat):TG:=λv σ H Q=>Q (σ.set i (aa v)) H
theorem agd{i:Nat}{x:Str}(hN:049)(hi:X.N[i]?=aa x)(a:044)(c:X.fn x=aq\/X.env.scope.names.lookup x=aa .local:=by first|exact .inl rfl|exact .inr rfl|assumption):PG X (.Name x pos) (qQ i):=by
 intro aC s σ H v u Q I r h;exact Ng (xr I hN hi a r (λs' b=>#[_,H,b,h]) c)
def aaE:zL:=λvs σ H Q=>vs=[]/\Q σ H
def aag(t:TG)(u:zL):zL:=λvs σ H Q=>∃v r,vs=v::r/\t v σ H λF' H'=>u r F' H' Q
theorem CZ:Tj X [] aaE:=by
 intro aC s σ H vs us Q I r h
 obtain⟨e,h⟩:=h
 exact assignInOrder_nil #[σ,H,I,h]
theorem pF{e:Expr}{es:057}{t:TG}{u:zL}(h1:PG X e t)(h2:Tj X es u)
  (hs:(xj (e::es) X.env).map (·.2)=assign e X.env::(xj es X.env).map (·.2):=by rfl):Tj X (e::es) (aag t u):=by
 intro aC s σ H vs us Q I r h
 obtain⟨v,d,e1,h⟩:=h
 subst e1;cases r with
 |cons r rr=>
  rw[hs];refine assignInOrder_cons (cz (h1 _ s σ H _ _ _ I r h) λk s1 b=>?_)
  obtain⟨F1,H1,c,a⟩:=b
  exact h2 _ s1 F1 H1 _ _ Q c rr a
def aaF(K:bw)(n:Nat)(t:zL):TG:=λv σ H Q=>∃a xs,v=.ref a/\dW K H a xs/\xs.length=n/\t xs σ H Q
theorem Di{es:057}{k:Nat}{t:zL}{n:Nat}(i:035)(h:Tj X es t)
  (m:(xj es X.env).length=n:=by rfl)(d:(xj es X.env).findIdx? (·.1)=aj:=by rfl):PG X (.Tuple es k pos) (aaF X.K n t):=by
 intro aC s σ H v u Q I r c;refine hide λGG f=>?_
 obtain⟨a,xs,e1,l,hl,c⟩:=c
 subst e1;cases r
 obtain⟨w,p,ht,q⟩:=I.tuple l
 refine f (assign_Tuple_tuple (I.ok.hd i) ht (by simp[m,<-hl,p.length]) d λh' g=>?_);have j:=I.kept (t':=s.toks) λb o e=>g b o (fH (dj e)) e
 exact h _ _ σ H xs _ Q j 07 c
def avT(to ti:TE)(t:aaD):TG:=λv σ H Q=>to σ H λo H1=>ti σ H1 λi H2=>t o i v H2 λH3=>Q σ H3
theorem asY{o i:Expr}{to e:TE}{t:aaD}(w:PE X o to)(hi:PE X i e)(hs:zE X t)
  (k:∀v,assign (.Subscript o i pos) X.env v=(do
   let a <-rR [v] (eval o X.env)
   let c <-rR [v,a] (eval i X.env)
   xx pos
   rR [v,a,c] (setItem a c v)
   release [v,a,c] []):=by intro _;rfl):PG X (.Subscript o i pos) (avT to e t):=by
 intro aC s σ H v u Q I r h;rw[k];refine aQ (m9 (cz (w _ s σ H _ I h) λa s1 b=>hide λGG d=>?_))
 obtain⟨x,H1,p,n,g⟩:=b
 refine d (aQ (m9 (cz (hi _ s1 σ H1 _ p g) λc l b=>(hide λGG d=>?_))))
 obtain⟨y,H2,q,z,f⟩:=b
 refine d (aQ (Ab (aQ (m9 (cz (hs _ l σ H2 x y v a c u _ q n z r f) λ_ B b=>?_)))))
 obtain⟨A,m,j⟩:=b
 exact wpAny_release #[σ,A,m,j]
def vV(te:TE)(g:TG):TS:=λD σ H=>te σ H λx H1=>g x σ H1 D.nx
theorem Zq{tg e:Expr}{te:TE}{g:TG}(he:PE X e te)(hg:PG X tg g)(hs:Cp [tg] e pos.line X.env=pure aR:=by rfl)(b:Cq [tg] e X.env=pure aj:=by rfl)
  (h1:(xj [tg] X.env).map (·.2)=[assign tg X.env]:=by rfl):PS X (.Assign [tg] e pos) (vV te g):=by
 intro aC s σ H D I h;refine wpAny_Assign_stores (cz (he _ s σ H _ I h) λv s1 c=>?_) hs b
 obtain⟨x,H1,f,d,a⟩:=c
 rw[h1];exact cz (hg _ s1 σ H1 x v _ f d a) λk i q=>q
theorem G5{i:Nat}{x:Str}{e:Expr}{te:TE}{a:Pos}(hN:049)(hi:X.N[i]?=aa x)(f:044)(he:PE X e te)(hs:p7 e (aa (.Name x a)) pos.line X.env=pure aR:=by rfl)(d:X.fn x=aq\/X.env.scope.names.lookup x=aa .local:=by first|exact .inl rfl|exact .inr rfl|assumption):
  PS X (.Assign [.Name x a] e pos) (vV te (qQ i)):=by
 intro aC s σ H D I h;refine wpAny_Assign_Name (cz (he _ s σ H _ I h) λv s1 c=>?_) hs
 obtain⟨y,H1,j,g,b⟩:=c
 exact xr j hN hi f g (λl k=>#[_,H1,k,b]) d
def avU(i j:Nat)(ta:TA):TS:=λD σ H=>ta σ H λvs H1=>∃v w,vs=[v,w]/\D.nx ((σ.set i (aa v)).set j (aa w)) H1
theorem asZ{i j:Nat}{x y:Str}{a b:Expr}{ta:TA}{l m pt:Pos}{kt k2 rD}(J:035)(hN:049)(hi:X.N[i]?=aa x)(C:X.N[j]?=aa y)(n:i≠j)
  (t:X.env.scope.names.lookup x=aa .local)(r:023)(E:PA X [a,b] ta)
  (A:Cq [.Tuple [.Name x l,.Name y m] kt pt] (.Tuple [a,b] k2 rD) X.env=pure (aa [x,y]))
  (hs:Cp [.Tuple [.Name x l,.Name y m] kt pt] (.Tuple [a,b] k2 rD) pos.line X.env=pure aR:=by rfl):
  PS X (.Assign [.Tuple [.Name x l,.Name y m] kt pt] (.Tuple [a,b] k2 rD) pos) (avU i j ta):=by
 intro aC s σ H D I h;refine aQ (Ab ?_);refine aQ (bM (aQ (Tuple_ (cz (E _ _ s σ H _ I h) λus s1 B=>?_))))
 obtain⟨vs,H1,K,G,f⟩:=B
 obtain⟨v,w,e1,f⟩:=f
 subst e1
 obtain⟨c,d,rfl,L,g⟩:∃c d,us=[c,d]/\RelV v c/\RelV w d:=by
  refine hide λGG N=>?_
  cases G with
  |cons p q=>
   cases q with
   |cons p' q'=>
    cases q'
    lia
 refine qD ?_ (by show 2<=cG;decide);have M:Inv X _ σ H1 {s1 with heap:=s1.heap.push {cls:=.type "tuple",data:=.seq [c,d].toArray}}:=K.kept λb o e=>dF _ e
 rw[A];refine aQ (bM (aQ (wZ (aQ (unpackItems_tuple (items:=#v[c,d]) (I.ok.hd J) (IsTup.new _ _) λh' k=>?_)))));have F:=M.kept (t':=s1.toks) λb o e=>k b o (fH (dj e)) e
 refine aQ (assignInOrder_cons (Nx (xr F hN C (.inl r) g (λO z=>(assignInOrder_cons (Nx (xr z hN hi (.inl t) L (λP u=>assignInOrder_nil (bM ?_)) (.inr t))))) (.inr r))));rw[Vy _ _ (jW n)] at u
 exact#[_,H1,u,f]
def avV(i:Nat)(te:TE)(ti:Tn):TS:=λD σ H=>∃x,σ[i]?=aa (aa x)/\te σ H λy H1=>ti x y H1 λz H2=>D.nx (σ.set i (aa z)) H2
theorem as3{i:Nat}{x:Str}{e:Expr}{te:TE}{op:Operator}{n:Tn}{b:Pos}(hN:049)(hi:X.N[i]?=aa x)(g:044)(he:PE X e te)(F:PIp X op n)(q:X.fn x=aq\/X.env.scope.names.lookup x=aa .local:=by first|exact .inl rfl|exact .inr rfl|assumption):
  PS X (.AugAssign (.Name x b) op e pos) (avV i te n):=by
 intro aC s σ H D I h;refine hide λGG d=>?_
 obtain⟨v,e1,h⟩:=h
 obtain⟨m,C,hl⟩:=I.loc
 have j:Ie X.env.scope x:=by rcases g with k|k;exact .inl k;exact .inr (.inl k)
 obtain⟨u,r,l⟩:=hl i x v hi e1 j
 refine d (wpAny_AugAssign_Name ?_);have go:bH (model X.prog X.w) X.A (eval e X.env) (λw s₂=>bH 02 X.A (inplaceOp op u w) (λr s₃=>bH 02 X.A (storeName X.env x r) (λ_=>SP X aC D .next) X.xe s₃) X.xe s₂) X.xe s:=by
  refine cz (he _ s σ H _ I h) λw s1 f=>?_
  obtain⟨y,H1,B,A,p⟩:=f
  refine cz (F _ s1 σ H1 v y u w _ B r A p) λz K f=>?_
  obtain⟨J,H2,E,G,o⟩:=f
  exact xr E hN hi g G (λL t=>#[_,H2,t,o]) q
 refine hide λGG d=>?_
 rcases l with⟨a,hm⟩|⟨a,c,hc,hcell⟩
 .exact d (akI I.ok.kind a C hm go)
 .rcases a with a|a
  .exact d (akT I.ok.kind a hc hcell go)
  .rcases g with k|k
   .have:X.env.scope.names.lookup x=aa _:=a
    lia
   .have:X.env.scope.names.lookup x=aa _:=a
    lia
def ipI(f:Int->Int->Int):Tn:=λx y H Q=>∃i j,x=.int i/\y=.int j/\Q (.int (f i j)) H
theorem as4:PIp X .Add (ipI λi j=>i+j):=by
 intro aC s σ H x y v u Q I a b h
 obtain⟨i,j,e1,e2,q⟩:=h
 subst e1;subst e2
 obtain⟨t,rfl⟩:=a
 obtain⟨c,rfl⟩:=b
 exact iadd_int #[.int _,H,I.tok _,05,q]
end
section
variable{X:Cx}{pos:Pos}
def ahs(c:TT)(tb:TS):TS:=λD σ H=>∃W:Nat->St->Hp->Prop,(∃m,W m σ H)/\∀m σ H,W m σ H->
 c σ H λb H1=>if b=aq then ∃N:St->Hp->Prop,(∀F' H',N F' H'->∃m',m'<m/\W m' F' H')/\tb {D with nx:=N,ct:=N,bk:=D.nx} σ H1 else D.nx σ H1
theorem apa{c:Expr}{body:List dH}{tc:TT}{tb:TS}(e:PK 02 X.A X.env X.xe)(o:PT X c tc)(k:jQ X body tb):PS X (.While c body [] pos) (ahs tc tb):=by
 intro aC s σ H D I h
 obtain⟨W,⟨q,p⟩,turn⟩:=h
 refine wpAny_While (codeAny_whileLoop (λn s'=>∃F' H',Inv X _ F' H' s'/\W n F' H') ?_ q #[σ,H,I,p]);rintro n s1 ⟨F1,H1,I1,w1⟩;refine Eu e (cz (o _ s1 F1 H1 _ I1 (turn n F1 H1 w1)) λb l j=>?_)
 obtain⟨H2,g,a⟩:=j
 cases b with
 |true=>
  obtain⟨N,hN,a⟩:=a
  refine Eu e (cz (k _ l F1 H2 _ g a) λf t d=>?_);cases f with
  |next=>
   obtain⟨F3,r,m,i⟩:=d
   grind
  |cont=>
   obtain⟨F3,r,m,i⟩:=d
   grind
  |brk=>trivial
  |ret v=>trivial
 |false=>
  exact Vi #[F1,H2,g,a]
end
structure It where
 go:Nat->Hp->Prop
 Mi:Nat->Hp->V->Hp->Prop
 stop:Nat->Hp->Prop
def mC(X:Cx)(aC:007)(H:Hp)(b:aH):Prop:=
 H b=aj/\b≠X.env.locals/\b∉X.fs/\(b∈X.ex\/X.s₀.heap.objs.size<=b)/\(∀x c,X.env.cells.lookup x=aa c->c≠b)/\∀p∈X.pn++aC,p.1≠b
theorem Inv.xZ{X:Cx}{aC:007}{σ:St}{H H':Hp}{s:bf}{b:aH}(I:03)(a:s.heap.objs.size<=b)(d:H' b=aj):mC X aC H' b:=by
 refine#[d,yJ (qz I.lt a),I.avP a,.inr (jw I.sz a),λx c e z=>?_,λp f z=>?_]
 .obtain⟨v,q⟩:=I.cell x c e
  exact absurd (qz q.lt 07) (u9 _)
 .exact absurd (qz (dj (I.pin p f).1) 07) (u9 _)
structure Turn(P:dY)(w:cW)(K:bw)(tg:Expr)(J:It)(fp:List aH)(it:aH)(tn:Nat->cF->Prop):Prop where
 mem:it∈fp
 obj:∀i h,tn i h->∀b∈fp,∃o,h.get? b=aa o/\∀v,o.data≠.cell v
 keep:∀i h h',tn i h->(∀b∈fp,∀o,h.get? b=aa o->h'.get? b=aa o)->tn i h'
 item:∀(X:Cx),X.prog=P->X.w=w->X.K=K->X.calm=aq->∀(i:Nat)(aC:007)(s:bf)(σ:St)(H:Hp)(E:015),Inv X aC σ H s->(∀b∈fp,mC X aC H b)->tn i s.heap->J.go i H->
  bH (model P w) X.A (ux (.ref it)) (λr s1=>∃u,r=aa u/\
   bH (model P w) X.A (Ew tg (.ref it) u) (λ_ s2=>∃x H',Inv X aC σ H' s2/\RelV x u/\J.Mi i H x H'/\tn (i+1) s2.heap/\∀b∈fp,H' b=aj) E s1) E s
 done:∀(X:Cx),X.prog=P->X.w=w->X.K=K->X.calm=aq->∀(i:Nat)(aC:007)(s:bf)(σ:St)(H:Hp)(E:015),Inv X aC σ H s->(∀b∈fp,mC X aC H b)->tn i s.heap->J.stop i H->
  bH (model P w) X.A (ux 047) (λr s1=>r=aj/\Inv X aC σ H s1) E s
 self:∀(A:fB)(i:Nat)(s:bf)(Q:015)(E:015),tn i s.heap->Q 047 s->bH (model P w) A (G6 047) Q E s
abbrev TI:=St->Hp->(It->Hp->Prop)->Prop
def PIE(X:Cx)(aC:007)(σ:St)(tg:Expr)(R:It->Hp->Prop)(itv:aL)(s2:bf):Prop:=
 ∃(it:aH)(fp:040)(tn:Nat->cF->Prop)(J:It)(H':Hp),itv=.ref it/\Inv X aC σ H' s2/\Turn X.prog X.w X.K tg J fp it tn/\tn 0 s2.heap/\(∀b∈fp,mC X aC H' b)/\R J H'
def PI(X:Cx)(tg iter:Expr)(wi:TI):Prop:=
 ∀(aC:007)(s:bf)(σ:St)(H:Hp)(R:It->Hp->Prop),Inv X aC σ H s->wi σ H R->
  bH 02 X.A (eval iter X.env) (λv s1=>bH 02 X.A (G6 v) (PIE X aC σ tg R) X.xe s1) X.xe s
theorem RM{M:Model}{A:fB}{E:015}{s:bf}{tg:Expr}{it:aH}{u:aL}{o:Obj}{n:String}{vs:Array aL}{Q:Unit->bf->Prop}(c:s.heap.get? it=aa o)(b:o.cls=.type n)(hd:o.data=.fields vs)
  (d:["enumerate","zip","dict_itemiterator","dict_reverseitemiterator","odict_iterator","itertools.zip_longest","itertools.pairwise"].contains n=aR)(a:Q () s):bH M A (Ew tg 047 u) Q E s:=by
 cases tg<;>first
  |exact bM a
  |(cases u<;>first
    |exact bM a
    |(refine aQ (Pn c ?_)
      rw[b,hd];show bH M A (if(["enumerate","zip","dict_itemiterator","dict_reverseitemiterator","odict_iterator","itertools.zip_longest","itertools.pairwise"].contains n&&vs[0]?==aa _)=aq then _ else _) Q E s;rw[cC (c3)];exact bM a))
def Itl(K:bw)(a:aH):It:=
 #[λi H=>∃xs x,cA K H a xs/\xs[i]?=aa x,λi H x H'=>H'=H/\∀xs,cA K H a xs->xs[i]?=aa x,λi H=>∃xs,cA K H a xs/\xs.length<=i]
def Itt(K:bw)(a:aH):It:=
 #[λi H=>∃xs x,dW K H a xs/\xs[i]?=aa x,λi H x H'=>H'=H/\∀xs,dW K H a xs->xs[i]?=aa x,λi H=>∃xs,dW K H a xs/\xs.length<=i]
def Tp(lo:Int)(n:Nat):It:=#[λi _=>i<n,λi H x H'=>H'=H/\x=.int (lo+i),λi _=>n<=i]
theorem anV{P:dY}{w:cW}{K:bw}{tg:Expr}(a it:aH):Turn P w K tg (Itl K a) [it] it (λi h=>h.IsListIter it a i) where
 mem:=cg
 obj:=λi h st b f=>by
  have e:=by simpa using f
  subst e
  obtain⟨o,e,c,d⟩:=st
  exact#[o,e,λv z=>by rw[d] at z;cases z]
 keep:=λi h h' st k=>st.at λo e=>k it cg o e
 item:=by
  intro X hP n A F i aC s σ H E I j st hg;subst hP n A;refine hide λGG q=>?_
  obtain⟨xs,x,l,D⟩:=hg
  obtain⟨L,B,p,G⟩:=I.list l
  obtain⟨u,R,Q⟩:=B.get D
  obtain⟨t,y,O,C,m,r⟩:=j it cg
  refine q (wpAny_pyNext_list_item st p.isList (by simpa using R) λh' g sb=>?_);have N:=I.turned (t':=s.toks) (λb o f e=>(sb.2 b f).trans e) t y C m r
  obtain⟨o,e,c,d⟩:=id g
  exact#[u,rfl,RM e c d (rfl) #[x,H,N,Q,#[rfl,λys J=>by rwa [I.Qn J l]],g,λb f=>(j b f).1]]
 done:=by
  intro X hP n A F i aC s σ H E I j st hg;refine hide λGG q=>?_
  subst hP n A
  obtain⟨xs,l,D⟩:=hg
  obtain⟨L,B,p,G⟩:=I.list l
  obtain⟨t,y,O,C,m,r⟩:=j it cg
  have hl:=B.length;exact q (wpAny_pyNext_list_end (I.ok.hd F) st p.isList (by simp;lia) λh' M=>#[rfl,I.turned (λb o f e=>M b o f e) t y C m r])
 self:=λ_ _ _ _ _ st h=>wpAny_pyIter_listiter st h
theorem am8{P:dY}{w:cW}{K:bw}{tg:Expr}(a it:aH):Turn P w K tg (Itt K a) [it] it (λi h=>h.IsTupleIter it a i) where
 mem:=cg
 obj:=λi h st b f=>by
  have e:=by simpa using f
  subst e
  obtain⟨o,e,c,d⟩:=st
  exact#[o,e,λv z=>by rw[d] at z;cases z]
 keep:=λi h h' st k=>st.at λo e=>k it cg o e
 item:=by
  intro X hP n A F i aC s σ H E I j st hg;subst hP n A;refine hide λGG q=>?_
  obtain⟨xs,x,l,D⟩:=hg
  obtain⟨L,B,p,G⟩:=I.tuple l
  obtain⟨u,R,Q⟩:=B.get D
  obtain⟨t,y,O,C,m,r⟩:=j it cg
  refine q (wpAny_pyNext_tuple_item st (p) (by simpa using R) λh' g sb=>?_);have N:=I.turned (t':=s.toks) (λb o f e=>(sb.2 b f).trans e) t y C m r
  obtain⟨o,e,c,d⟩:=id g
  exact#[u,rfl,RM e c d (rfl) #[x,H,N,Q,#[rfl,λys J=>by rwa [I.anU J l]],g,λb f=>(j b f).1]]
 done:=by
  intro X hP n A F i aC s σ H E I j st hg;refine hide λGG q=>?_
  subst hP n A
  obtain⟨xs,l,D⟩:=hg
  obtain⟨L,B,p,G⟩:=I.tuple l
  obtain⟨t,y,O,C,m,r⟩:=j it cg
  have hl:=B.length;exact q (wpAny_pyNext_tuple_end (I.ok.hd F) st (p) (by simp;lia) λh' M=>#[rfl,I.turned (λb o f e=>M b o f e) t y C m r])
 self:=λ_ _ _ _ _ st h=>wpAny_pyIter_tupleiter st h
theorem am9{P:dY}{w:cW}{K:bw}{tg:Expr}(it:aH)(lo:Int)(n:Nat):Turn P w K tg (Tp lo n) [it] it (λi h=>IsRangeIter h it (lo+(i:Nat)*1) ((n:Int)-(i:Nat)) 1) where
 mem:=cg
 obj:=λi h st b a=>by
  have e:=by simpa using a
  subst e
  exact⟨_,st,λv z=>by
   have D:=z;cases D⟩
 keep:=λi h h' st k=>k it cg _ st
 item:=by
  intro X hP q r m i aC s σ H E I d st hg;subst hP q r
  obtain⟨j,l,C,p,f,g⟩:=d it cg
  have W:=Walks.range (prog:=X.prog) (w:=X.w) (I.ok.hd m) it lo 1 n;refine W.item i s _ _ hg st λv h' A u c x=>?_
  obtain⟨t,rfl⟩:=u
  have B:Inv X _ σ H {s with heap:=h',toks:=A}:=I.turned (λb o a e=>x b o (by simpa using a) e) j l p f g
  refine#[_,rfl,RM c rfl rfl (rfl) #[.int _,H,B,#[t,?_],#[rfl,rfl],c,λb a=>(d b a).1]]
  rw[adH]
 done:=by
  intro X hP q r m i aC s σ H E I d st hg
  obtain⟨j,l,C,p,f,g⟩:=d it cg
  exact wpAny_pyNext_range_end (I.ok.hd m) st (by have:n<=i:=hg;lia) λh' y=>#[rfl,I.turned (λb o a e=>y b o a e) j l p f g]
 self:=λ_ _ _ _ _ st h=>wpAny_pyIter_rangeiter st h
section
variable{X:Cx}{tg:Expr}
def aah(K:bw)(tl:TE):TI:=λσ H R=>tl σ H λx H1=>∃a,x=.ref a/\(∃xs,cA K H1 a xs)/\R (Itl K a) H1
def avW(K:bw)(tl:TE):TI:=λσ H R=>tl σ H λx H1=>∃a,x=.ref a/\(∃xs,dW K H1 a xs)/\R (Itt K a) H1
theorem JV{l:Expr}{tl:TE}(hl:PE X l tl):PI X tg l (aah X.K tl):=by
 intro aC s σ H R I h;refine cz (hl _ s σ H _ I h) λv s1 g=>hide λGG f=>?_
 obtain⟨x,H1,c,j,d⟩:=g
 obtain⟨a,e,⟨xs,k⟩,q⟩:=d
 subst e;cases j
 obtain⟨n,r,p,m⟩:=c.list k
 refine f (U0 p.isList #[_,_,_,_,H1,rfl,c.kept λb o e=>dF _ e,anV a _,#[_,ji _ rfl,rfl,rfl],λb i=>?_,q]);have e:=by simpa using i
 subst e;exact c.xZ 046 (c.hok.fresh 046)
theorem Zr{l:Expr}{tl:TE}(hl:PE X l tl):PI X tg l (avW X.K tl):=by
 intro aC s σ H R I h;refine cz (hl _ s σ H _ I h) λv s1 g=>hide λGG f=>?_
 obtain⟨x,H1,c,j,d⟩:=g
 obtain⟨a,e,⟨xs,k⟩,q⟩:=d
 subst e;cases j
 obtain⟨n,r,p,m⟩:=c.tuple k
 refine f (wpAny_pyIter_tuple (p) #[_,_,_,_,H1,rfl,c.kept λb o e=>dF _ e,am8 a _,#[_,ji _ rfl,rfl,rfl],λb i=>?_,q]);have e:=by simpa using i
 subst e;exact c.xZ 046 (c.hok.fresh 046)
theorem apb{aC:007}{σ:St}{H:Hp}{s:bf}{R:It->Hp->Prop}{E:015}{lo hi:Int}{t u v:Tok}{c:Nat}(I:03)(h1:-(2^62)<=lo)(h2:lo<2^62)(f:-(2^62)<=hi)(d:hi<2^62)
  (q:R (Tp lo (hi-lo).toNat) H):bH 02 X.A (G6 048) (PIE X aC σ tg R) E {s with heap:=s.heap.push {cls:=.type "range",data:=.fields #v[.int lo t,.int hi u,.int 1 v]},toks:=c}:=by
 refine wpAny_pyIter_range (IsRange.new ..) (small_one h1 h2 f d) ?_;have a:Inv X _ σ H {s with heap:=s.heap.push {cls:=.type "range",data:=.fields #v[.int lo t,.int hi u,.int 1 v]},toks:=c}:=I.kept λb o e=>dF _ e
 refine⟨_,_,_,_,H,rfl,
  a.kept λb o e=>dF _ e,am9 _ lo _,?_,λb g=>?_,q⟩
 .have e1:lo+((0:Nat))*1=lo:=cg;have e2:(((hi-lo).toNat))-(0:Nat)=ayV lo hi 1:=by rw[rangeSize_one];grind
  rw[e1,e2];exact ji _ rfl
 .have e:b=(s.heap.push {cls:=.type "range",data:=.fields #v[.int lo t,.int hi u,.int 1 v]}).objs.size:=by simp_all
  subst e;exact a.xZ 046 (a.hok.fresh 046)
def auL(ta:TA):TI:=λσ H R=>ta σ H λvs H1=>∃j:Int,vs=[.int j]/\-(2^62)<=j/\j<2^62/\R (Tp 0 j.toNat) H1
theorem anW{a:Expr}{ta:TA}{p pos:Pos}(hg:Gl X "range")(l:X.mg "range"=aj)(g:PA X [a] ta)(hs:bV [a] X.env=[(010 a)]:=by rfl):PI X tg (.Call (.Name "range" p) [a] [] pos) (auL ta):=by
 intro aC s σ H R I h;refine Call_ (yV I hg l boot_range (Us (cz (g _ _ s σ H _ I h) λus s1 f=>(hide λGG d=>?_)) hs rfl))
 obtain⟨vs,H1,k,i,b⟩:=f
 obtain⟨j,e,b,c,q⟩:=b
 subst e;cases i with
 |cons r rr=>
  cases rr
  obtain⟨t,rfl⟩:=r
  exact d (call_range_1 (apb k c4 c4 b c (c4)))
def aaG(wi:TI)(g:TG)(tb:TS):TS:=λD σ H=>wi σ H λJ H1=>∃W:Nat->Nat->St->Hp->Prop,(∃m,W 0 m σ H1)/\∀i m σ H,W i m σ H->
 (J.stop i H/\D.nx σ H)\/(J.go i H/\∃N:St->Hp->Prop,(∀F' H',N F' H'->∃m',m'<m/\W (i+1) m' F' H')/\∀x H',J.Mi i H x H'->g x σ H' λF2 H2=>tb {D with nx:=N,ct:=N,bk:=D.nx} F2 H2)
def Zt(fp:040)(h:cF):List (aH×Obj):=fp.filterMap λb=>(h.get? b).map λo=>(b,o)
theorem Pq{fp:040}{h:cF}{b:aH}{o:Obj}(a:b∈fp)(e:h.get? b=aa o):(b,o)∈Zt fp h:=ak1.mpr #[b,a,c8]
theorem anY{fp:040}{h:cF}{p:aH×Obj}(a:p∈Zt fp h):p.1∈fp/\h.get? p.1=aa p.2:=by
 obtain⟨b,c,e⟩:=ak1.mp a
 cases q:h.get? b with
 |none=>grind
 |some o=>
  grind
theorem Inv.pinned{aC:007}{σ:St}{H:Hp}{s:bf}{fp:040}(I:03)(d:∀b∈fp,mC X aC H b)(g:∀b∈fp,∃o,s.heap.get? b=aa o/\∀v,o.data≠.cell v):Inv X (aC++Zt fp s.heap) σ H s:=
 I.af9 λp c=>(gP.mp c).elim (λz=>I.pin p (jH _ z)) λz=>by
  obtain⟨a,e⟩:=anY z
  obtain⟨f,h,i,_⟩:=d _ a
  grind
theorem Inv.Qo{aC b:007}{σ:St}{H:Hp}{s:bf}(I:Inv X (aC++b) σ H s):Inv X aC σ H s:=I.af9 λp a=>I.pin p (jH _ (pB _ a))
theorem aht{iter:Expr}{body:List dH}{wi:TI}{g:TG}{tb:TS}{pos:Pos}(y:PK 02 X.A X.env X.xe)(L:035)(hi:PI X tg iter wi)(hg:PG X tg g)(l:jQ X body tb)
  (hs:∀x,tY iter X.env x=pure x:=by intro _;rfl):PS X (.For tg iter body [] pos) (aaG wi g tb):=by
 intro aC s σ H D I h;refine wpAny_For (cz (hi aC s σ H _ I h) λv s1 h1=>cz h1 λV s2 h2=>hide λGG q=>?_) hs
 obtain⟨it,fp,tn,J,H2,e,I2,T,B,G,W,⟨m0,Y⟩,turn⟩:=h2
 subst e;have j:∀{H':Hp},(∀b∈fp,H' b=aj)->∀b∈fp,mC X aC H' b:=λhn b l=>#[hn b l,(G b l).2]
 refine q (codeAny_forLoop_any (λn s'=>∃i F' H',Inv X aC F' H' s'/\tn i s'.heap/\(∀b∈fp,H' b=aj)/\W i n F' H') ?_ m0 #[0,σ,H2,I2,B,λb l=>(G b l).1,Y]);rintro n s3 ⟨i,F3,H3,I3,st3,Mj,w3⟩;refine hide λGG q=>?_
 rcases turn i n F3 H3 w3 with⟨stop,qn⟩|⟨go,N,hN,step⟩
 .refine q (Eu y (cz (T.done X rfl rfl rfl L i aC s3 F3 H3 _ I3 (j Mj) st3 stop) λr Q t=>?_))
  obtain⟨F,I4⟩:=t
  subst F;exact Vi #[F3,H3,I4,qn]
 .refine q (Eu y (cz (T.item X rfl rfl rfl L i aC s3 F3 H3 _ I3 (j Mj) st3 go) λr Q t=>?_))
  obtain⟨u,F,S⟩:=t
  subst F;refine Eu y (cz S λ_ O t=>(hide λGG q=>?_))
  obtain⟨x,K,I5,r5,U,C,E⟩:=t
  have z:=I5.pinned (j E) (T.obj _ _ C);refine q (Eu y (cz (hg _ O F3 K x u _ z r5 (step x K U)) λ_ M t=>?_))
  obtain⟨F6,H6,R,q6⟩:=t
  refine Eu y (cz (l _ M F6 H6 _ R q6) λf A p=>?_);have a:∀{F7:St}{c:Hp},Inv X _ F7 c A->N F7 c->∃m,m<n/\∃i F' H',Inv X aC F' H' A/\tn i _/\(∀b∈fp,H' b=aj)/\W i m F' H':=λ{F7 c} k w=>by
   obtain⟨m',hm,Z⟩:=hN F7 c w
   refine#[m',hm,_,F7,c,k.Qo,T.keep _ _ _ C λb l o e=>(k.pin _ (jH _ (jH _ (Pq l e)))).1,λb l=>?_,Z]
   obtain⟨o,e,d⟩:=T.obj _ _ C b l
   exact(k.pin _ (jH _ (jH _ (Pq l e)))).2.1
  cases f with
  |next=>obtain⟨F7,c,k,w⟩:=p;exact a k w
  |cont=>obtain⟨F7,c,k,w⟩:=p;exact a k w
  |brk=>obtain⟨F7,c,k,p⟩:=p;exact#[F7,c,k.Qo,p]
  |ret v=>refine hide λGG q=>?_;obtain⟨x7,F7,c,k,P,p⟩:=p;exact q (#[x7,F7,c,k.Qo,P,p])
end
abbrev R2:=V->V->Hp->VK->Prop
def dX(X:Cx)(f:aL->aL->Sem aL)(r:R2):Prop:=
 ∀(aC:007)(s:bf)(σ:St)(H:Hp)(x y:V)(v u:aL)(Q:VK),Inv X aC σ H s->RelV x v->RelV y u->r x y H Q->
  bH 02 X.A (f v u) (EP X aC σ Q) X.xe s
def UnR(X:Cx)(f:aL->Sem aL)(r:V->Hp->VK->Prop):Prop:=
 ∀(aC:007)(s:bf)(σ:St)(H:Hp)(x:V)(v:aL)(Q:VK),Inv X aC σ H s->RelV x v->r x H Q->
  bH 02 X.A (f v) (EP X aC σ Q) X.xe s
def jh(X:Cx)(f:aL)(r:List V->Hp->VK->Prop):Prop:=
 ∀(aC:007)(s:bf)(σ:St)(H:Hp)(xs:041)(us:042)(Q:VK),Inv X aC σ H s->Vals xs us->r xs H Q->
  bH 02 X.A (call f us) (EP X aC σ Q) X.xe s
def avX(X:Cx)(r:V->Hp->(Bool->Hp->Prop)->Prop):Prop:=
 ∀(aC:007)(s:bf)(σ:St)(H:Hp)(x:V)(v:aL)(Q:Bool->Hp->Prop),Inv X aC σ H s->RelV x v->r x H Q->
  bH 02 X.A (truthy v) (TP X aC σ Q) X.xe s
def DX(r:R2)(ta tb:TE):TE:=λσ H Q=>ta σ H λx H1=>tb σ H1 λy H2=>r x y H2 Q
def tUn(r:V->Hp->VK->Prop)(ta:TE):TE:=λσ H Q=>ta σ H λx H1=>r x H1 Q
def rI(C:Int->Int->Prop)(g:Int->Int->V):R2:=λx y H Q=>∃i j,x=.int i/\y=.int j/\C i j/\Q (g i j) H
def tU(g:Int->Int->V):R2:=λx y H Q=>∃i j,x=.int i/\y=.int j/\Q (g i j) H
def rU(g:Int->V):V->Hp->VK->Prop:=λx H Q=>∃i,x=.int i/\Q (g i) H
section
variable{X:Cx}{a b c:Expr}{ta tb tc:TE}{pos:Pos}
theorem aaH(i:PE X a ta)(g:PE X b tb){aC:007}{s:bf}{σ:St}{H:Hp}{R:V->V->Hp->Prop}(I:03)
  (h:ta σ H λx H1=>tb σ H1 λy H2=>R x y H2){Q:015}{f:aL->aL->Sem aL}
  (l:∀v u d x y H2,Inv X aC σ H2 d->RelV x v->RelV y u->R x y H2->bH 02 X.A (f v u) Q X.xe d):
  bH 02 X.A (eval a X.env) (λv s₁=>bH 02 X.A (eval b X.env) (λu s₂=>bH 02 X.A (f v u) Q X.xe s₂) X.xe s₁) X.xe s:=by
 refine cz (i _ s σ H _ I h) λv s1 c=>?_
 obtain⟨x,H1,j,m,e⟩:=c
 refine cz (g _ s1 σ H1 _ j e) λu d c=>?_
 obtain⟨y,H2,n,o,k⟩:=c
 exact c8
theorem aim{op:Operator}{r:R2}(i:dX X (qL op) r)(e:PE X a ta)(d:PE X b tb):PE X (.BinOp a op b pos) (DX r ta tb):=by
 intro aC s σ H Q I h;exact wpAny_BinOp (aaH e d I h λv u f x y H2 g rx c q=>i _ f σ H2 x y v u Q g rx c q)
theorem auM{op:UnaryOp}{r:V->Hp->VK->Prop}(e:UnR X (unaryOp op) r)(f:PE X a ta):PE X (.UnaryOp op a pos) (tUn r ta):=by
 intro aC s σ H Q I h;exact UnaryOp_ (cz (f _ s σ H _ I h) λv s1 ⟨x,H1,d,c,b⟩=>e _ s1 σ H1 x v Q d c b)
theorem Tq{f:aL->aL->Sem aL}{C:Int->Int->Prop}{g:Int->Int->Int}
  (a:∀(i j:Int)(t u:Tok)(s:bf)(Q:015)(E:015),C i j->Q (.int (g i j) s.toks) {s with toks:=s.toks+1}->bH 02 X.A (f (.int i t) (.int j u)) Q E s):
  dX X f (rI C λi j=>.int (g i j)):=by
 intro aC s σ H x y v u Q I rx b h
 obtain⟨i,j,rfl,rfl,c,q⟩:=h
 obtain⟨t,rfl⟩:=rx
 obtain⟨d,rfl⟩:=b
 exact a i j t d s _ _ c #[.int _,H,I.tok _,05,q]
theorem aiL{f:aL->aL->Sem aL}{g:Int->Int->Int}
  (a:∀(i j:Int)(t u:Tok)(s:bf)(Q:015)(E:015),Q (.int (g i j) s.toks) {s with toks:=s.toks+1}->bH 02 X.A (f (.int i t) (.int j u)) Q E s):
  dX X f (tU λi j=>.int (g i j)):=by
 intro aC s σ H x y v u Q I rx b h
 obtain⟨i,j,rfl,rfl,q⟩:=h
 obtain⟨t,rfl⟩:=rx
 obtain⟨c,rfl⟩:=b
 exact a i j t c s _ _ #[.int _,H,I.tok _,05,q]
theorem aaI{f:aL->aL->Sem aL}{g:Int->Int->Bool}
  (a:∀(i j:Int)(t u:Tok)(s:bf)(Q:015)(E:015),Q (.bool (g i j)) s->bH 02 X.A (f (.int i t) (.int j u)) Q E s):
  dX X f (tU λi j=>.bl (g i j)):=by
 intro aC s σ H x y v u Q I rx b h
 obtain⟨i,j,rfl,rfl,q⟩:=h
 obtain⟨t,rfl⟩:=rx
 obtain⟨c,rfl⟩:=b
 exact a i j t c s _ _ #[.bl _,H,I,rfl,q]
def aiM(i j:Int):Prop:=0<j/\j<1073741824
def aiN(i j:Int):Prop:=0<=j/\j<=1000000/\i.natAbs<2^64
def Lg(i j:Int):Prop:=(-(2^64)<i/\i<2^64)\/(-(2^64)<j/\j<2^64)
theorem Lg.ok{i j:Int}(h:Lg i j):IntMulOk i j:=by
 rcases h with⟨h1,h2⟩|⟨h1,h2⟩
 .exact .of_left (intBits_le_64 h1 h2)
 .exact .of_right (intBits_le_64 h1 h2)
theorem as5:dX X (qL .Add) (tU λi j=>.int (i+j)):=aiL λk k k k k k k q=>add_int q
theorem Ke:dX X (qL .Sub) (tU λi j=>.int (i-j)):=aiL λk k k k k k k q=>sub_int q
theorem uy:dX X (qL .Mult) (rI Lg λi j=>.int (i*j)):=Tq λk k k k k k k a q=>mul_int q a.ok
theorem JW:dX X (qL .FloorDiv) (rI aiM λi j=>.int (i / j)):=Tq λi j k k k k k a q=>by
 have h1:=a.1;have h2:=a.2;exact floordiv_int c4 07 (.inl (PyProof.noPylong_small c4))
theorem xG:dX X (qL .Mod) (rI (λ_ j=>0<j) λi j=>.int (i%j)):=Tq λi j k k k k k a q=>mod_int' c4 07
theorem Rm:dX X (qL .Pow) (rI aiN λi j=>.int (i^j.toNat)):=Tq λk k k k k k k a q=>pow_int_small a.1 a.2.1 a.2.2 q
theorem unI{f:aL->Sem aL}{g:Int->Int}
  (a:∀(i:Int)(t:Tok)(s:bf)(Q:015)(E:015),Q (.int (g i) s.toks) {s with toks:=s.toks+1}->bH 02 X.A (f (.int i t)) Q E s):
  UnR X f (rU λi=>.int (g i)):=by
 intro aC s σ H x v Q I rx h
 obtain⟨i,rfl,q⟩:=h
 obtain⟨t,rfl⟩:=rx
 exact a i t s _ _ #[.int _,H,I.tok _,05,q]
theorem as6:UnR X (unaryOp .USub) (rU λi=>.int (-i)):=unI λk k k k k q=>neg_int q
end
def aaJ:V->V->Bool
 |.non,.non=>aq|.non,.int _=>aq|.int _,.non=>aq|.non,.bl _=>aq|.bl _,.non=>aq|.non,.str _=>aq|.str _,.non=>aq
 |.int _,.int _=>aq|.bl _,.bl _=>aq|.str _,.str _=>aq|.tQ _,.tQ _=>aq
 |.int _,.str _=>aq|.str _,.int _=>aq|.bl _,.str _=>aq|.str _,.bl _=>aq
 |_,_=>aR
def rEq:R2:=λx y H Q=>aaJ x y=aq/\Q (.bl (decide (x=y))) H
def rNe:R2:=λx y H Q=>aaJ x y=aq/\Q (.bl (!decide (x=y))) H
theorem Yv{i j:Int}:decide (V.int i=V.int j)=(i==j):=c3
theorem Zu{i j:Bool}:decide (V.bl i=V.bl j)=(i==j):=c3
theorem Yw{i j:Str}:decide (V.str i=V.str j)=(i==j):=c3
theorem age{i j:Array UInt8}:decide (V.tQ i=V.tQ j)=(i.toList==j.toList):=by
 rw[Cg];simp
section
variable{X:Cx}{a b c:Expr}{ta tb tc:TE}{pos:Pos}
theorem iW{aC:007}{σ:St}{H:Hp}{s:bf}{Q:VK}{k a:Bool}(I:03)(q:Q (.bl k) H)(e:k=a):EP X aC σ Q (.bool a) s:=by
 subst e
 exact#[.bl k,H,I,rfl,q]
theorem auN:dX X (iu .Eq) rEq:=by
 intro aC s σ H x y v u Q I rx a h
 obtain⟨hs,q⟩:=h
 cases x with
 |non=>
  cases rx;cases y with
  |non=>cases a;exact ayw (iW I q cg)
  |bl j=>cases a;exact ayx (iW I q cg)
  |int j=>obtain⟨b,rfl⟩:=a;exact ayG (iW I q cg)
  |str j=>obtain⟨b,rfl⟩:=a;exact ayH (iW I q cg)
  |_=>exact absurd (show aR=aq from hs) kY
 |bl i=>
  cases rx;cases y with
  |non=>cases a;exact ayy (iW I q cg)
  |bl j=>cases a;exact eq_bool (iW I q Zu)
  |str j=>obtain⟨b,rfl⟩:=a;exact ayz (iW I q cg)
  |_=>exact absurd (show aR=aq from hs) kY
 |int i=>
  obtain⟨t,rfl⟩:=rx
  cases y with
  |non=>cases a;exact ayI (iW I q cg)
  |int j=>obtain⟨b,rfl⟩:=a;exact eq_int (iW I q Yv)
  |str j=>obtain⟨b,rfl⟩:=a;exact ayJ (iW I q cg)
  |_=>exact absurd (show aR=aq from hs) kY
 |str i=>
  obtain⟨t,rfl⟩:=rx
  cases y with
  |non=>cases a;exact ayK (iW I q cg)
  |bl j=>cases a;exact ayA (iW I q cg)
  |int j=>obtain⟨b,rfl⟩:=a;exact ayL (iW I q cg)
  |str j=>obtain⟨b,rfl⟩:=a;exact eq_str (iW I q Yw)
  |_=>exact absurd (show aR=aq from hs) kY
 |tQ i=>
  obtain⟨t,rfl⟩:=rx
  cases y with
  |tQ j=>obtain⟨b,rfl⟩:=a;exact PySem.W.eq_bytes (iW I q age)
  |_=>exact absurd (show aR=aq from hs) kY
 |_=>cases y<;>exact absurd (show aR=aq from hs) kY
theorem auO:dX X (iu .NotEq) rNe:=by
 intro aC s σ H x y v u Q I rx a h
 obtain⟨hs,q⟩:=h
 cases x with
 |non=>
  cases rx;cases y with
  |non=>cases a;exact ayB (iW I q rfl)
  |bl j=>cases a;exact ayC (iW I q rfl)
  |int j=>obtain⟨b,rfl⟩:=a;exact ayM (iW I q cg)
  |str j=>obtain⟨b,rfl⟩:=a;exact ayN (iW I q cg)
  |_=>exact absurd (show aR=aq from hs) kY
 |bl i=>
  cases rx;cases y with
  |non=>cases a;exact ayD (iW I q cg)
  |bl j=>cases a;exact ne_bool (iW I q (congrArg not Zu))
  |str j=>obtain⟨b,rfl⟩:=a;exact ayE (iW I q cg)
  |_=>exact absurd (show aR=aq from hs) kY
 |int i=>
  obtain⟨t,rfl⟩:=rx
  cases y with
  |non=>cases a;exact ayO (iW I q cg)
  |int j=>obtain⟨b,rfl⟩:=a;exact ne_int (iW I q (congrArg not Yv))
  |str j=>obtain⟨b,rfl⟩:=a;exact ayP (iW I q cg)
  |_=>exact absurd (show aR=aq from hs) kY
 |str i=>
  obtain⟨t,rfl⟩:=rx
  cases y with
  |non=>cases a;exact ayQ (iW I q cg)
  |bl j=>cases a;exact ayF (iW I q cg)
  |int j=>obtain⟨b,rfl⟩:=a;exact ayR (iW I q cg)
  |str j=>obtain⟨b,rfl⟩:=a;exact ne_str (iW I q (congrArg not Yw))
  |_=>exact absurd (show aR=aq from hs) kY
 |tQ i=>
  obtain⟨t,rfl⟩:=rx
  cases y with
  |tQ j=>obtain⟨b,rfl⟩:=a;exact PySem.W.ne_bytes (iW I q (congrArg not age))
  |_=>exact absurd (show aR=aq from hs) kY
 |_=>cases y<;>exact absurd (show aR=aq from hs) kY
theorem auP:dX X (iu .LtE) (tU λi j=>.bl (decide (i<=j))):=aaI λk k k k k k k q=>le_int q
theorem KD:dX X (iu .Gt) (tU λi j=>.bl (decide (j<i))):=aaI λk k k k k k k q=>gt_int q
theorem auQ:dX X (iu .GtE) (tU λi j=>.bl (decide (j<=i))):=aaI λk k k k k k k q=>ge_int q
theorem Ro:dX X (iu .Is) (λx y H Q=>y=.non/\Q (.bl (decide (x=.non))) H):=by
 intro aC s σ H x y v u Q I rx a h
 obtain⟨rfl,q⟩:=h
 cases a;refine is_none_gen (iW I q ?_);cases x<;>((obtain⟨t,rfl⟩:=rx;rfl))
theorem agf:dX X (iu .IsNot) (λx y H Q=>y=.non/\Q (.bl (!decide (x=.non))) H):=by
 intro aC s σ H x y v u Q I rx a h
 obtain⟨rfl,q⟩:=h
 cases a;refine isnot_none_gen (iW I q ?_);cases x<;>((obtain⟨t,rfl⟩:=rx;rfl))
theorem dX.or{f:aL->aL->Sem aL}{r r':R2}(h:dX X f r)(h':dX X f r'):dX X f (λx y H Q=>r x y H Q\/r' x y H Q):=by
 intro aC s σ H x y v u Q I rx a q;rcases q with q|q
 .exact h _ s σ H x y v u Q I rx a q
 .exact h' _ s σ H x y v u Q I rx a q
theorem gG(b:Expr){op:CmpOp}(h:op≠.In:=by decide)(h2:op≠.NotIn:=by decide):Ff op b=aR:=by
 have e1:(op==CmpOp.In)=aR:=c3
 have e2:(op==CmpOp.NotIn)=aR:=by lia
 cases b<;>simp[Ff,e1,e2]
theorem aqM{op:CmpOp}{r:R2}(j:dX X (iu op) r)(e:PE X a ta)(d:PE X b tb)(i:Ff op b=aR):PE X (.Compare a [op] [b] pos) (DX r ta tb):=by
 intro aC s σ H Q I h;exact wpAny_Compare1 (aaH e d I h λv u f x y H2 g rx c q=>j _ f σ H2 x y v u Q g rx c q) i
def RN(t:TE):TT:=λσ H Q=>t σ H λx H'=>∃k,x=.bl k/\Q k H'
theorem agg{op:CmpOp}{r:R2}(w:dX X (iu op) r)(j:PE X a ta)(i:PE X b tb)(t:Ff op b=aR):PT X (.Compare a [op] [b] pos) (RN (DX r ta tb)):=by
 intro aC s σ H Q I h;refine wpAny_isTrue_Compare1 (cz (j _ s σ H _ I h) λv s1 ⟨x,H1,p,n,f⟩=>cz (i _ s1 σ H1 _ p f) λu l ⟨y,H2,q,A,d⟩=>
  cz (w _ l σ H2 x y v u _ q n A d) λc C ⟨z,B,m,o,k,e,g⟩=>?_) t
 subst e;cases o;exact yz #[B,m,g]
def Zv(r r':R2)(ta tb tc:TE):TE:=λσ H Q=>ta σ H λx H1=>tb σ H1 λy H2=>r x y H2 λz H3=>∃k,z=.bl k/\
 (if k=aq then tc σ H3 λw' H4=>r' y w' H4 Q else Q (.bl aR) H3)
theorem apc{op f:CmpOp}{r r':R2}(O:dX X (iu op) r)(g:dX X (iu f) r')(B:PE X a ta)(A:PE X b tb)(J:PE X c tc)
  (M:W6 [op,f] [b,c]=aR:=by with_unfolding_all rfl):PE X (.Compare a [op,f] [b,c] pos) (Zv r r' ta tb tc):=by
 intro aC s σ H Q I h;refine Compare_chain (cz (B _ s σ H _ I h) λv s1 ⟨x,H1,K,E,n⟩=>chain_link (cz (A _ s1 σ H1 _ K n) λu C ⟨y,H2,L,l,o⟩=>
  cz (O _ C σ H2 x y v u _ L E l o) λd N w=>?_)) M;obtain⟨z,m,j,F,k,e,i⟩:=w
 subst e;cases F;refine yz ?_;cases k with
 |false=>exact ite_ff #[.bl _,m,j,rfl,i]
 |true=>exact ite_tt (chain_last (cz (J _ N σ m _ j i) λw G ⟨P,D,p,t,q⟩=>g _ G σ D y P u w Q p l t q))
theorem apd{op f:CmpOp}{r r':R2}(W:dX X (iu op) r)(i:dX X (iu f) r')(E:PE X a ta)(D:PE X b tb)(O:PE X c tc)
  (T:W6 [op,f] [b,c]=aR:=by with_unfolding_all rfl):PT X (.Compare a [op,f] [b,c] pos) (RN (Zv r r' ta tb tc)):=by
 intro aC s σ H Q I h;refine isTrue_chain (cz (E _ s σ H _ I h) λv s1 ⟨x,H1,P,L,o⟩=>test_link (cz (D _ s1 σ H1 _ P o) λu G ⟨y,H2,S,m,p⟩=>
  cz (W _ G σ H2 x y v u _ S L m p) λd V w=>?_)) T;obtain⟨z,n,l,M,k,e,j⟩:=w
 subst e;cases M;refine yz ?_;cases k with
 |false=>
  refine hide λGG g=>?_
  obtain⟨k',U,K⟩:=j
  cases U;exact g (ite_ff #[n,l,K])
 |true=>
  refine ite_tt (test_last (cz (O aC V σ n _ l j) λB N ⟨Y,J,q,A,w⟩=>cz (i aC N σ J y Y u B _ q m A w) λd' s5 C=>hide λGG g=>?_))
  obtain⟨z2,t,F,R,k2,e2,Z⟩:=C
  subst e2;cases R;exact g (yz #[t,F,Z])
def aaK(K:bw)(x:V)(H:Hp)(k:Bool):Prop:=
 match x with
 |.non=>k=aR
 |.bl b=>k=b
 |.int i=>k=(i != 0)
 |.str y=>y.length<=cG/\k=((y.length:Int) != 0)
 |.tQ y=>y.size<=cG/\k=((y.size:Int) != 0)
 |.ref p=>(∃xs,cA K H p xs/\k=!xs.isEmpty)\/(∃xs,dW K H p xs/\k=!xs.isEmpty)\/∃au ep,H p=aa (.dK au ep)/\k=!au.isEmpty
 |_=>False
theorem ana{κ:Type}{au:List (κ×V)}{vs:List (κ×aL)}(r:KV au vs):(!vs.isEmpty)=!au.isEmpty:=by
 cases r<;>rfl
theorem adT{xs:041}{aN:042}(r:Vals xs aN):(!aN.toArray.isEmpty)=!xs.isEmpty:=by
 cases r<;>simp
theorem Dj:(cG:Nat)<2^63:=bh
theorem as7:avX X (λx H Q=>∃k,aaK X.K x H k/\Q k H):=by
 intro aC s σ H x v Q I rx h
 obtain⟨k,e,q⟩:=h
 have hl:=Dj;have hs:cG=16777216:=jV;cases x with
 |non=>
  cases rx;have a:k=aR:=e;subst a;exact truthy_none #[H,I,q]
 |bl b=>
  cases rx;have a:k=b:=e;subst a;exact yz #[H,I,q]
 |int i=>
  obtain⟨t,rfl⟩:=rx
  have a:k=(i != 0):=e;subst a;exact PySem.P.truthy_int #[H,I,q]
 |str y=>
  obtain⟨t,rfl⟩:=rx
  obtain⟨j,a⟩:y.length<=cG/\k=((y.length:Int) != 0):=e
  subst a;exact PySem.P.truthy_str c4 #[H,I.tok _,q]
 |tQ y=>
  obtain⟨t,rfl⟩:=rx
  obtain⟨j,a⟩:y.size<=cG/\k=((y.size:Int) != 0):=e
  subst a;exact PySem.W.truthy_bytes c4 #[H,I.tok _,q]
 |ref p=>
  cases rx;have a:=e;refine hide λGG d=>?_
  rcases a with⟨xs,hx,a⟩|⟨xs,hx,a⟩|⟨au,ep,hx,a⟩
  .subst a
   obtain⟨l,r,f,g⟩:=I.list hx
   have c:=r.length;exact d (wpAny_truthy_list f.isList (by simp only[u5];lia) #[H,I.tok _,by rw[adT r];exact q])
  .subst a
   obtain⟨l,r,f,g⟩:=I.tuple hx
   have c:=r.length;exact d (truthy_tuple f (by simp only[u5];lia) #[H,I.tok _,by rw[adT r];exact q])
  .subst a
   obtain⟨g,n,vs,r,m⟩:au.length<=cG/\(p==qH)=aR/\∃vs,KV au vs/\s.heap.DictAt (gq X.prog X.w) p vs ep:=I.hok p _ hx
   have c:au.length=vs.length:=Paired.length r;exact d (wpAny_truthy_dict n m.dictOf aK #[H,I.tok _,by rw[ana r];exact q])
 |_=>exact(show False from e).elim
theorem ape(f:PE X a ta)(he:∀b,isTrue a X.env b=(do let v <-b;xx a.pos;rR [v] (truthy v))):
  PT X a (λσ H Q=>ta σ H λx H'=>∃k,aaK X.K x H' k/\Q k H'):=by
 intro aC s σ H Q I h;exact isTrue_plain (cz (f _ s σ H _ I h) λv s1 ⟨x,H1,e,d,c⟩=>as7 _ s1 σ H1 x v Q e d c) (he _)
theorem anb:dX X (qL .Add) (λx y H Q=>∃i j,x=.str i/\y=.str j/\i.length+j.length<=cG/\Q (.str (i++j)) H):=by
 intro aC s σ H x y v u Q I rx a h
 obtain⟨i,j,rfl,rfl,b,q⟩:=h
 obtain⟨t,rfl⟩:=rx
 obtain⟨c,rfl⟩:=a
 exact add_str (λc d=>#[.str _,H,I.tok _,05,q]) b
theorem vals1{x:V}{us:042}(r:Vals [x] us):∃u,us=[u]/\RelV x u:=by
 cases r with
 |cons r1 r2=>cases r2;lia
theorem vals2{x y:V}{us:042}(r:Vals [x,y] us):∃u a,us=[u,a]/\RelV x u/\RelV y a:=by
 cases r with
 |cons r1 r2=>
  cases r2 with
  |cons r3 r4=>cases r4;lia
theorem ae6:jh X (.builtin "abs") (λxs H Q=>∃i,xs=[.int i]/\Q (.int (if i<0 then -i else i)) H):=by
 intro aC s σ H xs us Q I r h
 obtain⟨i,rfl,q⟩:=h
 obtain⟨u,rfl,t,rfl⟩:=vals1 r
 exact call_abs_int λu a=>#[.int _,H,I.tok _,05,q]
theorem W7(b:035):jh X (.builtin "max") (λxs H Q=>∃i j,xs=[.int i,.int j]/\Q (.int (if j>i then j else i)) H):=by
 intro aC s σ H xs us Q I r h
 obtain⟨i,j,rfl,q⟩:=h
 obtain⟨u,c,rfl,⟨t,rfl⟩,⟨e,rfl⟩⟩:=vals2 r
 refine max_two_ints (I.ok.hd b) λh' d k=>#[_,H,I.kept k,?_,q]
 by_cases a:j>i
 .rw[bZ a,bZ a];exact 05
 .rw[cC a,cC a];exact 05
theorem Ge(b:035):jh X (.builtin "min") (λxs H Q=>∃i j,xs=[.int i,.int j]/\Q (.int (if j<i then j else i)) H):=by
 intro aC s σ H xs us Q I r h
 obtain⟨i,j,rfl,q⟩:=h
 obtain⟨u,c,rfl,⟨t,rfl⟩,⟨e,rfl⟩⟩:=vals2 r
 refine min_two_ints (I.ok.hd b) λh' d k=>#[_,H,I.kept k,?_,q]
 by_cases a:j<i
 .rw[bZ a,bZ a];exact 05
 .rw[cC a,cC a];exact 05
theorem PL:jh X (.type "int") (λxs H Q=>(∃i,xs=[.int i]/\Q (.int i) H)\/∃k,xs=[.bl k]/\Q (.int (if k then 1 else 0)) H):=by
 intro aC s σ H xs us Q I r h;rcases h with⟨i,rfl,q⟩|⟨k,rfl,q⟩
 .obtain⟨u,rfl,t,rfl⟩:=vals1 r
  exact call_int_int #[.int i,H,I,05,q]
 .obtain⟨u,rfl,a⟩:=vals1 r
  cases a;exact call_int_bool #[.int _,H,I.tok _,05,q]
end
structure aaL(h:cF)(x dx C:aH)(mA:Str->Option aL):Prop where
 obj:h.get? x=aa (acC C dx)
 ns:h.Ns1 dx mA
 ne:dx≠x
theorem anZ{h:cF}{dx:aH}{c:Str->Option aL}(n:h.Ns1 dx c):∃d,h.get? dx=aa d/\∀name,acV name d=aa (c name):=by
 obtain⟨o,es,ep,k,i,g,_,j⟩:=n
 refine#[o,k,λname=>?_]
 have e:=j name;unfold nsFind findBy at e;unfold acV;rw[i];dsimp only;split
 .grind
 .have a:es.toList.any (·.refKey)=aR:=by
   rw[ald];intro y f
   obtain⟨z,t,b⟩:=g y (Array.mem_toList_iff.mp f)
   simp[DictEntry.refKey,b]
  exact c8
theorem aaL.look{h:cF}{x dx C:aH}{b:Str->Option aL}(I:aaL h x dx C b):∃a,PySem.W.InstAt h x (acC C dx) C (aa a)/\∀name,acV name a=aa (b name):=
 let ⟨a,ho,hl⟩:=anZ I.ns
 #[a,#[I.obj,rfl,rfl,ho],hl]
theorem tH.some_of{v:V}{o:Option aL}(r:tH (aa v) o):∃u,o=aa u/\RelV v u:=by
 cases o with
 |none=>trivial
 |some u=>exact#[u,rfl,r]
section
variable{P:dY}{w:cW}{H H':Hp}{h h':cF}{a C dx:aH}{fs fs':List (Str×V)}
theorem agh(c:jG P w H h)(e:H a=aa (.ins C dx fs)):∃b,aaL h a dx C b/\(∀f,tH (fs.lookup f) (b f))/\amt b (fs.map (·.1))/\fs.length<=1000/\H dx=aa (.own a):=by
 refine hide λGG g=>?_
 obtain⟨d,z,ne,i,b,n,r,q⟩:=(c a _ e)
 exact g (#[b,#[i,n,ne],r,q,z,d])
end
structure Cls(K:bw)(C:aH):Prop where
 pg:alz K C Str.empty=aq
 hd:PySem.W.hasDictIn K C=aq
 po:PySem.W.plainOver K C=aq
 sa:alZ K (.ref C) "__setattr__"=aa (aa (.builtin "object.__setattr__"))
theorem Cls.get{K:bw}{C:aH}(c:Cls K C)(f:Str):alz K C f=aq:=c.pg
section
variable{X:Cx}{aC:List (aH×Obj)}{σ:St}{H:Hp}{s:bf}{A:fB}{E:aL->bf->Prop}{Q:aL->bf->Prop}{c:aL}{b:Bool}
inductive nF(K:bw)(H:Hp):V->aL->Prop where
 |non:nF K H .non (.type "NoneType")
 |bl (x:Bool):nF K H (.bl x) (.type "bool")
 |int (i:Int):nF K H (.int i) (.type "int")
 |str (x:Str):nF K H (.str x) (.type "str")
 |flt (x:UInt64):nF K H (.flt x) (.type "float")
 |lst {a:aH} {xs:041} (e:H a=aa (.lst xs)):nF K H 043 (.type "list")
 |tR {a:aH} {o:Obj} {xs:041} (e:H a=aa (.tR o (.lst xs))):nF K H 043 (.type "list")
 |tup {a:aH} {xs:041} (e:H a=aa (.tup xs)):nF K H 043 (.type "tuple")
 |dK {a:aH} {au:List (Key×V)} {ep:Nat} (e:H a=aa (.dK au ep)):nF K H 043 (.type "dict")
 |dT {a:aH} {au:List (TK×V)} {ep:Nat} (e:H a=aa (.dT au ep)):nF K H 043 (.type "dict")
 |ins {a C dx:aH} {fs:List (Str×V)} (e:H a=aa (.ins C dx fs)) (cl:Cls K C) (ha:alZ K (.ref C) "__class__"=aa (aa (.builtin "object.__class__")))
   (hn:PySem.W.specialIn K (.builtin "object.__class__") "__get__"=aa (aa (.builtin "getset_descriptor.__get__"))) (htk:PySem.W.takesIn K (.builtin "object.__class__")=aa aq)
   (hm:PySem.W.mroIn K C (.type "object")=aa aq):nF K H 043 (.ref C)
theorem an0{x:V}{u t:aL}(I:03)(rx:RelV x u)(ty:nF X.K H x t)(e:z9 X.K t c=aa b)(h:∀d,Q (.bool b) {s with toks:=d}):
  bH 02 A (call (.builtin "isinstance") [u,c]) Q E s:=by
 cases ty with
 |non=>cases rx;exact wU ale I.j0 qI e 012 h
 |bl y=>cases rx;exact wU alf I.j0 qI e 012 h
 |int i=>obtain⟨t,q⟩:=(rx);cases q;exact wU alA I.j0 qI e 012 h
 |str y=>obtain⟨t,q⟩:=(rx);cases q;exact wU alB I.j0 qI e 012 h
 |flt y=>obtain⟨t,q⟩:=(rx);cases q;exact wU ak2 I.j0 qI e 012 h
 |@lst a xs ea=>
  cases(rx)
  obtain⟨_,_,n,_,h1⟩:=(I.hok a _ ea)
  exact wU U3 I.j0 #[_,h1,rfl] e 012 h
 |@tR a ob xs ea=>
  cases show u=fY a from rx
  obtain⟨_,_,_,n,_,h1⟩:=(I.hok a _ ea)
  exact wU U3 I.j0 #[_,h1,rfl] e 012 h
 |@tup a xs ea=>
  cases(rx)
  obtain⟨_,_,_,p⟩:=(I.hok a _ ea)
  obtain⟨o,h1,h2,_⟩:=p
  exact wU ak3 I.j0 #[o,h1,h2] e 012 h
 |@dK a au epo ea=>
  cases show u=fY a from rx
  obtain⟨_,_,vs,_,p⟩:=(I.hok a _ ea)
  obtain⟨o,es,h1,h2,_⟩:=p
  exact wU U4 I.j0 #[o,h1,h2.1] e 012 h
 |@dT a au epo ea=>
  cases show u=fY a from rx
  obtain⟨_,_,xs,_,o,es,h1,h2,_⟩:=(I.hok a _ ea)
  exact wU U4 I.j0 #[o,h1,h2.1] e 012 h
 |@ins a C dx fs ea cl ha hn htk hm=>
  cases show u=fY a from rx
  obtain⟨f,O,_⟩:=agh I.hok ea
  obtain⟨g,J,_⟩:=O.look
  exact wU (alC (cl.get _) cl.hd ha hn htk hm) I.j0 J e 012 h
end
structure jZ(k:Nat)(A:fB):Prop where
 hd:A.handled=aj
 dp:A.depth+3*k+5<recursionLimit
 un:A.units+16*k+200<fJ
 gd:A.guards=aa []
theorem jZ.mono{j k:Nat}{A:fB}(r:jZ k A)(h:j<=k):jZ j A:=#[r.hd,by have:=r.dp;lia,by have:=r.un;lia,r.gd]
theorem jZ.deeper{k:Nat}{A:fB}(r:jZ (k+1) A)(ao:Env):jZ k (A.deeper ao):=
 #[r.hd,by have:=r.dp;show A.depth+1+3*k+5<_;lia,by have:=r.un;show A.units+3+16*k+200<_;lia,r.gd]
theorem jZ.depth{k:Nat}{A:fB}(r:jZ k A):A.depth<recursionLimit:=by have:=r.dp;lia
theorem jZ.units{k:Nat}{A:fB}(r:jZ k A):A.units+64<fJ:=by have:=r.un;lia
theorem jZ.Rp{k:Nat}{A:fB}(r:jZ k A):A.units<fJ:=by have:=r.un;lia
def Ss:TA:=λ_ H Q=>Q [] H
def Ht(ta:TE)(tr:TA):TA:=λσ H Q=>ta σ H λx H1=>tr σ H1 λxs H2=>Q (x::xs) H2
section
variable{X:Cx}{e:Expr}{es:List Expr}{te:TE}{t:TA}{pos:Pos}
theorem rZ:PA X [] Ss:=λk k k k H Q I h=>Iz #[[],H,I,.nil,h]
theorem oU(f:PE X e te)(j:PA X es t)(hs:bV (e::es) X.env=(010 e)::bV es X.env:=by rfl):PA X (e::es) (Ht te t):=by
 intro pos aC s σ H Q I h;rw[hs];refine BR (cz (f _ s σ H _ I h) λu s1 d=>hide λGG c=>?_)
 obtain⟨x,H1,i,g,b⟩:=d
 exact c (cz (j _ _ s1 σ H1 _ i b) λus m ⟨xs,H2,k,l,a⟩=>#[_,H2,k,.cons g l,a])
def avY(t:TA):TE:=λσ H Q=>t σ H λxs H1=>xs.length<=cG/\∀p,H1 p=aj->Q (.ref p) (upd H1 p (.tup xs))
def aaM(t:TA):TE:=λσ H Q=>t σ H λxs H1=>xs.length<=cG/\∀p,H1 p=aj->Q (.ref p) (upd H1 p (.lst xs))
theorem Zw{x1}(h:PA X es t):PE X (.Tuple es x1 pos) (avY t):=by
 intro aC s σ H Q I d;refine wpAny_Tuple_spliced (cz (h _ _ s σ H _ I d) λus s1 ⟨xs,H1,a,r,z,q⟩=>#[by rwa [<-r.length],?_]);have c:=a.hok.fresh 046
 refine#[.ref _,_,a.laid (λb u e=>dF _ e) 046 ?_,rfl,q _ c]
 exact#[z,us,r,#[_,ji _ rfl,rfl,_,rfl]]
theorem Zx(h:PA X es t):PE X (.List es pos) (aaM t):=by
 intro aC s σ H Q I d;refine wpAny_List_spliced (cz (h _ _ s σ H _ I d) λus s1 ⟨xs,H1,a,r,z,q⟩=>#[by rwa [<-r.length],?_]);have c:=a.hok.fresh 046
 refine#[.ref _,_,a.laid (λb u e=>dF _ e) 046 ?_,rfl,q _ c]
 exact#[z,us,0,r,ji _ rfl]
end
abbrev Sp:=List V->Hp->VK->XK->Prop
abbrev ym:=List Env->Hp->bf->XK->aL->bf->Prop
structure Su(P:dY)(w:cW)(K:bw)(mg:Str->Option aL)(base:cF)(A:fB)(outer:List Env)(s:bf)(H:Hp):Prop where
 frames:A.frames=aa outer
 mod:Mod K mg base
 bs:∀b o,base.get? b=aa o->s.heap.get? b=aa o/\H b=aj
 Bq:base.objs.size<=s.heap.objs.size
 vU:s.heap.FunFrames base outer
 Ig:∀b∈frs outer,H b=aj
 hok:jG P w H s.heap
 bare:AllBare s.gens
def CE(outer:List Env)(P:dY)(w:cW)(H:Hp)(s:bf)(Q:VK)(u:aL)(s':bf):Prop:=
 ∃v H',s'.os=s.os/\AllBare s'.gens/\Un (frs outer) [] H H' s.heap s'.heap/\jG P w H' s'.heap/\RelV v u/\Q v H'
def CR(CX:ym)(outer:List Env)(P:dY)(w:cW)(H:Hp)(s:bf)(Q:VK)(E:XK)(r:Dk)(s':bf):Prop:=
 match r with
 |.ok (.ret u)=>CE outer P w H s Q u s'
 |.ok _=>False
 |.error e=>CX outer H s E e s'
structure eV(P:dY)(w:cW)(K:bw)(mg:Str->Option aL)(base:cF)(CX:ym)(k:Nat)(f:aH)(fd:um)(ps:List Str)(sp:Sp):Prop where
 len:∀vs H Q E,sp vs H Q E->vs.length=ps.length
 run:∀(A:fB)(outer:List Env)(s:bf)(H:Hp)(args:Args)(us:042)(vs:041)(Q:VK)(E:XK),jZ k A->Su P w K mg base A outer s H->Gu s fd args (ps.zip us)->Vals vs us->sp vs H Q E->
  nQ (model P w) A (.call (.ref f) args) (CR CX outer P w H s Q E) s
section
variable{X:Cx}{aC:List (aH×Obj)}{σ:St}{H:Hp}{s s':bf}
theorem Inv.env0(I:03):Su X.prog X.w X.K X.mg X.base X.A X.stack s H:=
 #[I.ok.frames,I.ok.mod,I.bs,jw I.ok.Bq I.sz,I.stack,I.af8,I.hok,I.bare]
theorem Inv.after{Q:VK}{u:aL}(I:03)(h:CE X.stack X.prog X.w H s Q u s'):EP X aC σ Q u s':=by
 obtain⟨v,H',e,bare,un,a,r,q⟩:=h
 obtain⟨f,g,d,t,c⟩:=s'
 obtain rfl:c=s.os:=e
 exact#[v,H',I.call un a bare (λb z=>absurd z cg),r,q]
end
def RP(sp:Sp)(Ii:041)(E:XK)(t:TA):TE:=λσ H Q=>t σ H λvs H1=>sp (vs++Ii) H1 Q E
def Binds(K:bw)(fd:um)(ps:014)(ds:042):Prop:=
 ∀(s:bf)(us:042),K.In s.heap->(us++ds).length=ps.length->Gu s fd #[us,[]] (ps.zip (us++ds))
theorem Binds.all{K:bw}{fd:um}{ps:014}(h:∀us:List aL,us.length=ps.length->bindArgs fd #[us,[]]=pure (ps.zip us)):Binds K fd ps []:=λs us k hl=>by
 rw[jg] at hl⊢;exact .of_eq (h us hl)
def Passes(CX:ym)(X:Cx)(E:XK):Prop:=∀(aC:007)(σ:St)(H:Hp)(s:bf)(e:aL)(s':bf),Inv X aC σ H s->CX X.stack H s E e s'->X.xe e s'
section
variable{X:Cx}{CX:ym}{k:Nat}{f C:aH}{fd:um}{ps:List Str}{sp:Sp}{Ii:List V}{ds:List aL}{E:XK}{x m:Str}{p pos apos:Pos}{e o:Expr}{es:List Expr}{ta:TE}{t:TA}
theorem as8{aC:007}{σ:St}{H:Hp}{s:bf}{Q:VK}{us:042}{vs:041}(F:eV X.prog X.w X.K X.mg X.base CX k f fd ps sp)(g:jZ k X.A)(c:Binds X.K fd ps ds)(hd:Vals Ii ds)(d:Passes CX X E)
  (I:03)(r:Vals vs us)(h:sp (vs++Ii) H Q E):bH 02 X.A (call (.ref f) us) (EP X aC σ Q) X.xe s:=by
 have b:=r.append hd;have hl:(us++ds).length=ps.length:=by rw[<-b.length];exact F.len _ _ _ _ h
 refine wpAny_call (Og (F.run _ _ s H _ _ _ Q E g I.env0 (c s us I.j0 hl) b h) λr s' a=>?_);cases r with
 |error e=>exact d _ σ H s e s' I a
 |ok fl=>
  cases fl with
  |ret u=>exact I.after a
  |next=>trivial
  |brk=>trivial
  |cont=>trivial
theorem aqN(F:eV X.prog X.w X.K X.mg X.base CX k f fd ps sp)(l:jZ k X.A)(hg:Gl X x)(m:X.mg x=aa (.ref f))(d:EY X.K (.ref f)=aq)(g:Binds X.K fd ps ds)(hd:Vals Ii ds)(i:Passes CX X E)
  (j:PA X (e::es) t)(b:017=aR:=by decide)(he:bV (e::es) X.env=(010 e)::bV es X.env:=by rfl)(a:(jx pos (bV es X.env)).any (·.1)=aR:=by rfl):
  PE X (.Call (.Name x p) (e::es) [] pos) (RP sp Ii E t):=by
 intro aC s σ H Q I h;exact Iv (aga I hg m (PySem.W.callWith_K I.ok.mod.kin d (cz (j _ _ s σ H _ I h) λus s1 ⟨vs,H1,c,r,q⟩=>#[c.j0,(as8 F l g hd i c r q)]) he a) b)
end
structure gw(N P:List Str)(sc:kI):Prop where
 kind:sc.kind=.function
 co:sc.isCoroutine=aR
 gen:sc.isGenerator=aR
 nd:N.Nodup
 pre:N.take P.length=P
 par:∀x∈P,sc.names.lookup x=aa .local\/sc.names.lookup x=aa .cell
 as9:∀y∈sc.names,y.2≠.free
theorem aem{kindOf:Str->Option CP}{x:Str}:∀{binds:List (Str×aL)}{m:Str->Option aL},(∀v,(x,v)∉binds)->bindL kindOf binds m x=m x
 |[],_,_=>rfl
 |(n,v)::r,m,h=>by
  unfold bindL;rw[aem λw a=>h w (fU _ a)];split
  .grind
  .rfl
theorem aen{kindOf:Str->Option CP}{x:Str}:∀{binds:List (Str×aL)}{m:Str->Option aL},(∀v,(x,v)∉binds)->bindC kindOf binds m x=m x
 |[],_,_=>rfl
 |(n,v)::r,m,h=>by
  unfold bindC;rw[aen λw a=>h w (fU _ a)];split
  .rfl
  grind
theorem aeo{kindOf:Str->Option CP}{x:Str}{v:aL}:∀{P:014}{vs:042}{i:Nat}{m:Str->Option aL},P.Nodup->P[i]?=aa x->vs[i]?=aa v->kindOf x=aa .local->
  bindL kindOf (P.zip vs) m x=aa v
 |[],_,_,_,_,h,_,_=>by simp_all
 |_::_,[],_,_,_,_,h,_=>by simp_all
 |p::P,w::vs,0,m,nd,h1,h2,hk=>by
  simp at h1 h2;subst h1;subst h2;show bindL _ ((p,w)::P.zip vs) m p=_;unfold bindL;rw[aem λv a=>(lM.mp nd).1 (Vj a).1,bZ hk];simp
 |p::P,w::vs,i+1,m,nd,h1,h2,hk=>by
  unfold bindL;exact aeo (i:=i) (lM.mp nd).2 07 07 hk
theorem aep{kindOf:Str->Option CP}{x:Str}{v:aL}:∀{P:014}{vs:042}{i:Nat}{m:Str->Option aL},P.Nodup->P[i]?=aa x->vs[i]?=aa v->kindOf x≠aa .local->
  bindC kindOf (P.zip vs) m x=aa v
 |[],_,_,_,_,h,_,_=>by simp_all
 |_::_,[],_,_,_,_,h,_=>by simp_all
 |p::P,w::vs,0,m,nd,h1,h2,hk=>by
  simp at h1 h2;subst h1;subst h2;show bindC _ ((p,w)::P.zip vs) m p=_;unfold bindC;rw[aen λv a=>(lM.mp nd).1 (Vj a).1,cC hk];simp
 |p::P,w::vs,i+1,m,nd,h1,h2,hk=>by
  unfold bindC;exact aep (i:=i) (lM.mp nd).2 07 07 hk
def start(N:014)(vs:041):St:=vs.map aa++fX (N.length-vs.length) aj
def Bh(CX:ym)(P:dY)(w:cW)(K:bw)(mg:Str->Option aL)(base:cF)(N:014)(qual:Str)(scope:kI)(f:aH)(cd:aL)(A:fB)(outer:List Env)(s:bf)(H:Hp)(E:XK):Cx where
 prog:=P
 w:=w
 K:=K
 mg:=mg
 base:=base
 A:=A.deeper (envOfC qual scope s.heap.objs.size f cd)
 N:=N
 s₀:=s
 H₀:=H
 env:=envOfC qual scope s.heap.objs.size f cd
 outer:=outer
 stack:=envOfC qual scope s.heap.objs.size f cd::outer
 ex:=[]
 calm:=aq
 fn:=λ_=>aq
 pn:=[]
 xe:=λe s'=>bH (model P w) (A.deeper (envOfC qual scope s.heap.objs.size f cd)) (leaving (envOfC qual scope s.heap.objs.size f cd) e) (λ_ s''=>CX outer H s E e s'') (λe' s''=>CX outer H s E e' s'') s'
theorem ae7{a:kI}{n:Nat}{x:Str}(h:a.names.lookup x=aa .cell):∃c,(uf n a.names []).lookup x=aa c:=by
 have q:=akq _ n [] (.inl h);exact wN.mp q
theorem an1{CX:ym}{P:dY}{w:cW}{K:bw}{mg:Str->Option aL}{base:cF}{N ps:014}{d:Str}{scope:kI}{f:aH}{n:aL}{A:fB}{outer:List Env}{s s1:bf}{H:Hp}{E:XK}{us:042}{vs:041}
  (S:gw N ps scope)(hd:045)(g:Su P w K mg base A outer s H)(hl:vs.length=ps.length)(r:Vals vs us)
  (x:InCallC s s.heap.objs.size (bindL (envOfC d scope s.heap.objs.size f n).kindOf (ps.zip us) λ_=>aj) (uf (s.heap.objs.size+1) scope.names []) (bindC (envOfC d scope s.heap.objs.size f n).kindOf (ps.zip us) λ_=>aj) s1):
  Inv (Bh CX P w K mg base N d scope f n A outer s H E) [] (start N vs) H s1:=by
 have D:=by have:=congrArg sW S.pre;rw[yD] at this;omega
 obtain⟨h1,G,rfl,t⟩:=x.done
 have o:∀b,b∉(Bh CX P w K mg base N d scope f n A outer s H E).ex:=λb z=>absurd (show b∈[] from z) cg
 refine⟨⟨g.mod,S.kind,rfl,rfl,cH _,λy z c h1 h2=>?_,λy j=>?_,λy c _ h=>?_,λ_=>hd,Around.frames_deeper g.frames,.inr ⟨rfl,rfl⟩,λb z=>absurd z (o b),g.bs,g.Bq,λb _ _=>o b,λb z=>absurd z (o b),g.vU,g.Ig⟩,
  rfl,g.bare,Un.kept t,⟨_,x.toInCall.ns,λi y v h1 h2 I=>?_⟩,λy c h=>⟨_,x.cell y c h⟩,g.hok.fresh (cH _),λy c h=>?_,λp l=>absurd (show p∈([]) from l) cg,g.hok.kept t,?_⟩
 .exact name_of_addr x.apart (BL h1) (BL h2)
 .rcases j with j|j
  .exact ae7 j
  .exact absurd rfl (S.as9 _ (BL j))
 .exact wY (x.above y c (BL h))
 .have hi:i<vs.length:=by
   unfold start at h2;by_cases hi:i<vs.length
   .exact hi
   .rw[uY (by simpa using hi)] at h2;rw[aki] at h2;split at h2<;>cases h2
  have C:vs[i]?=aa v:=by
   unfold start at h2;rw[uZ (by simpa using hi),jN] at h2;cases e:vs[i]? with
   |none=>rw[e] at h2;cases h2
   |some a=>rw[e] at h2;cases h2;rfl
  obtain⟨u,B,F⟩:=r.get C
  have l:ps[i]?=aa y:=by
   rwa [<-S.pre,ake c4]
  have m:ps.Nodup:=by rw[<-S.pre];exact S.nd.sublist (U5 _ _)
  refine#[u,F,?_]
  rcases S.par y (pZ l) with k|k
  .exact .inl #[k,aeo m l B k]
  .obtain⟨c,e⟩:=ae7 k
   refine .inr #[.inl k,c,e,?_];have q:=x.cell y c e
   rwa [aep m l B (by show scope.names.lookup y≠_;rw[k];decide)] at q
 .exact g.hok.fresh (wY (x.above y c (BL h)))
 .unfold start;show _=N.length;rw[fW,bR,Uy];lia
theorem auR{CX:ym}{P:dY}{w:cW}{K:bw}{mg:Str->Option aL}{base:cF}{k:Nat}{f:aH}{name a:Str}{params:Arguments}{body:List dH}{scope:kI}{L kV h G c ct Y:aL}{F Z:Option aH}
  {C:Array (Option aL)}{N ps:014}{sp:Sp}(O:K.lookup f=aa #[Y,Z,.func (Cr name a params body scope L kV h G F c ct),C])(z:Vq K c a=aq)(S:gw N ps scope)
  (len:∀vs H Q E,sp vs H Q E->vs.length=ps.length)
  (d:∀(A:fB)(outer:List Env)(s:bf)(H:Hp)(vs:041)(Q:VK)(E:XK),jZ k (A.deeper (envOfC a scope s.heap.objs.size f c))->sp vs H Q E->
   ∃t,jQ (Bh CX P w K mg base N a scope f c A outer s H E) body t/\t {nx:=λ_ H'=>Q .non H',rt:=Q} (start N vs) H):
  eV P w K mg base CX (k+1) f (Cr name a params body scope L kV h G F c ct) ps sp:=by
 refine#[len,λA outer s H M us vs Q E m l U r j=>?_]
 have hl:=len _ _ _ _ j;have D:=l.mod.kin.keeps λb o e=>(l.bs b o e).1
 have B:=l.mod.nolimit.keeps λb o e=>(l.bs b o e).1
 have g:∀y∈ps.zip us,scope.names.lookup y.1=aa _\/(scope.names.lookup y.1=aa _/\((uf (s.heap.objs.size+1) _ []).lookup y.1).isSome=aq):=λ⟨n,v⟩ T=>by
  rcases S.par n (Vj T).1 with q|q
  .exact .inl q
  .exact .inr #[q,akq _ _ _ (.inl q)]
 refine codeAny_call_function m.depth (D _ _ O) rfl S.co S.gen rfl (PySem.W.codeRec_of D z) (U _ _ _ _ (wpAny_newFunctionEnv_cells S.kind g λao W s1 x=>?_));subst W
 refine#[B.keeps x.toInCall.keep,codeAny_func ?_]
 obtain⟨t,ht,X⟩:=d A _ s H vs Q E (m.deeper _) j
 have I:Inv (Bh CX P w K mg _ N a _ f c A _ s H E) [] _ H s1:=an1 S m.hd l hl r x;refine vq (ht [] s1 _ H _ I X) (λR s' hs=>?_) λe s' hs=>hs
 have i:∀{F':St}{H':Hp}{v:V}{u:aL},Inv (Bh CX P w K mg base N a scope f c A _ s H E) [] F' H' s'->RelV v u->Q v H'->CE outer P w H s Q u s':=
  λ{F' H' v u} J p q=>#[v,H',J.os,J.bare,J.base,J.hok,p,q]
 cases R with
 |ret u=>
  obtain⟨v,F',H',J,p,q⟩:=hs
  exact i J p q
 |next=>
  obtain⟨F',H',J,q⟩:=hs
  exact i (v:=V.non) J rfl q
 |brk=>
  obtain⟨_,_,_,q⟩:=hs
  trivial
 |cont=>
  obtain⟨_,_,_,q⟩:=hs
  trivial
section
variable{X:Cx}{x:Str}{p pos:Pos}{e:Expr}{es:List Expr}{t:TA}{id T:String}{r:List V->Hp->VK->Prop}
def Tr(r:List V->Hp->VK->Prop)(t:TA):TE:=λσ H Q=>t σ H λvs H1=>r vs H1 Q
theorem Jz(i:jh X (.builtin id) r)(hg:Gl X x)(l:X.mg x=aj)(d:uc x=aa (.builtin id))(f:PA X (e::es) t)(k:x≠"__name__":=by decide)(b:017=aR:=by decide)
  (he:bV (e::es) X.env=(010 e)::bV es X.env:=by rfl)(a:(jx pos (bV es X.env)).any (·.1)=aR:=by rfl):PE X (.Call (.Name x p) (e::es) [] pos) (Tr r t):=by
 intro aC s σ H Q I h;exact Iv (yV I hg l d (abK (cz (f _ _ s σ H _ I h) λus s1 ⟨vs,H1,j,g,c⟩=>i _ s1 σ H1 vs us Q j g c) he a) k b)
theorem an2(i:jh X (.type T) r)(hg:Gl X x)(l:X.mg x=aj)(d:uc x=aa (.type T))(f:PA X (e::es) t)(k:x≠"__name__":=by decide)(b:017=aR:=by decide)
  (he:bV (e::es) X.env=(010 e)::bV es X.env:=by rfl)(a:(jx pos (bV es X.env)).any (·.1)=aR:=by rfl):PE X (.Call (.Name x p) (e::es) [] pos) (Tr r t):=by
 intro aC s σ H Q I h;exact Iv (yV I hg l d (Us (cz (f _ _ s σ H _ I h) λus s1 ⟨vs,H1,j,g,c⟩=>i _ s1 σ H1 vs us Q j g c) he a) k b)
end
end L2
namespace HT
open PySem PyProof.Rows
section
open PySem.SeqAt
open PySem.AutoSeq1 (wpAny_loadPart')
open PySem.MeetsSeq PySem.MeetsSeq2 PySem.MeetsSeq3
end
section
variable{prog:dY}{w:cW}{A:fB}{E:aL->bf->Prop}{s:bf}
theorem aqO(ht:IsTup s.heap t vs.toArray)(l:IsTup s.heap b ws.toArray)(p:vs≠[])
  (h1:ws=[]->Q (.ref t) s)(h2:ws≠[]->Q 048 {s with heap:=s.heap.push {cls:=.type "tuple",data:=.seq (vs++ws).toArray}})
  (hsz:vs.length+ws.length<=cG):bH 09 A (qL .Add (.ref t) (.ref b)) Q E s:=by
 obtain⟨⟨cls,g,data,sl⟩,e,i,n,j⟩:=id ht
 obtain⟨⟨h,o,f,m⟩,a,c,n2,d⟩:=id l
 simp_all;by_cases k:ws=[]
 .exact adt #[_,e,rfl] #[_,a,rfl] acs ade abT abQ (abO _ _)
   (tuple_addW1 t b _ _ n n2 g _ sl _ 07 07) #[e,a,h1 k]
 .refine adt #[_,e,rfl] #[_,a,rfl] acs ade abT abQ (abO _ _)
   (tuple_addW2 t b _ _ n n2 g _ sl _ 07 07 07) #[e,a,?_]
  simp_all
def fD(n d:Nat):Option Int->Nat
 |none=>d
 |some v=>if v<0 then(v+(n:Int)).toNat else min v.toNat n
theorem Q0(n d k:Nat):fD n d (aa (k:Int))=min k n:=rfl
theorem agi(v:Int)(n d:Nat):(if v<0 then max (v+(n:Int)) 0 else min v (n:Int))=((fD n d (aa v):Nat):Int):=by
 show(if v<0 then max _ 0 else min v _)=(if v<0 then(v+(n:Int)).toNat else min v.toNat n)
 grind
theorem anc(lo hi:Option Int)(n:Nat):abM lo hi 1 (n:Int)=(((fD n 0 lo:Nat):Int),((fD n n hi:Nat):Int)):=by
 refine Prod.ext ?_ ?_
 .cases lo with
  |none=>rfl
  |some v=>exact agi v n 0
 .cases hi with
  |none=>rfl
  |some v=>exact agi v n n
theorem ane(i j:Nat):abN (i:Int) (j:Int) 1=j-i:=by
 unfold abN;simp;split
 .exact Int.toNat_sub ..
 .rename_i h;exact(Nat.sub_eq_zero_of_le (WM.mp h)).symm
theorem adU(p:xH v o)(h:Q o s):bH 09 A (ayo v) Q E s:=by
 cases p with
 |none=>exact slicePart_none h
 |int i t=>exact slicePart_int h
theorem acu{sl:aH}{lo hi:Option Int}{n:Nat}(hs:s.heap.IsSliceOf sl vl vu .none)(c:xH vl lo)(d:xH vu hi)
  (h:Q (((fD n 0 lo:Nat):Int),1,fD n n hi-fD n 0 lo) s):bH 09 A (ayt (.ref sl) (pure (n:Int))) Q E s:=by
 obtain⟨f,a,e,b⟩:=id hs
 refine aQ (aQ (adI a b (x:=vl) rfl (aQ (adI a b (x:=vu) rfl (aQ (adI a b  rfl (bM (aQ (slicePart_none (aQ (adU c (aQ (adU d (aQ (bM ?_)))))))))))))));show bH _ _ (match abM lo hi 1 _ with|(lo,hi)=>pure (lo,(1:Int),abN lo hi 1)) _ _ s;rw[anc lo hi n];show bH _ _ (pure _) _ _ s;rw[ane];exact bM h
theorem apf(xs:Array aL)(i k:Nat):((gQ k).filterMap λ(m:Nat)=>xs[((i:Int)+(m:Int)*1).toNat]?).toArray=((xs.toList.drop i).take k).toArray:=by
 have e:(λ(m:Nat)=>xs[(i+(m:Int)*1).toNat]?)=λm=>xs[i+m]?:=c8
 rw[e];have:=pick_run xs i k;have e2:((λx=>xs[x]?) ∘ λx=>i+x)=λm=>xs[i+m]?:=rfl
 simp_all
theorem alg{t sl:aH}{g f:aL}{lo hi:Option Int}(ht:IsTup s.heap t items)(hs:s.heap.IsSliceOf sl g f .none)(j:xH g lo)(l:xH f hi)
  (m:¬(fD items.size 0 lo=0/\fD items.size items.size hi=items.size))
  (h:Q 048 {s with heap:=s.heap.push {cls:=.type "tuple",data:=.seq ((items.toList.drop (fD items.size 0 lo)).take (fD items.size items.size hi-fD items.size 0 lo)).toArray}})
  (hsz:items.size<=cG):bH 09 A (Dc (.ref t) (.ref sl)) Q E s:=by
 have c:=by
  show((items.toList.drop (fD items.size 0 lo)).take (fD items.size items.size hi-fD items.size 0 lo)).toArray.size<=cG
  exact c8
 obtain⟨i,d,e,k⟩:=id hs
 have b:s.TypeIs (.ref sl) _:=#[i,d,e]
 unfold Dc
 try with_reducible refine m9 ?_
 refine aQ (alh ht.typeIs (rfl) (aQ (BJ ht.typeIs Uo
  (pC Uo ht.typeIs entry_tuple_getitem ?_ (args_tuple_getitem _ _)))))
 show bH _ _ (abL _ >>= _) _ _ s;refine aQ (tupleItemsOf_ ht (aQ (Ft b (aQ (acu hs j l ?_)))));have a:¬((((fD items.size 0 lo):Int)==0&&(1:Int)==1&&(fD items.size items.size hi-fD items.size 0 lo)==items.size)=aq):=by simp_all
 show bH _ _ (if(((fD _ 0 lo):Int)==0&&1==1&&(fD _ _ hi-fD _ 0 lo)==items.size)=aq then _ else _) _ _ s;rw[cC a,apf]
 (exact aQ (qD (bM #[_,rfl,bM h]) c))
end
end HT
namespace L2
open PySem PySem.Spec PyProof.Rows
abbrev TO:=St->Hp->(Option Int->Hp->Prop)->Prop
def PO(X:Cx)(e:Option Expr)(t:TO):Prop:=
 ∀(aC:007)(s:bf)(σ:St)(H:Hp)(Q:Option Int->Hp->Prop),Inv X aC σ H s->t σ H Q->
  bH 02 X.A (evalPart e X.env) (λu s'=>∃o H',Inv X aC σ H' s'/\xH u o/\Q o H') X.xe s
def aqP:TO:=λ_ H Q=>Q aj H
def auT(t:TE):TO:=λσ H Q=>t σ H λx H1=>∃i,x=.int i/\Q (aa i) H1
theorem intsAre_of:∀{us:042},Vals (ns.map V.int) us->IntsAre us ns:=by
 induction ns with
 |nil=>intro us r;cases r;exact .nil
 |cons n ns ih=>
  intro us r;cases r with
  |cons r1 r2=>
   obtain⟨t,e⟩:=r1
   subst e;exact .cons n t (ih r2)
section
variable{X:Cx}{e:Expr}{te:TE}{lo hi:Option Expr}
theorem aqQ:PO X aj aqP:=by
 intro aC s σ H Q I h;exact bM #[_,H,I,.none,h]
theorem aqR(h:PE X e te):PO X (aa e) (auT te):=by
 intro aC s σ H Q I b;refine cz (h _ s σ H _ I b) λu s1 d=>hide λGG c=>?_
 obtain⟨x,H1,g,f,a⟩:=d
 obtain⟨i,rfl,q⟩:=a
 obtain⟨t,rfl⟩:=f
 exact c (#[_,H1,g,.int i t,q])
def zM(X:Cx)(r:V->Option Int->Option Int->Hp->VK->Prop):Prop:=
 ∀(aC:007)(s:bf)(σ:St)(H:Hp)(x:V)(v vl vu:aL)(lo hi:Option Int)(sl:aH)(Q:VK),Inv X aC σ H s->RelV x v->s.heap.IsSliceOf sl vl vu .none->xH vl lo->xH vu hi->r x lo hi H Q->
  ∃T id,typeLookup (.type T) "__getitem__"=pure (aa (.builtin id))/\s.TypeIs v T/\bH 02 X.A (Dc v (.ref sl)) (EP X aC σ Q) X.xe s
theorem zM.or(h:zM X r)(h':zM X r'):zM X (λx lo hi H Q=>r x lo hi H Q\/r' x lo hi H Q):=by
 intro aC s σ H x v d a lo hi sl Q I rx hs b c q;rcases q with q|q
 .exact h _ s σ H x v d a lo hi sl Q I rx hs b c q
 .exact h' _ s σ H x v d a lo hi sl Q I rx hs b c q
def tSl(r:V->Option Int->Option Int->Hp->VK->Prop)(te:TE)(tl th:TO):TE:=λσ H Q=>te σ H λx H1=>tl σ H1 λl H2=>th σ H2 λu H3=>r x l u H3 Q
theorem apg{r:V->Option Int->Option Int->Hp->VK->Prop}(z:zM X r)(he:PE X e te)(hl:PO X lo tl)(hu:PO X hi th):PE X (.Subscript e (.Slice lo hi aj p2) pos) (tSl r te tl th):=by
 intro aC s σ H Q I h;refine Subscript_ (cz (he _ s σ H _ I h) λv s1 c=>hide λGG a=>?_)
 obtain⟨x,H1,y,w,k⟩:=c
 refine a (wpAny_Slice (cz (hl _ s1 σ H1 _ y k) λf p ⟨l,H2,B,o,j⟩=>cz (hu _ p σ H2 _ B j) λd g c=>hide λGG a=>?_))
 obtain⟨u,i,t,A,n⟩:=c
 refine a (bM ?_);have m:Inv X _ σ i {g with heap:=g.heap.push {cls:=.type "slice",data:=.fields #v[f,d,.none]}}:=t.kept λb D q=>dF _ q
 obtain⟨T,id,C,ht,hg⟩:=z _ _ σ i x v f d l u _ Q m w (ay0 ..) o A n
 exact tail_any ht C hg (rfl)
def zF(xs:041)(lo hi:Option Int):List V:=(xs.drop (HT.fD xs.length 0 lo)).take (HT.fD xs.length xs.length hi-HT.fD xs.length 0 lo)
theorem adJ(xs:041)(lo hi:Option Int):(zF xs lo hi).length<=xs.length:=((List.take_sublist _ _).trans (List.drop_sublist _ _)).length_le
def avZ(K:bw):V->Option Int->Option Int->Hp->VK->Prop:=λx lo hi H Q=>∃a xs,x=.ref a/\dW K H a xs/\
 ¬(HT.fD xs.length 0 lo=0/\HT.fD xs.length xs.length hi=xs.length)/\∀p,H p=aj->Q (.ref p) (upd H p (.tup (zF xs lo hi)))
theorem ata:zM X (avZ X.K):=by
 intro aC s σ H x v n k lo hi sl Q I rx hs f j h;refine hide λGG e=>?_
 obtain⟨a,xs,rfl,g,l,q⟩:=h
 cases rx
 obtain⟨i,r,ht,d⟩:=I.tuple g
 have c:i.toArray.size=xs.length:=r.length.symm;refine e (#[_,_,PyProof.Rows.slot_tuple_getitem.lookup,ht.typeIs,HT.alg ht hs f j 07 ?_ 07]);rw[c]
 refine#[.ref _,_,I.laid (λb m q=>dF _ q) 046 ?_,rfl,q _ (I.hok.fresh 046)]
 exact#[jw (adJ xs lo hi) d,_,(r.drop _).take _,IsTup.new _ _]
def ain(K:bw):R2:=λx y H Q=>∃a b xs ys,x=.ref a/\y=.ref b/\dW K H a xs/\dW K H b ys/\xs≠[]/\xs.length+ys.length<=cG/\
 (ys=[]->Q 043 H)/\(ys≠[]->∀p,H p=aj->Q (.ref p) (upd H p (.tup (xs++ys))))
theorem Vals.Yx(r:Vals xs us):us=[]↔xs=[]:=by
 cases r with
 |nil=>simp
 |cons _ _=>simp
theorem aqS:dX X (qL .Add) (ain X.K):=by
 intro aC s σ H x y v u Q I rx i h;refine hide λGG j=>?_
 obtain⟨a,b,xs,ys,rfl,rfl,m,k,l,n,g,f⟩:=h
 cases rx;cases i
 obtain⟨o,d,p1,_⟩:=I.tuple m
 obtain⟨e,c,p2,_⟩:=I.tuple k
 refine j (HT.aqO p1 p2 (λz=>l (d.Yx.mp z)) (λz=>#[.ref a,H,I,rfl,g (c.Yx.mp z)]) (λz=>#[.ref _,_,I.laid (λb p q=>dF _ q) 046 ?_,rfl,f (λw=>z (c.Yx.mpr w)) _ (I.hok.fresh 046)]) (by rwa [<-d.length,<-c.length]))
 exact#[by simp_all,_,d.append c,IsTup.new _ _]
end
noncomputable def qt (n:Nat) (i:Int):Option Nat:=if 0<=i then(if i<n then aa i.toNat else aj) else if -(n:Int)<=i then aa (i+n).toNat else aj
noncomputable def eX {α:Type} (xs:List α) (i:Int):Option α:=(qt xs.length i).bind λj=>xs[j]?
theorem agj(h:qt n i=aa j):seqIndex? i n=aa j/\j<n/\-(n:Int)<=i/\i<n:=by
 unfold qt at h;by_cases a:0<=i
 .rw[bZ a] at h;by_cases h1:i<n
  .rw[bZ h1] at h;have e:=nO h
   exact#[by rw[adK a h1,e],aK,c4,h1]
  simp_all
 .rw[cC a] at h;by_cases h1:-n<=i
  .rw[bZ h1] at h;have e:=nO h
   exact#[by rw[adu c4 h1,e],aK,h1,c4]
  simp_all
theorem Yy{xs:List α}{v:α}(h:eX xs i=aa v):∃j,seqIndex? i xs.length=aa j/\xs[j]?=aa v/\j<xs.length/\-(xs.length:Int)<=i/\i<xs.length:=by
 unfold eX at h;cases e:qt _ i with
 |none=>rw[e] at h;cases h
 |some j=>
  obtain⟨h1,h2,a,b⟩:=agj e
  simp_all
theorem Aj{xs:List α}{j:Nat}{v:α}(h:xs[j]?=aa v):eX xs (j:Int)=aa v:=by
 have a:=(lW.mp h).1;have e:qt xs.length j=aa j:=by
  unfold qt;simp[*]
 unfold eX;rwa [e]
def JX(b:Expr):Prop:=∀o i,adL b aR o i=operate [o,i] (Dc o i)
def uR(X:Cx)(r:R2):Prop:=
 ∀(value slice:Expr)(aC:007)(s:bf)(σ:St)(H:Hp)(x y:V)(v u:aL)(Q:VK),Inv X aC σ H s->RelV x v->RelV y u->r x y H Q->
  adL slice aR v u=operate [v,u] (Dc v u)->bH 02 X.A (subscriptTail value slice v u) (EP X aC σ Q) X.xe s
def MtR(X:Cx)(id:String)(r:V->List V->Hp->VK->Prop):Prop:=
 ∀(aC:007)(s:bf)(σ:St)(H:Hp)(x:V)(xs:041)(v:aL)(us:042)(Q:VK),Inv X aC σ H s->RelV x v->Vals xs us->r x xs H Q->
  bH 02 X.A (call (.builtin id) (v::us)) (EP X aC σ Q) X.xe s
section
variable{X:Cx}{a b:Expr}{ta tb:TE}{pos:Pos}
theorem uR.or(h:uR X r)(h':uR X r'):uR X (λx y H Q=>r x y H Q\/r' x y H Q):=by
 intro a b aC s σ H x y v u Q I rx c q hs;rcases q with q|q
 .exact h _ _ _ s σ H x y v u Q I rx c q hs
 .exact h' _ _ _ s σ H x y v u Q I rx c q hs
theorem aai(g:uR X r)(e:PE X a ta)(d:PE X b tb)(hs:JX b):PE X (.Subscript a b pos) (DX r ta tb):=by
 intro aC s σ H Q I h;exact Subscript_ (aaH e d I h λv u f x y H2 i rx c q=>g a b _ f σ H2 x y v u Q i rx c q (hs _ _))
def aiO(K:bw):R2:=λx y H Q=>∃p xs i v,x=.ref p/\y=.int i/\cA K H p xs/\eX xs i=aa v/\Q v H
def aiP(K:bw):R2:=λx y H Q=>∃p xs i v,x=.ref p/\y=.int i/\dW K H p xs/\eX xs i=aa v/\Q v H
def aiQ:R2:=λx y H Q=>∃z i c,x=.str z/\y=.int i/\z.length<=cG/\eX z.cps.toList i=aa c/\Q (.str #[#v[c]]) H
theorem Yz:uR X (aiO X.K):=by
 intro e d aC s σ H x y v u Q I rx k h hs;refine hide λGG f=>?_
 obtain⟨p,xs,i,z,rfl,rfl,A,o,q⟩:=h
 cases rx
 obtain⟨t,rfl⟩:=k
 obtain⟨n,r,c,C⟩:=I.list A
 obtain⟨j,h1,h2,E,l,B⟩:=Yy o
 obtain⟨w,D,b⟩:=r.get h2
 have hl:=r.length;have F:=Dj;have a:EP X _ σ Q w s:=#[z,H,I,b,q]
 by_cases g:0<=i
 .have m:=by
   rw[adK g B] at h1;exact nO h1
  exact f (item_listR c.isList g aK 07 a hs)
 .have m:(i+n.toArray.size).toNat=j:=by
   rw[adu aK l] at h1
   grind
  exact f (subscriptTail_builtinR c.isList.typeIs slot_list_getitem.lookup
   (wpAny_getItem_list_neg c.isList aK (by grind) aK (by grind) ⟨rfl,a⟩) hs)
theorem atb:uR X (aiP X.K):=by
 intro d c aC s σ H x y v u Q I rx f h hs;refine hide λGG g=>?_
 obtain⟨p,xs,i,z,rfl,rfl,l,k,q⟩:=h
 cases rx
 obtain⟨t,rfl⟩:=f
 obtain⟨A,r,e,m⟩:=I.tuple l
 obtain⟨j,h1,h2,B,n,D⟩:=Yy k
 obtain⟨w,o,a⟩:=r.get h2
 have hl:=r.length;have C:=Dj;have b:EP X _ σ Q w s:=#[z,H,I,a,q]
 exact g (subscriptTail_builtinR e.typeIs slot_tuple_getitem.lookup
  (getItem_tuple e c4 c4 (by rwa [u5,<-hl]) (by simp_all) ⟨rfl,b⟩) hs)
theorem atc:uR X aiQ:=by
 intro b a aC s σ H x y v u Q I rx d h hs;refine hide λGG e=>?_
 obtain⟨z,i,c,rfl,rfl,l,g,q⟩:=h
 obtain⟨t,rfl⟩:=rx
 obtain⟨o,rfl⟩:=d
 obtain⟨j,h1,h2,m,f,k⟩:=Yy g
 have hl:z.cps.toList.length=z.length:=rfl;rw[hl] at h1 f k;have n:=Dj;exact e (tail_any (adV s z t) slot_str_getitem.lookup (getItem_str (c4) 07 #[.str _,H,I.tok _,05,q]) hs)
def rIx(K:bw):R2:=λx y H Q=>aiO K x y H Q\/aiP K x y H Q\/aiQ x y H Q
theorem atd:uR X (rIx X.K):=Yz.or (atb.or atc)
theorem anf(aN:042)(n j:Nat)(u:aL):rP (·.setIfInBounds j u) {cls:=.type "list",data:=.seq aN.toArray n}={cls:=.type "list",data:=.seq (aN.set j u).toArray n}:=by
 simp[rP]
theorem Inv.lst{aC:007}{σ:St}{H:Hp}{s:bf}{p:aH}{xs:041}(I:03)(h:H p=aa (.lst xs)):
  ∃(aN:042)(n:Nat),Vals xs aN/\s.heap.get? p=aa {cls:=.type "list",data:=.seq aN.toArray n}/\xs.length<=cG:=by
 obtain⟨z,aN,n,r,e⟩:=I.hok p _ h
 simp_all
theorem Inv.ate{σ:St}{H:Hp}{s:bf}{p:aH}{aN a:042}{n c:Nat}{f:Obj->Obj}(I:03)(h:H p=aa (.lst xs))
  (i:s.heap.get? p=aa {cls:=.type "list",data:=.seq aN.toArray n})(d:f {cls:=.type "list",data:=.seq aN.toArray n}={cls:=.type "list",data:=.seq a.toArray c})(r:Vals ys a)(hz:ys.length<=cG)(t:Nat):
  Inv X aC σ (upd H p (.lst ys)) {s with heap:=s.heap.update p f,toks:=t}:=by
 have e:(s.heap.update p f).get? p=aa {cls:=.type "list",data:=.seq a.toArray c}:=by
  rw[zY f i (by rw[d]<;>rfl),d]
 exact I.write (by rw[h];trivial) 038 (λb u g q=>(wO _ _ (jW g)).trans q) #[_,e] #[hz,_,c,r,e]
def aaj:V->V->V->Hp->(Hp->Prop)->Prop:=λo i v H Q=>∃p xs k j,o=.ref p/\i=.int k/\H p=aa (.lst xs)/\qt xs.length k=aa j/\Q (upd H p (.lst (xs.set j v)))
theorem set_list:zE X aaj:=by
 intro aC s σ H o i v A C u Q I l w y h;refine hide λGG b=>?_
 obtain⟨p,xs,k,j,rfl,rfl,c,g,q⟩:=h
 cases l
 obtain⟨t,rfl⟩:=w
 obtain⟨m,n,r,a,z⟩:=I.lst c
 obtain⟨h1,h2,x,e⟩:=agj g
 have hl:=r.length;have B:=Dj;have D:=
  I.ate c a (anf _ n j u) (r.set y j) 07 s.toks
 by_cases d:0<=k
 .have f:=by
   rw[adK d e] at h1;exact nO h1
  exact b (PySem.W.ki_setAt a d aK 07 07)
 .have f:(k+m.toArray.size).toNat=j:=by
   rw[adu aK x] at h1
   grind
  exact b (PySem.W.ki_setBack a aK 07 aK 07)
theorem amu(lo hi:Option Int)(n:Nat):(O2 lo hi aj n).1=((HT.fD n 0 lo:Nat):Int)/\(O2 lo hi aj n).2.1=((HT.fD n n hi:Nat):Int)/\(O2 lo hi aj n).2.2=1:=by
 have q:∀i:Int,max 0 (min (if i<0 then i+n else i) n)=if i<0 then max (i+(n:Int)) 0 else min i n:=λi=>by split<;>lia
 refine#[?_,?_,rfl]
 .cases lo with
  |none=>rfl
  |some i=>rw[<-HT.agi,<-q];rfl
 .cases hi with
  |none=>rfl
  |some i=>rw[<-HT.agi,<-q];rfl
theorem ama(aN:042)(lo hi:Option Int):slicePick aN.toArray lo hi aj=((aN.drop (HT.fD aN.length 0 lo)).take (HT.fD aN.length aN.length hi-HT.fD aN.length 0 lo)).toArray:=by
 obtain⟨h1,h2,a⟩:=amu lo hi _
 unfold slicePick;rw[h1,h2,a];simp only[sliceRange_one,pick_run,u5]
def av0(K:bw):V->Option Int->Option Int->Hp->VK->Prop:=λx lo hi H Q=>∃a xs,x=.ref a/\cA K H a xs/\∀p,H p=aj->Q (.ref p) (upd H p (.lst (zF xs lo hi)))
theorem aqT:zM X (av0 X.K):=by
 intro aC s σ H x v m j lo hi sl Q I rx hs f i h;refine hide λGG e=>?_
 obtain⟨a,xs,rfl,g,q⟩:=h
 cases rx
 obtain⟨k,r,ht,d⟩:=I.list g
 have c:=r.length;refine e (#[_,_,slot_list_getitem.lookup,ht.isList.typeIs,wpAny_getItem_list_slice ht.isList hs f i .none cg ?_ 07]);rw[ama,<-c]
 refine#[.ref _,_,I.laid (λb l q=>dF _ q) 046 ?_,rfl,q _ (I.hok.fresh 046)]
 exact#[jw (adJ xs lo hi) d,_,0,(r.drop _).take _,ji _ rfl]
def tG:V->Bool
 |.non=>aq
 |.bl _=>aq
 |.int _=>aq
 |.str _=>aq
 |_=>aR
def wA:V->V->Bool
 |.non,.non=>aq
 |.bl a,.bl b=>a==b
 |.bl a,.int b=>(if a then 1 else 0)==b
 |.int a,.bl b=>a==(if b then 1 else 0)
 |.int a,.int b=>a==b
 |.str a,.str b=>a==b
 |_,_=>aR
theorem Zy(d:RelV y u)(rx:RelV x v)(f:tG y=aq)(e:tG x=aq):Cz A s u v (wA y x):=by
 cases y with
 |non=>
  cases d;cases x with
  |non=>cases rx;exact Vh _
  |bl b=>cases rx;exact SeqAt.EqAt.none_bool b
  |int b=>obtain⟨t,rfl⟩:=rx;exact SeqAt.EqAt.none_int b t
  |str b=>obtain⟨t,rfl⟩:=rx;exact SeqAt.EqAt.none_str b t
  |_=>exact absurd (show aR=aq from e) kY
 |bl a=>
  cases d;cases x with
  |non=>cases rx;exact SeqAt.EqAt.bool_none a
  |bl b=>cases rx;exact akH a b
  |int b=>obtain⟨t,rfl⟩:=rx;exact akP a b t
  |str b=>obtain⟨t,rfl⟩:=rx;exact akR a b t
  |_=>exact absurd (show aR=aq from e) kY
 |int a=>
  obtain⟨c,rfl⟩:=d
  cases x with
  |non=>cases rx;exact SeqAt.EqAt.int_none a c
  |bl b=>cases rx;exact akO a c b
  |int b=>obtain⟨t,rfl⟩:=rx;exact ak4 a c b t
  |str b=>obtain⟨t,rfl⟩:=rx;exact akX a c b t
  |_=>exact absurd (show aR=aq from e) kY
 |str a=>
  obtain⟨c,rfl⟩:=d
  cases x with
  |non=>cases rx;exact SeqAt.EqAt.str_none a c
  |bl b=>cases rx;exact akQ a c b
  |int b=>obtain⟨t,rfl⟩:=rx;exact akY a c b t
  |str b=>obtain⟨t,rfl⟩:=rx;exact SeqAt.EqAt.str_str a c b t
  |_=>exact absurd (show aR=aq from e) kY
 |_=>exact absurd (show aR=aq from f) kY
def DY(x:V)(u:aL):Bool:=match u with
 |.none=>wA .non x
 |.bool b=>wA (.bl b) x
 |.int i _=>wA (.int i) x
 |.str z _=>wA (.str z) x
 |_=>aR
theorem ahu(r:RelV y u)(f:tG y=aq):DY x u=wA y x:=by
 cases y with
 |non=>cases r;rfl
 |bl b=>cases r;rfl
 |int i=>obtain⟨t,rfl⟩:=r;rfl
 |str z=>obtain⟨t,rfl⟩:=r;rfl
 |_=>trivial
theorem JZ:∀{xs:041}{us:042},Vals xs us->xs.all tG=aq->us.any (DY x)=xs.any λy=>wA y x
 |_,_,.nil,_=>rfl
 |y::xs,u::us,.cons r t,f=>by
  rw[Jh,lJ] at f;rw[adf,adf,ahu r f.1,JZ t f.2]
theorem JB(rx:RelV x v)(b:tG x=aq):∀{xs:041}{us:042},Vals xs us->xs.all tG=aq->∀u∈us,Cz A s u v (DY x u)
 |_,_,.nil,_=>λu a=>c8
 |y::xs,u::us,.cons r t,f=>λc a=>by
  rw[Jh,lJ] at f;rcases cB.mp a with rfl|a
  .rw[ahu r f.1];exact Zy r rx f.1 b
  .exact JB rx b t f.2 c a
def inV(x:V)(xs:041):Bool:=xs.any λy=>wA y x
def Tt(K:bw)(neg:Bool):R2:=λx y H Q=>∃p xs,y=.ref p/\(cA K H p xs\/dW K H p xs)/\tG x=aq/\xs.all tG=aq/\Q (.bl (if neg then !inV x xs else inV x xs)) H
theorem an3:dX X (iu .In) (Tt X.K aR):=by
 intro aC s σ H x y v u Q I rx f h;refine hide λGG e=>?_
 obtain⟨p,xs,rfl,b,d,fs,q⟩:=h
 cases f;rcases b with b|b
 .obtain⟨a,r,c,g⟩:=I.list b
  refine e (SeqAt.in_listAt _ c.isList (λw i=>JB rx d r fs w 07) #[.bl _,H,I,rfl,?_])
  rwa [show a.toArray.any _=a.any (DY x) by simp,JZ r fs]
 .obtain⟨a,r,c,g⟩:=I.tuple b
  refine e (SeqAt.in_tupleAt _ c (λw i=>JB rx d r fs w 07) #[.bl _,H,I,rfl,?_])
  rwa [show a.toArray.any _=a.any (DY x) by simp,JZ r fs]
theorem amv:dX X (iu .NotIn) (Tt X.K aq):=by
 intro aC s σ H x y v u Q I rx f h;refine hide λGG e=>?_
 obtain⟨p,xs,rfl,b,d,fs,q⟩:=h
 cases f;rcases b with b|b
 .obtain⟨a,r,c,g⟩:=I.list b
  refine e (SeqAt.notIn_listAt _ c.isList (λw i=>JB rx d r fs w 07) #[.bl _,H,I,rfl,?_])
  rwa [show a.toArray.any _=a.any (DY x) by simp,JZ r fs]
 .obtain⟨a,r,c,g⟩:=I.tuple b
  refine e (SeqAt.notIn_tupleAt _ c (λw i=>JB rx d r fs w 07) #[.bl _,H,I,rfl,?_])
  rwa [show a.toArray.any _=a.any (DY x) by simp,JZ r fs]
theorem adw:jh X (.builtin "len") (λxs H Q=>∃p ys,xs=[.ref p]/\(cA X.K H p ys\/dW X.K H p ys)/\Q (.int ys.length) H):=by
 intro aC s σ H xs us Q I r h;refine hide λGG d=>?_
 obtain⟨p,ys,rfl,b,q⟩:=h
 obtain⟨u,rfl,rx⟩:=vals1 r
 cases rx;have g:=Dj;rcases b with b|b
 .obtain⟨f,r',c,e⟩:=I.list b
  have a:=r'.length;exact d (Calls.call_len_list c.isList 07 #[.int _,H,I.tok _,#[_,by rw[u5,a]],q])
 .obtain⟨f,r',c,e⟩:=I.tuple b
  have a:=r'.length;exact d (len_tuple c 07 #[.int _,H,I.tok _,#[_,by rw[u5,a]],q])
theorem amw:jh X (.builtin "len") (λxs H Q=>∃z,xs=[.str z]/\z.length<=cG/\Q (.int z.length) H):=by
 intro aC s σ H xs us Q I r h
 obtain⟨z,rfl,a,q⟩:=h
 obtain⟨u,rfl,t,rfl⟩:=vals1 r
 have b:=Dj;exact len_str c4 #[.int _,H,I.tok _,05,q]
theorem jh.or(h:jh X f r)(h':jh X f r'):jh X f (λxs H Q=>r xs H Q\/r' xs H Q):=by
 intro aC s σ H xs us Q I a q;rcases q with q|q
 .exact h _ s σ H xs us Q I a q
 .exact h' _ s σ H xs us Q I a q
theorem amx:jh X (.type "list") (λxs H Q=>∃p ys,xs=[.ref p]/\(cA X.K H p ys\/dW X.K H p ys)/\∀l,H l=aj->Q (.ref l) (upd H l (.lst ys))):=by
 intro aC s σ H xs us Q I r h;refine hide λGG w=>?_
 obtain⟨p,ys,rfl,g,q⟩:=h
 obtain⟨u,rfl,rx⟩:=vals1 r
 cases rx;have d:∀(j:List _),Vals ys j->ys.length<=cG->∀(h':cF)(a:Nat),(∀b o',s.heap.get? b=aa o'->h'.get? b=aa o')->
   h'.get? _=aa _->EP X _ σ Q _ _:=λj r' c h' a f e=>
  #[.ref _,_,I.laid (t':=s.toks) f 046 (show mX _ _ _ h' _ (.lst ys) from#[c,_,a,r',e]),rfl,q _ (I.hok.fresh 046)]
 rcases g with g|g
 .obtain⟨j,r',k,c⟩:=I.list g
  have i:=r'.length
  obtain⟨o,v,m,n,t⟩:=k.isList
  exact w (call_list_seq p 038 v m t (λh' a f e=>d _ r' c h' a f e) 07)
 .obtain⟨j,r',k,c⟩:=I.tuple g
  have i:=r'.length
  obtain⟨o,v,m,n,t⟩:=k
  exact w (call_list_seq p (.inr rfl) v m t (λh' a f e=>d _ r' c h' a f e) 07)
theorem adg:jh X (.type "tuple") (λxs H Q=>∃p ys,xs=[.ref p]/\((cA X.K H p ys/\∀l,H l=aj->Q (.ref l) (upd H l (.tup ys)))\/(dW X.K H p ys/\Q (.ref p) H))):=by
 intro aC s σ H xs us Q I r h;refine hide λGG d=>?_
 obtain⟨p,ys,rfl,h⟩:=h
 obtain⟨u,rfl,rx⟩:=vals1 r
 cases rx;rcases h with⟨hq,q⟩|⟨hq,q⟩
 .obtain⟨i,r',a,c⟩:=I.list hq
  have g:=r'.length;refine d (call_tuple_list a.isList (λh' j=>?_) 07);have f:=I.kept (t':=s.toks) j;have k:=
   f.laid (t':=s.toks) (λb o e=>dF _ e) 046 (show mX _ _ _ _ _ (.tup ys) from#[c,_,r',IsTup.new _ _])
  exact#[.ref _,_,k,rfl,q _ (f.hok.fresh 046)]
 .obtain⟨i,r',a,c⟩:=I.tuple hq
  exact d (call_tuple_same a #[.ref p,H,I,rfl,q])
def tyV(K:bw)(T:String)(x:V)(H:Hp):Prop:=match x with
 |.str _=>T="str"
 |.int _=>T="int"
 |.ref p=>(T="list"/\∃xs,cA K H p xs)\/(T="tuple"/\∃o,K.lookup p=aa o/\o.cls=.type "tuple"/\o.dict=aj)\/
   (T="dict"/\((∃au ep,H p=aa (.dK au ep))\/∃au ep,H p=aa (.dT au ep)))\/(T="set"/\∃S n,H p=aa (.set S n))
 |_=>False
theorem atf{σ:St}{H:Hp}{x:V}{v:aL}(I:03)(r:RelV x v)(ty:tyV X.K T x H):
  s.TypeIs v T/\∀a,v=.ref a->∃ob,s.heap.get? a=aa ob/\ob.dict=aj:=by
 cases x with
 |str z=>
  obtain⟨t,rfl⟩:=r
  cases ty
  exact#[adV s z t,λk e=>nomatch e]
 |int i=>
  obtain⟨t,rfl⟩:=r
  cases ty
  exact#[adW s i t,λk e=>nomatch e]
 |ref p=>
  refine hide λGG b=>?_
  cases r;rcases ty with⟨rfl,xs,hq⟩|⟨rfl,o,hk,hc,f⟩|⟨rfl,hk⟩|⟨rfl,S,n,hk⟩
  .obtain⟨g,k,d,k⟩:=I.list hq
   refine b (#[d.isList.typeIs,λa e=>?_]);obtain⟨o,n,e,c,f,k⟩:=d
   simp_all
  .refine b (#[#[o,I.j0 p o hk,hc],λa e=>?_]);cases e
   exact#[o,I.j0 _ o hk,f]
  .have z:∃o,s.heap.get? p=aa o/\o.ExactDict:=by
    rcases hk with⟨au,ep,hk⟩|⟨au,ep,hk⟩
    .obtain⟨k,k,k,k,o,k,e,ex,k⟩:=I.hok p _ hk
     grind
    .obtain⟨k,k,k,k,o,k,e,ex,k⟩:=I.hok p _ hk
     grind
   obtain⟨o,e,ex⟩:=z
   refine b (#[#[o,e,ex.1],λa e2=>?_]);cases e2
   exact#[o,e,ex.2.1]
  .obtain⟨o,k,k,k,e,ex,k⟩:=I.hok p _ hk
   refine b (#[#[o,e,ex.1],λa e2=>?_]);cases e2
   exact#[o,e,ex.2.1]
 |_=>exact Pk ty
def tBM(K:bw)(T:String)(r:V->List V->Hp->VK->Prop)(to:TE)(t:TA):TE:=λσ H Q=>to σ H λx H1=>tyV K T x H1/\t σ H1 λxs H2=>r x xs H2 Q
variable{o e:Expr}{to:TE}{t:TA}{name:Str}{apos cpos:Pos}{T id:String}
theorem aak(q:PlainAttrs T)(c:Slot T name id)(f:typeOf (.builtin id)=pure (.type "method_descriptor"))(y:MtR X id r)(z:PE X o to)(p:PA X (e::es) t)
  (a:Fg o name X.env (eval o X.env)=eval o X.env:=by rfl)
  (d:((jx cpos (bV (e::es) X.env)).all (λx=>!x.1)&&(Qp cpos (O3 [] X.env)).all (λx=>x.1.isSome)
   &&decide ((e::es).length+([]:List yP).length+(if([]:List yP).isEmpty then 0 else 1)<30))=aq:=by rfl)
  (b:(apos.endLine==cpos.line)=aq:=by rfl)(hs:bV (e::es) X.env=(010 e)::bV es X.env:=by rfl)(hplain:(jx cpos (bV es X.env)).any (·.1)=aR:=by rfl):
  PE X (.Call (.Attribute o name apos) (e::es) [] cpos) (tBM X.K T r to t):=by
 intro aC s σ H Q I h;refine wpAny_Call_method_late a d b rfl (cz (z _ s σ H _ I h) λv s1 n=>hide λGG m=>?_)
 obtain⟨x,H1,i,g,ty,l⟩:=n
 obtain⟨h1,h2⟩:=atf i g ty
 refine m (#[T,id,q,c,f,h1,h2,?_]);have j:=p cpos _ s1 σ H1 _ i l;rw[hs] at j⊢;exact abU 07 (ab3 (cz j λus u ⟨vs,H2,w,A,k⟩=>y _ u σ H2 x vs v us Q w g A k))
end
def Ea(X:Cx)(id:String)(r:V->List V->Hp->VK->Prop):Prop:=
 ∀(aC:007)(s:bf)(σ:St)(H:Hp)(x:V)(xs:041)(v:aL)(us:042)(Q:VK),Inv X aC σ H s->RelV x v->Vals xs us->r x xs H Q->
  bH 02 X.A (call (.builtin id) (v::us)) (EP X aC σ Q) X.xe s
theorem Vals.one{x:V}{us:042}(h:Vals [x] us):∃u,us=[u]/\RelV x u:=by cases h with|cons r h=>cases h;exact#[_,rfl,r]
theorem Vals.two{x y:V}{us:042}(h:Vals [x,y] us):∃u v,us=[u,v]/\RelV x u/\RelV y v:=by cases h with|cons r h=>cases h with|cons q h=>cases h;exact#[_,_,rfl,r,q]
theorem Vals.rep(h:Vals xs us):∀k:Nat,Vals (fX k xs).flatten (fX k us).flatten
 |0=>.nil
 |k+1=>(Vals.append h (Vals.rep h k))
theorem foldl_rep(aN:042):∀(k:Nat)(bu:042),
  List.foldl (λa b=>a++b) bu.toArray (fX k aN.toArray)=(bu++(fX k aN).flatten).toArray
 |0,bu=>by simp
 |k+1,bu=>by
  have e:bu.toArray++aN.toArray=(bu++aN).toArray:=cg;have e2:(bu++aN)++(fX k aN).flatten=bu++(fX (k+1) aN).flatten:=c8
  rw[<-e2,<-foldl_rep _ k _,<-e,M8,z7]
section
variable{X:Cx}{aC:List (aH×Obj)}{σ:St}{H:Hp}{s:bf}{l b:aH}{xs ys zs:List V}
theorem Inv.av1{aN a:042}{n:Nat}(I:03)(hH:H l=aa (.lst xs))
  (e:s.heap.get? l=aa {cls:=.type "list",data:=.seq aN.toArray n})(g:f aN.toArray=a.toArray)(c:Vals ys a)(hz:ys.length<=cG):
  Inv X aC σ (upd H l (.lst ys)) {s with heap:=s.heap.update l (rP f),toks:=t'}:=by
 have q:=PySem.IsL.update e f;rw[g] at q;exact I.write (by rw[hH];trivial) 038 (λh u b d=>(wO _ _ (jW b)).trans d) #[_,q] #[hz,_,_,c,q]
theorem Inv.aiR(I:03)(a:Vals ys aN)(hz:ys.length<=cG):
  Inv X aC σ (upd H s.heap.objs.size (.lst ys)) {s with heap:=s.heap.push {cls:=.type "list",data:=.seq aN.toArray},toks:=t'}:=
 I.laid (λk k q=>dF _ q) 046 #[hz,_,0,a,ji _ rfl]
theorem Inv.fresh(I:03):H s.heap.objs.size=aj:=I.hok.fresh 046
theorem Inv.Sv(I:03)(hH:H l=aa (.lst xs)):xs.length<=cG/\∃(aN:042)(n:Nat),Vals xs aN/\xs.length=aN.length/\s.heap.get? l=aa {cls:=.type "list",data:=.seq aN.toArray n}:=by
 obtain⟨z,aN,n,r,e⟩:=I.hok l _ hH
 exact#[z,_,n,r,r.length,e]
theorem aph(h:n<=cG):akf n=aR:=jz c4
end
section
variable{X:Cx}
def aqU:V->List V->Hp->VK->Prop:=λx vs H Q=>∃l xs y,x=.ref l/\vs=[y]/\H l=aa (.lst xs)/\xs.length<cG/\Q .non (upd H l (.lst (xs++[y])))
theorem W8:Ea X "list.append" aqU:=by
 intro aC s σ H x vs v us Q I rx b h;refine hide λGG a=>?_
 obtain⟨l,xs,y,rfl,rfl,hH,d,q⟩:=h
 cases rx
 obtain⟨u,rfl,c⟩:=b.one
 obtain⟨z,f,n,r,hl,e⟩:=I.Sv hH
 refine a (WL ab8 #[_,e,rfl] F.entry_list_append (F.args_list_append_2 _ _) (PySem.list_append l _ n u 07) #[e,(#[.non,_,I.av1 hH e cg (r.append (.cons c .nil)) ?_,rfl,q])])
 grind
def aaN:R2:=λx y H Q=>∃l b xs zs,x=.ref l/\y=.ref b/\H l=aa (.lst xs)/\H b=aa (.lst zs)/\xs.length+zs.length<=cG/\∀p,H p=aj->Q (.ref p) (upd H p (.lst (xs++zs)))
theorem ahv:dX X (qL .Add) aaN:=by
 intro aC s σ H x y v u Q I rx d h;refine hide λGG g=>?_
 obtain⟨l,b,xs,zs,rfl,rfl,hH,f,m,q⟩:=h
 cases rx;cases d
 obtain⟨z,c,n,r,hl,e⟩:=I.Sv hH
 obtain⟨o,a,n2,k,i,e2⟩:=I.Sv f
 refine g (PySem.P.add_list e e2 ?_ 07);have j:c.toArray++a.toArray=(c++a).toArray:=cg;rw[j]
 exact#[.ref _,_,I.aiR (r.append k) 07,rfl,q _ I.fresh]
def aiS:R2:=λx y H Q=>∃l k xs,x=.ref l/\y=.int k/\H l=aa (.lst xs)/\-(2^63)<=k/\k<2^63/\xs.length*k.toNat<=cG/\
 ∀p,H p=aj->Q (.ref p) (upd H p (.lst (fX k.toNat xs).flatten))
theorem len_rep{α:Type}(xs:List α)(k:Nat):(fX k xs).flatten.length=k*xs.length:=by simp
theorem atg:dX X (qL .Mult) aiS:=by
 intro aC s σ H x y v u Q I rx j h;refine hide λGG o=>?_
 obtain⟨l,k,xs,rfl,rfl,hH,h1,h2,B,q⟩:=h
 cases rx
 obtain⟨t,rfl⟩:=j
 obtain⟨z,b,n,r,hl,e⟩:=I.Sv hH
 have d:b.toArray.size*k.toNat<=cG:=by simp_all
 have c:¬b.toArray.size*k.toNat>(2^63-1) / 8:=by
  have:cG<=(2^63-1) / 8:=bh;lia
 have g:¬(!Builtin.List.listFitsIndex k)=aq:=by
  rw[fitsIndex_both h1 h2];trivial
 have i:¬akf (b.toArray.size*k.toNat)=aq:=by
  rw[aph d]
  simp
 have f:List.foldl (λp A=>p++A) #v[] (fX (if b.toArray.isEmpty=aq then 0 else k.toNat) b.toArray)=(fX k.toNat b).flatten.toArray:=by
  have w:=λm=>by
   have:=foldl_rep b m []
   rwa [lN] at this
  rw[w];cases b with
  |nil=>simp
  |cons a r'=>rfl
 refine o (wpAny_binaryOp_repeat_ref (rfl) ⟨_,e,rfl⟩ (λs'=>adW s' k t) noFill_list_mul F.fills_int_mul alQ repeat_list F.slot_int_index.lookup
  (WL alQ (adW s k t) F.entry_int_rmul (F.args_int_rmul_2 _ _) (int___rmul___int_list k t l _ n)
   ⟨e,rfl,⟨_,e,rfl⟩,WL F.slot_list_mul ⟨_,e,rfl⟩ F.entry_list_mul (F.args_list_mul_2 _ _) (AutoListH.list___mul___list_int_3 l _ n k t g c i) ⟨e,?_⟩⟩))
 rw[f]
 exact#[.ref _,_,I.aiR (r.rep _) (by rwa [len_rep,Nat.mul_comm]),rfl,q _ I.fresh]
end
section
set_option maxRecDepth 100000 in
end
section
variable{κ:Type}[DecidableEq κ]
def lR(au:List (κ×V))(k:κ):Option V:=(au.find? λkv=>decide (kv.1=k)).map (·.2)
def putK(au:List (κ×V))(k:κ)(v:V):List (κ×V):=
 if(au.any λkv=>decide (kv.1=k))=aq then au.map (λkv=>if kv.1=k then(kv.1,v) else kv) else au++[(k,v)]
theorem Qq{k:κ}(e:p.1=k):lR (p::r) k=aa p.2:=by simp[lR,e]
theorem Qs{k:κ}(e:¬p.1=k):lR (p::r) k=lR r k:=by simp[lR,e]
theorem Qt(k:κ):∀au:List (κ×V),(au.any λa=>decide (a.1=k))=(lR au k).isSome
 |[]=>rfl
 |p::r=>by
  rw[adf];by_cases e:p.1=k
  .simp only[Qq e,f9 e,Bool.true_or,Ep]
  .rw[Qs e,jz e];exact Qt k r
theorem Jr(au:List (κ×V))(k:κ)(v:V):(putK au k v).length<=au.length+1:=by
 unfold putK
 grind
theorem ae8{k:κ}(v:V)(h:lR au k=aj):putK au k v=au++[(k,v)]:=by
 unfold putK;rw[Qt,h];rfl
theorem tH.Jx(r:tH o u):o.isSome=u.isSome:=by
 cases o with
 |none=>cases u with
  |none=>rfl
  |some _=>trivial
 |some _=>cases u with
  |none=>trivial
  |some _=>rfl
theorem tH.getD(r:tH o u)(rd:RelV d d'):RelV (o.getD d) (u.getD d'):=by
 cases o with
 |none=>cases u with
  |none=>trivial
  |some _=>trivial
 |some _=>cases u with
  |none=>trivial
  |some _=>exact r
theorem KV.val(r:KV au vs)(k:κ):tH (lR au k) (J0 vs k):=by
 induction r with
 |nil=>trivial
 |@cons p q ps qs h t ih=>
  obtain⟨h1,h2⟩:=h
  by_cases e:p.1=k
  .have a:=h1.symm.trans e;have b:J0 (q::qs) k=aa q.2:=by simp[J0,a]
   rwa [Qq e,b]
  .have a:¬q.1=k:=λz=>e (h1.trans z)
   have b:J0 (q::qs) k=J0 qs k:=by simp[J0,a]
   rwa [Qs e,b]
theorem KV.any(r:KV au vs)(k:κ):(au.any λa=>decide (a.1=k))=vs.any λa=>decide (a.1=k):=by
 induction r with
 |nil=>rfl
 |cons h t ih=>simp_all
theorem KV.repl(r:KV au vs)(k:κ)(b:RelV y u):
  KV (au.map λa=>if a.1=k then(a.1,y) else a) (vs.map λa=>if a.1=k then(a.1,u) else a):=by
 induction r with
 |nil=>exact .nil
 |@cons p q ps qs h t ih=>
  refine .cons ?_ ih
  lia
theorem KV.put(r:KV au vs)(k:κ)(a:RelV y u):KV (putK au k y) (stored vs k u):=by
 unfold putK stored;rw[r.any k];by_cases e:(vs.any λb=>decide (b.1=k))=aq
 .rw[bZ e,bZ e];exact r.repl k a
 .rw[cC e,cC e];exact Paired.snoc r #[rfl,a]
theorem KV.length{au:List (κ×V)}(r:KV au vs):au.length=vs.length:=Paired.length r
end
theorem zb(r:RelV (kV k) u):(gq P w).is k u=aq:=by
 cases k with
 |inl i=>obtain⟨t,e⟩:=(r);subst e;exact amR P w i t
 |inr x=>obtain⟨t,e⟩:=(r);subst e;exact amS P w x t
theorem ath(e:kV a=kV b):a=b:=by
 cases a with
 |inl i=>cases b with
  |inl j=>have c:=e;injection c with c;lia
  |inr y=>trivial
 |inr x=>cases b with
  |inl j=>trivial
  |inr y=>have c:=e;injection c with c;lia
theorem agk:∀{a b:List Key},a.map kV=b.map kV->a=b
 |[],[],_=>rfl
 |[],_::_,e=>by trivial
 |_::_,[],e=>by trivial
 |x::xs,y::ys,e=>by
  injection e with e1 e2
  rw[ath e1,agk e2]
theorem aeq:∀{ks:List Key}{us:042},Vals (ks.map kV) us->ItemsAre (gq P w) ks us
 |[],_,r=>by cases r;exact .nil
 |k::ks,_,r=>by
  cases r with
  |cons h t=>exact .cons (zb h) (aeq t)
abbrev KT(H:Hp):List (TK×V)->List (TK×aH×aL)->Prop:=Paired λp q=>p.1=q.1/\kO H q.2.1 p.1/\RelV p.2 q.2.2
theorem KT.val(r:KT H au xs)(k:TK):tH (lR au k) ((vL xs k).map (·.2)):=by
 induction r with
 |nil=>trivial
 |@cons p q ps qs h t ih=>
  obtain⟨h1,_,h2⟩:=h
  by_cases e:p.1=k
  .have a:=h1.symm.trans e;have b:vL (q::qs) k=aa q.2:=by simp[vL,a]
   rwa [Qq e,b]
  .have a:¬q.1=k:=λz=>e (h1.trans z)
   have b:vL (q::qs) k=vL qs k:=by simp[vL,a]
   rwa [Qs e,b]
theorem KT.repl(r:KT H au xs)(k:TK)(b:RelV y u):
  KT H (au.map λa=>if a.1=k then(a.1,y) else a) (xs.map (putAt k u)):=by
 induction r with
 |nil=>exact .nil
 |@cons p q ps qs h t ih=>
  refine .cons ?_ ih;unfold putAt
  lia
theorem KT.put(r:KT H au xs)(k:TK)(c:kO H b k)(a:RelV y u):
  KT H (putK au k y) (storedH xs k b u):=by
 have e:(au.any λd=>decide (d.1=k))=(vL xs k).isSome:=by
  rw[Qt,(r.val k).Jx,Nh]
 unfold putK storedH;rw[e];by_cases q:(vL xs k).isSome=aq
 .rw[bZ q,bZ q];exact r.repl k a
 .rw[cC q,cC q];exact Paired.snoc r #[rfl,c,a]
theorem KT.keeps(r:KT H au xs)(ht:∀b ys,H b=aa (.tup ys)->H' b=aa (.tup ys)):KT H' au xs:=
 Paired.aaC r λk k z=>#[z.1,z.2.1.mono ht,z.2.2]
theorem aio(ok:jG P w H h)(e:Rd H a u):mX P w H h a u:=e.ok ok
def uT(H:Hp)(a:aH)(au:List (Key×V)):Prop:=∃ep,Rd H a (.dK au ep)
def Eb(H:Hp)(a:aH)(au:List (TK×V)):Prop:=∃ep,Rd H a (.dT au ep)
theorem vM(ok:jG P w H h)(e:uT H a au):au.length<=cG/\(a==qH)=aR/\∃vs,KV au vs/\h.DictOf (gq P w) a vs:=
 let ⟨ep,e⟩:=e;let ⟨z,y,vs,r,p⟩:=(aio ok e);#[z,y,vs,r,p.dictOf]
theorem aal(ok:jG P w H h)(e:H a=aa (.dK au ep)):au.length<=cG/\(a==qH)=aR/\∃vs,KV au vs/\h.DictOf (gq P w) a vs:=vM ok #[ep,.inl e]
theorem agl(ok:jG P w H h)(e:H a=aa (.tup (ks.map kV))):Ju (gq P w) h ks a:=by
 refine hide λGG c=>?_
 obtain⟨_,d,r,o,h1,h2,n,b⟩:=(ok a _ e)
 exact c (#[o,_,n,h1,h2,b,by simpa using aeq r])
theorem Ao(ok:jG P w H h):∀{k:TK},kO H a k->(GZ P w).is h k a
 |(_,none),e=>agl ok e
 |(_,some t),⟨c,e1,e2⟩=>by
  refine hide λGG d=>?_
  obtain⟨_,f,r,o,h1,h2,n,b⟩:=(ok a _ e1)
  cases r with
  |cons q1 r=>cases r with
   |cons q2 r=>cases r with
    |nil=>
     cases q1;cases q2
     exact d (#[c,#[o,n,h1,h2,b],agl ok e2])
theorem Ax(ok:jG P w H h)(e:Eb H a au):au.length<=cG/\(a==qH)=aR/\
  ∃xs,KT H au xs/\h.DictOfH (GZ P w) a xs:=by
 refine hide λGG c=>?_
 obtain⟨ep,e⟩:=e
 obtain⟨z,y,xs,r,o,es,h1,h2,f,d,g⟩:=(aio ok e)
 refine c (#[z,y,xs,r,o,es,ep,h1,h2,f,d,λx b=>?_,g]);have all:∀{l:List _}{m:List _},KT H l m->∀x∈m,(GZ P w).is h x.1 x.2.1:=by
  intro l m q;induction q with
  |nil=>simp
  |@cons p q ps qs hq t ih=>
   intro x b;rcases cB.mp b with e|b
   .exact Ao ok 07
   exact c8
 exact c8
theorem aam(ok:jG P w H h)(e:H a=aa (.dT au ep)):au.length<=cG/\(a==qH)=aR/\
  ∃xs,KT H au xs/\h.DictOfH (GZ P w) a xs:=Ax ok #[ep,.inl e]
def pP(H:Hp)(a:aH)(y:V)(r:Option V):Prop:=
 (∃au k,uT H a au/\y=kV k/\r=lR au k)\/∃au k b,Eb H a au/\y=.ref b/\kO H b k/\r=lR au k
def vW(H:Hp)(a:aH)(y v:V)(H':Nat->Hp):Prop:=
 (∃au k,(∃ep,H a=aa (.dK au ep))/\y=kV k/\au.length<cG/\H'=λe=>upd H a (.dK (putK au k v) e))\/
 ∃au k b,(∃ep,H a=aa (.dT au ep))/\y=.ref b/\kO H b k/\au.length<cG/\H'=λe=>upd H a (.dT (putK au k v) e)
theorem pP.k{H:Hp}{k:Key}(e:H a=aa (.dK au ep)):pP H a (kV k) (lR au k):=.inl #[_,k,#[ep,.inl e],rfl,rfl]
theorem pP.t{H:Hp}{k:TK}(e:H a=aa (.dT au ep))(c:kO H b k):pP H a (.ref b) (lR au k):=.inr #[_,k,b,#[ep,.inl e],rfl,c,rfl]
theorem vW.k{H:Hp}{k:Key}{v:V}(e:H a=aa (.dK au ep))(hl:au.length<cG):vW H a (kV k) v (λe=>upd H a (.dK (putK au k v) e)):=.inl #[_,k,#[ep,e],rfl,hl,rfl]
theorem vW.t{H:Hp}{k:TK}{v:V}(e:H a=aa (.dT au ep))(c:kO H b k)(hl:au.length<cG):
  vW H a (.ref b) v (λe=>upd H a (.dT (putK au k v) e)):=.inr #[_,k,b,#[ep,e],rfl,c,hl,rfl]
section
variable{X:Cx}{σ:St}{H:Hp}{s:bf}{a:aH}{y v:V}{u r:aL}{A:fB}
theorem Inv.big(I:03):qH<s.heap.objs.size:=by
 have h:=(I.mod.glob.keeps I.bk).lt;exact Cu bh h
theorem an4(hu:A.units+2<fJ)(I:03)(g:pP H a y (aa v))(n:RelV y u)(h:∀f s',Inv X aC σ H s'->RelV v f->Q f s'):
  bH 02 A (Dc 043 u) Q E s:=by
 refine hide λGG o=>?_
 rcases g with⟨au,k,e,ey,l⟩|⟨au,k,b,e,ey,eb,l⟩
 .subst ey
  obtain⟨z,r,vs,d,j⟩:=vM I.hok e
  obtain⟨f,i,c⟩:=tH.some_of (by rw[l];exact d.val k)
  exact o (wpAny_getItem_of (zb n) j.mapOf i (h f _ (I.tok _) c))
 .subst ey
  cases(n)
  obtain⟨z,r,xs,d,j⟩:=Ax I.hok e
  obtain⟨f,i,c⟩:=tH.some_of (by rw[l];exact d.val k)
  obtain⟨p,q,m⟩:=pY.mp i
  refine o (wpAny_getItem_heap (Gs hu) (Ao I.hok eb) j q ?_);rw[m];exact h f _ (I.tok _) c
theorem aiT(hu:A.units+2<fJ)(I:03)(g:pP H a y o)(i:RelV y u)(h:∀s',Inv X aC σ H s'->Q (.bool o.isSome) s'):
  bH 02 A (iu .In u 043) Q E s:=by
 refine hide λGG j=>?_
 rcases g with⟨au,k,e,ey,l⟩|⟨au,k,b,e,ey,eb,l⟩
 .subst ey
  obtain⟨z,f,vs,c,d⟩:=vM I.hok e
  refine j (wpAny_in_of (zb i) f d.mapOf ?_);rw[<-(c.val k).Jx,<-l];exact h _ (I.tok _)
 .subst ey
  cases(i)
  obtain⟨z,f,xs,c,d⟩:=Ax I.hok e
  refine j (wpAny_in_heap (Gs hu) (Ao I.hok eb) f d ?_);have q:=(c.val k).Jx;rw[Nh] at q;rw[<-q,<-l];exact h _ (I.tok _)
theorem agm(hu:A.units+2<fJ)(I:03)(g:pP H a y o)(i:RelV y u)(h:∀s',Inv X aC σ H s'->Q (.bool (!o.isSome)) s'):
  bH 02 A (iu .NotIn u 043) Q E s:=by
 refine hide λGG j=>?_
 rcases g with⟨au,k,e,ey,l⟩|⟨au,k,b,e,ey,eb,l⟩
 .subst ey
  obtain⟨z,f,vs,c,d⟩:=vM I.hok e
  refine j (wpAny_notIn_of (zb i) f d.mapOf ?_);rw[<-(c.val k).Jx,<-l];exact h _ (I.tok _)
 .subst ey
  cases(i)
  obtain⟨z,f,xs,c,d⟩:=Ax I.hok e
  refine j (wpAny_notIn_heap (Gs hu) (Ao I.hok eb) f d ?_);have q:=(c.val k).Jx;rw[Nh] at q;rw[<-q,<-l];exact h _ (I.tok _)
theorem yQ(I:03)(e:Mg (H a))(hs:vg a s.heap h')(he:∃q,h'.get? a=aa q)(c:mX X.prog X.w (upd H a ob) h' a ob):
  Inv X aC σ (upd H a ob) {s with heap:=h',toks:=t'}:=
 I.write e 038 (λb q d z=>(hs.2 b d).trans z) he c
theorem Kf(z:au.length<=cG)(hd:(a==qH)=aR)(b:KV au vs)(c:h'.DictAt (gq P w) a vs ep):
  mX P w H' h' a (.dK au ep):=#[z,hd,vs,b,c]
theorem aer(hu:A.units+2<fJ)(I:03)(g:vW H a y v H')(t:RelV y u)(w:RelV v r)(h:∀e s',Inv X aC σ (H' e) s'->Q () s'):
  bH 02 A (setItem 043 u r) Q E s:=by
 refine hide λGG f=>?_
 rcases g with⟨au,k,⟨ep,e⟩,ey,l,eH⟩|⟨au,k,b,⟨ep,e⟩,ey,eb,l,eH⟩
 .subst ey eH
  obtain⟨z,o,vs,d,m⟩:=aal I.hok e
  have x:vs.length<=cG:=by rwa [<-d.length]
  have hl:(putK au k v).length<=cG:=by have:=Jr au k v;lia
  refine f (wpAny_setItem_pairs (zb t) m λh' i hs=>?_)
  obtain⟨n,p⟩:=i.dictAt
  refine h n _ ?_;have F:∃q,h'.get? a=aa q:=let ⟨q,_,_,j,_⟩:=i;#[q,j]
  exact yQ I (by rw[e];exact qI) hs F (Kf hl o (d.put k w) p)
 .subst ey eH
  cases t
  obtain⟨z,o,xs,d,m⟩:=aam I.hok e
  have x:xs.length<=cG:=by rwa [<-Paired.length d]
  have hl:(putK au k v).length<=cG:=by have:=Jr au k v;lia
  refine f (wpAny_setItem_heap (Gs hu) (Ao I.hok eb) m λh' i hs=>(hide λGG f=>?_))
  obtain⟨q,es,B,j,h2,G,C,_,J⟩:=i
  refine f (h _ _ (yQ I (by rw[e];exact qI) hs #[q,j] #[hl,o,_,(d.put k eb w).keeps λc ys D=>?_,q,es,j,h2,G,C,J]))
  rwa [di (Dr D e 012)]
end
section
variable{X:Cx}{aC:List (aH×Obj)}{σ:St}{H:Hp}{s:bf}{a:aH}{au:List (Key×V)}{k:Key}{u:aL}{A:fB}{E:aL->bf->Prop}
theorem auV(I:03)(e:uT H a au)(h:∀t s',Inv X aC σ H s'->Q (.int au.length t) s'):bH 02 A (call (.builtin "len") [.ref a]) Q E s:=by
 obtain⟨z,d,vs,b,c⟩:=vM I.hok e
 refine call_len_dict d c (by rw[<-b.length];rw[jV] at z;lia) ?_;rw[<-b.length];exact h _ _ (I.tok _)
end
theorem amT{X:Cx}{σ:St}{H:Hp}{a:aH}{y:V}(I:03)(g:pP H a y o):s.TypeIs 043 "dict":=by
 rcases g with⟨au,k,e,_,_⟩|⟨au,k,b,e,_,_,_⟩
 .obtain⟨_,_,vs,_,c⟩:=vM I.hok e
  exact c.typeIs
 .obtain⟨_,_,xs,_,c⟩:=Ax I.hok e
  exact c.typeIs
theorem XC(h:cF)(a:qH<h.objs.size):mX P w H (h.push {cls:=.type "dict",data:=.dict #v[]}) h.objs.size (.dK [] 0):=
 #[lO _,beq_eq_false_iff_ne.mpr (jW (fH a)),[],.nil,_,_,ji _ rfl,#[rfl,rfl,rfl],rfl,λi hi=>absurd hi cg,.nil,qG]
def ati:TE:=λ_ H Q=>∀p,H p=aj->Q (.ref p) (upd H p (.dK [] 0))
theorem api:PE X (.Dict [] [] pos) ati:=λaC s σ H Q I h=>
 wpAny_Dict_empty #[.ref _,_,I.laid (λk k q=>dF _ q) 046 (XC _ I.big),rfl,h _ (I.hok.fresh 046)]
def Zz:List (TE×TE)->St->Hp->(List (V×V)->Hp->Prop)->Prop
 |[],_,H,Q=>Q [] H
 |(tk,tv)::r,σ,H,Q=>tk σ H λx H1=>tv σ H1 λy H2=>Zz r σ H2 λps H3=>Q ((x,y)::ps) H3
abbrev VV:List (V×V)->List (aL×aL)->Prop:=Paired λp q=>RelV p.1 q.1/\RelV p.2 q.2
def Tu(X:Cx)(pos:Pos)(keys:List (Option Expr))(values:057)(Ec:List (TE×TE)):Prop:=
 ∀(aC:007)(s:bf)(σ:St)(H:Hp)(Q:List (V×V)->Hp->Prop),Inv X aC σ H s->Zz Ec σ H Q->
  bH 02 X.A (evalPairs (pairTrees keys values X.env pos)) (λvs s'=>∃ps H',Inv X aC σ H' s'/\VV ps vs/\Q ps H') X.xe s
theorem aqV:Tu X pos [] [] []:=λaC s σ H Q I h=>pairTrees_nil_walk #[[],H,I,.nil,h]
theorem apj(g:PE X k tk)(e:PE X v tv)(m:Tu X pos ks vs Ec):
  Tu X pos (aa k::ks) (v::vs) ((tk,tv)::Ec):=λaC s σ H Q I h=>
 pairTrees_cons_walk (cz (g _ s σ H _ I h) λu s1 ⟨x,H1,l,rx,c⟩=>cz (e _ s1 σ H1 _ l c) λp i ⟨y,H2,n,b,d⟩=>
  cz (m _ i σ H2 _ n d) λws q ⟨ps,o,j,a,f⟩=>⟨_,o,j,.cons ⟨rx,b⟩ a,f⟩)
def Kg(au more:List (Key×V)):List (Key×V):=more.foldl (λbu kv=>putK bu kv.1 kv.2) au
theorem KV.merge:∀{more:List (Key×V)}{a:List (Key×aL)}{au:List (Key×V)}{vs:List (Key×aL)},KV more a->KV au vs->KV (Kg au more) (merged vs a):=by
 intro more a au vs r;induction r generalizing au vs with
 |nil=>intro q;exact q
 |@cons p q ps qs h t ih=>
  intro b;have e:KV (putK au p.1 p.2) (stored vs q.1 q.2):=by
   have:=b.put p.1 h.2
   lia
  exact ih e
theorem adh:∀(more au:List (Key×V)),(Kg au more).length<=au.length+more.length
 |[],au=>by show au.length<=au.length+0;simp
 |p::r,au=>by
  have h1:=adh r (putK au p.1 p.2);have h2:=Jr au p.1 p.2
  show(Kg _ r).length<=_
  grind
theorem adX:∀{au:List (Key×V)}{ws:List (aL×aL)},VV (au.map λe=>(kV e.1,e.2)) ws->∃d,Carries (gq P w) ws d/\KV au d
 |[],_,r=>by cases r;exact#[[],qI,.nil]
 |p::au,_,r=>by
  cases r with
  |@cons a b as bs h t=>
   obtain⟨d,c,q⟩:=adX t
   obtain⟨b1,b2⟩:=b
   exact#[(p.1,b2)::d,#[zb h.1,rfl,c],.cons #[rfl,h.2] q]
def auW(Ec:List (TE×TE)):TE:=λσ H Q=>∀p,H p=aj->Zz Ec σ (upd H p (.dK [] 0)) λps H2=>H2 p=aa (.dK [] 0)/\∃au:List (Key×V),ps=au.map (λkv=>(kV kv.1,kv.2))/\au.length<=15/\∀e,Q (.ref p) (upd H2 p (.dK (Kg [] au) e))
theorem aqW(h:Tu X pos keys values Ec)(a:keys.all (·.isSome)=aq)(hl:keys.length=values.length)(x:keys≠[])
  (f:keys.length<=15):PE X (.Dict keys values pos) (auW Ec):=by
 intro aC s σ H Q I q;have w:=I.hok.fresh 046;have u:=I.laid (t':=s.toks) (λ_ _ q=>dF _ q) 046 (XC _ I.big);refine wpAny_Dict_walk (knd:=gq _ _) a hl x f (cz (h _ _ σ _ _ u (q _ w)) λws B p=>hide λGG n=>?_)
 obtain⟨ps,H2,j,d,e,au,ep,A,k⟩:=p
 subst ep
 obtain⟨o,c,y⟩:=adX d
 obtain⟨z,v,C,r,m⟩:=aal j.hok e
 cases r;refine n (#[o,c,m,λh' i hs=>?_])
 obtain⟨b,g⟩:=i.dictAt
 refine#[.ref _,_,?_,rfl,k b]
 have l:(Kg [] au).length<=cG:=by
  have h1:=adh au [];rw[acD] at h1;rw[jV];lia
 have t:∃q,h'.get? _=aa q:=let ⟨q,_,_,hq,_⟩:=i;#[q,hq]
 exact yQ j (by rw[e];trivial) hs t (Kf l v (y.merge .nil) g)
structure M2(X:Cx)(o:Expr)(m:Str)(apos:Pos)(e f:Expr)(cpos:Pos):Prop where
 base:Fg o m X.env (eval o X.env)=eval o X.env
 few:((jx cpos (bV [e,f] X.env)).all (λx=>!x.1)&&(Qp cpos (O3 [] X.env)).all (λx=>x.1.isSome)
  &&decide (([e,f]:List Expr).length+([]:List yP).length+(if([]:List yP).isEmpty then 0 else 1)<30))=aq
 line:(apos.endLine==cpos.line)=aq
 trees:jx cpos (bV [e,f] X.env)=[(010 e),(010 f)]
def IsD(H:Hp)(a:aH):Prop:=(∃au,uT H a au)\/∃au,Eb H a au
theorem ahw{X:Cx}{σ:St}{H:Hp}(I:03)(d:IsD H a):
  s.TypeIs 043 "dict"/\(∀b,fY a=.ref b->∃ob,s.heap.get? b=aa ob/\ob.dict=aj)/\(a==qH)=aR:=by
 refine hide λGG g=>?_
 rcases d with⟨au,e⟩|⟨au,e⟩
 .obtain⟨_,f,vs,_,c⟩:=vM I.hok e
  refine g (#[c.typeIs,λb q=>?_,f]);cases q
  obtain⟨ob,_,_,h1,h2,_⟩:=c
  exact#[ob,h1,h2.2.1]
 .obtain⟨_,f,xs,_,c⟩:=Ax I.hok e
  refine g (#[c.typeIs,λb q=>?_,f]);cases q
  obtain⟨ob,_,_,h1,h2,_⟩:=c
  exact#[ob,h1,h2.2.1]
section
variable{X:Cx}{aC:List (aH×Obj)}{σ:St}{H:Hp}{s:bf}{a:aH}{y d:V}{u r:aL}{o:Option V}{A:fB}{E:aL->bf->Prop}
theorem ahx(hu:A.units+2<fJ)(I:03)(g:pP H a y o)(j:RelV y u)(rd:RelV d r)(h:∀m s',Inv X aC σ H s'->RelV (o.getD d) m->Q m s'):
  bH 02 A (call (.builtin "dict.get") [.ref a,u,r]) Q E s:=by
 refine hide λGG n=>?_
 rcases g with⟨au,k,e,ey,l⟩|⟨au,k,b,e,ey,eb,l⟩
 .subst ey
  obtain⟨z,i,vs,c,f⟩:=vM I.hok e
  refine n (adx abZ f.typeIs akr (akj _ _ _) (meets_dict_get_default _ a (zb j) i r) #[_,f.mapOf,h _ _ (I.tok _) ?_]);rw[l]
  exact(c.val k).getD rd
 .subst ey
  cases j
  obtain⟨z,i,xs,c,f⟩:=Ax I.hok e
  refine n (adx abZ f.typeIs akr (akj _ _ _) (meetsH_dict_get_default _ a b i r) #[Gs hu,k,xs,Ao I.hok eb,f,h _ _ (I.tok _) ?_]);rw[l]
  exact(c.val k).getD rd
end
end L2
namespace Att
open PySem PySem.W PySem.Calls PyProof.Rows
theorem alR:∀(ns:028)(vs:042),WellAll P h vs (ns.map WData.int)->IntsAre vs ns:=by
 intro ns;induction ns with
 |nil=>
  intro vs w;cases w;exact .nil
 |cons n ns ih=>
  intro vs w;cases w with
  |cons a b=>
   cases a;exact .cons _ _ (ih _ b)
theorem an5{l:OpenLaw}{n:Nat}(k:l.most=aa n){P:Params}{h:cF}
  (b:l.row.toRowW.claim.pre args=aq)(f:WellAll P h vals args):
  ∃a vs ns,vals=[fY a]/\args=[WData.list (ns.map WData.int)]/\h.get? a=aa {cls:=.type "list",data:=.seq vs.toArray}/\IntsAre vs ns/\ns.length<=n:=by
 have g:WShape.hasAll [] _ _=aq:=(pre_splitW b).1;have i:=(pre_splitW b).2
 obtain⟨d,r,rfl,h1,h2⟩:=hasAllW_cons g
 obtain rfl:=hasAllW_nil h2
 obtain⟨xs,rfl,j⟩:=hasW_list h1
 obtain⟨ns,rfl⟩:=items_int j
 have c:=by
  have e:=by
   have e:=(holds_andW i).1
   rwa [k] at e
  have m:=condW_of e (w_not (w_lt w_lit (w_len_list (w_arg rfl))))
  ((simp_all;omega))
 cases f with
 |cons w1 w2=>
  cases w2;cases w1 with
  |list ho hall=>exact#[_,_,ns,rfl,rfl,ho,alR ns _ hall,c]
theorem an6(l:OpenLaw)(args:List WData):l.row.toRowW.claim.post args 037 args=aq:=
 postW_of
  (rfl)
  (w_eq_bool (w_res rfl) w_lit) rfl
theorem amU{l:OpenLaw}{n:Nat}{q:dY}{d:DefRec}
  (H:l.most=aa n)(m:d.params.defaults=[])
  (call:∀(w:cW)(s₀ s₁:bf)(mg mb:Str->Option aL)(e:aH)(o:Obj)(t j c:aL)(a:aH)(vs:042)(ns:028),
   Ground q loose [] XP w s₀ mg mb s₁.heap->YP w s₁.heap->
   s₁.heap.get? e=aa o->o.data=.func (docDef d.name d.params d.body d.scope t j c)->s₁.heap.CodeRec j d.name->mg d.name=aa (.ref e)->
   s₁.heap.get? a=aa {cls:=.type "list",data:=.seq vs.toArray}->IntsAre vs ns->ns.length<=n->s₁.gens=#v[]->
   nQ (model l.prog w) J1 (.call (.ref e) ⟨[.ref a],[]⟩) (λr s'=>r=.ok (.ret (.bool aq))/\OldK s₁.heap s'.heap/\s'.os=s₁.os/\AllBare s'.gens) s₁):
  WalkO q loose XP YP l.row.toRowW d [] (λf vs=>adY f vs):=by
 intro w s₀ s₁ mg mb G Y e o t j c K kV J E u v k hg z x as i y C p A;obtain rfl:K=.none:=Dflts.none v m;obtain rfl:kV=.none:=Dflts.noKw v
 obtain⟨a,vs,ns,rfl,rfl,h,b,g⟩:=an5 H i p
 refine enter_call (Og (call w _ _ mg mb e o t j _ a vs ns G Y J (fd_plain E) u k h b g hg) λr s' F=>?_)
 obtain⟨rfl,h2,D,B⟩:=F
 exact#[.inl #[_,_,[],rfl,λ_=>rfl,.bool _,an6 l _,λ_=>#[BW,λ_ I=>(nomatch I)]],h2,D,B]
section
variable{prog:dY}{w:cW}{A:fB}{E:aL->bf->Prop}{s:bf}{K:Frag}
def ledger(h:cF)(L d:aH):List (aH×Obj):=(gQ h.objs.size).filterMap λa=>if a=L\/a=d then aj else(h.get? a).map λo=>(a,o)
end
end Att
namespace L2
open PySem PySem.Spec PyProof.Rows
theorem PN:∀{vs:042}{ns:028},IntsAre vs ns->Vals 050 vs
 |_,_,.nil=>.nil
 |_,_,.cons n t h=>.cons #[t,rfl] (PN h)
def Only(H:Hp):Prop:=∀b,H b=aj\/∃o xs,H b=aa (.tR o (.lst xs))
theorem apk{P:dY}{w:cW}{K:bw}{CX:ym}{k:Nat}{I a:aH}{fd:um}{x:Str}{sp:Sp}{s₁:bf}{ns:028}
  (N:K.In s₁.heap)(p:s₁.heap.Ns jA mg)(c:s₁.heap.Ns builtinsNs mb)(M:∀x:Str,x≠"__name__"->mb x=uc x)(y:s₁.heap.NoLimit)(hg:s₁.gens=#v[])
  (C:s₁.heap.get? a=aa {cls:=.type "list",data:=.seq vs.toArray})(hi:IntsAre vs ns)(hl:ns.length<=cG)(hr:jZ k J1)
  (F:∀base:cF,K.In base->base.Ns jA mg->eV P w K mg base CX k I fd [x] sp)(g:∀(s:bf)(u:aL),Gu s fd #[[u],[]] [(x,u)])
  (J:∀H:Hp,Only H->cA K H a 050->sp [.ref a] H (λv _=>v=.bl aq) λ_ _ _=>False)
  (E:∀H e s',CX [] H s₁ (λ_ _ _=>False) e s'->False):
  nQ (model P w) J1 (.call (.ref I) #[[.ref a],[]]) (λr s'=>r=.ok (.ret 037)/\OldK s₁.heap s'.heap/\s'.os=s₁.os/\AllBare s'.gens) s₁:=by
 have R:=PN hi;have l:=hi.length;have f:∀H:Hp,Only H->cA K H a 050->jG P w H s₁.heap->(∀b,H b≠aj->b=a)->(H a≠aj->K.lookup a=aj)->
   nQ (model P w) J1 (.call (.ref I) #[[.ref a],[]]) (λr s'=>r=.ok (.ret 037)/\OldK s₁.heap s'.heap/\s'.os=s₁.os/\AllBare s'.gens) s₁:=by
  intro H O X j Q Y;have t:∀{b:aH}{o:Obj},s₁.heap.get? b=aa o->H b=aj->(HQ _ H).get? b=aa o:=λe n=>ao7 e n
  have T:∀{b:aH}{o:Obj}{es:Array _}{ep:Nat},s₁.heap.get? b=aa o->o.data=.dict es ep->H b=aj:=λ{b o es ep} e d=>by
   cases q:H b with
   |none=>rfl
   |some u=>
    have L:=Q b (by rw[q];simp);subst L;rw[C] at e;cases e;have Z:=d;cases Z
  have D:∀{b:aH}{m:Str->Option aL},s₁.heap.Ns b m->(HQ _ H).Ns b m:=λ{b m} ⟨o,es,ep,e,d,r⟩=>#[o,es,ep,t e (T e d),d,r]
  have A:=λb o e=>t (N b o e) (by
   cases q:H b with
   |none=>rfl
   |some u=>
    have L:=Q b (by rw[q];simp);subst L;rw[Y (by rw[q];simp)] at e;cases e)
  have hM:Mod K mg _:=#[A,D p,#[mb,D c,M],let ⟨mc,h1,h2⟩:=y;#[mc,D h1,h2]]
  have e0:Su P w K mg _ J1 [] s₁ H:=#[rfl,hM,λb o e=>aqI e,Nat.le_of_eq (anT _ _),trivial,λb c=>absurd (show b∈([]) from c) cg,j,.of_eq hg]
  refine Og ((F _ A (D p)).run _ [] s₁ H _ [.ref a] [.ref a] _ _ hr e0 (g s₁ _) (.cons rfl .nil) (J H O X)) λr s' h=>?_
  cases r with
  |error e=>exact(E H e s' h).elim
  |ok fl=>
   cases fl with
   |next=>exact Pk h
   |brk=>exact Pk h
   |cont=>exact Pk h
   |ret u=>
    refine hide λGG G=>?_
    obtain⟨v,H',S,bare,un,i,r',q⟩:=h
    have W:=q;subst W;obtain rfl:u=oM aq:=r';refine G (#[rfl,OldK.of_keep λb o e=>?_,S,bare]);cases q:H b with
    |none=>exact un.keep b o e q (by intro z;exact absurd (show b∈[] from z) cg) cg
    |some u=>
     rcases O b with z|⟨ob,xs,z⟩
     .rw[q] at z;cases z
     .have U:=un.zB b ob _ z
      obtain⟨e1,_⟩:=j b _ z
      obtain⟨e2,_⟩:=i b _ U
      rw[e] at e1;cases e1;exact e2
 cases hk:K.lookup a with
 |some o=>
  have e:=N a o hk;rw[C] at e;refine hide λGG G=>?_
  cases e;refine G (f _ (λ_=>.inl rfl) (.inr #[_,_,_,hk,rfl,rfl,rfl,by rwa [u5,l],by simpa using R]) (λb u z=>by have B:=z;cases B) (λb z=>absurd rfl z) λz=>absurd rfl z)
 |none=>
  refine f (λb=>if b=a then aa _ else aj) (λb=>?_) (.inl (.inr #[{cls:=.type "list",data:=.seq vs.toArray},bZ rfl])) (λb u z=>?_) (λb z=>?_) λ_=>hk
  .by_cases c:b=a
   .exact .inr #[_,_,bZ c]
   .exact .inl (cC c)
  .by_cases c:b=a
   .have B:=(bZ c).symm.trans z;cases B;subst c
    exact#[C,by rwa [bR],vs,_,R,C]
   .have B:=(cC c).symm.trans z;cases B
  .by_cases c:b=a
   .exact c
   .exact absurd (cC c) z
theorem aqX{l:acE}{n k:Nat}{q:dY}{b:014}{d:DefRec}{K:Params->bw}{CX:cW->ym}{sp:cW->Sp}{x:Str}
  (B:l.most=aa n)(g:n<=cG)(j:d.params.defaults=[])(z:jZ k J1)
  (A:∀(w:cW)(h:cF),YP w h->(K w.params).In h)
  (F:∀(w:cW)(mg:Str->Option aL)(c:aH)(h:cF),(K w.params).In h->h.Ns jA mg->mg d.name=aa (.ref c)->
   ∃fd:um,(∀(s:bf)(u:aL),Gu s fd #[[u],[]] [(x,u)])/\
    ∀base:cF,(K w.params).In base->base.Ns jA mg->eV l.prog w (K w.params) mg base (CX w) k c fd [x] (sp w))
  (m:∀(w:cW)(H:Hp)(a:aH)(ns:028),ns.length<=n->Only H->cA (K w.params) H a 050->sp w [.ref a] H (λv _=>v=.bl aq) λ_ _ _=>False)
  (i:∀(w:cW)(H:Hp)(s:bf)(e:aL)(s':bf),CX w [] H s (λ_ _ _=>False) e s'->False):
  amb q b XP YP l.row.toRowW d [] (λf vs=>adY f vs):=by
 refine Att.amU B j λw s₀ s₁ mg mb c o pm cd doc a vs ns G Y ho hd hcd hmg hobj hints hlen hg=>?_
 have p:=A w _ Y
 obtain⟨fd,t,hF⟩:=F w mg c _ p G.T.g hmg
 exact apk p G.T.g G.T.b G.T.builtins G.T.nolimit hg hobj hints (jw hlen g) z hF t (λH r y=>m w H a ns hlen r y) λH e s'=>i w H _ e s'
def Gv(s:dH):Arguments:=match s with
 |.FunctionDef _ a _ _ _ _ _ _ _ _=>a
 |_=>{posonlyargs:=[],args:=[],vararg:=aj,kwonlyargs:=[],kw_defaults:=[],kwarg:=aj,defaults:=[]}
def yR(s:dH):List dH:=match s with
 |.FunctionDef _ _ b _ _ _ _ _ _ _=>b
 |_=>[]
def cN(s:dH):kI:=match s with
 |.FunctionDef _ _ _ _ _ _ sc _ _ _=>sc
 |_=>{kind:=.function,names:=[],isGenerator:=aR,isCoroutine:=aR}
abbrev eY:ym:=λ_ _ _ _ _ _=>False
abbrev E0:XK:=λ_ _ _=>False
theorem auX:Passes eY X E0:=λk k k k k k k h=>h.elim
structure fM(K:bw)(x qual:Str)(st:dH)(f:aH)(fd:um):Prop where
 ex:∃(oc:aL)(od:Option aH)(kV doc pm:aL)(an:Option aH)(cdv ct:aL)(osl:Array (Option aL)),
  fd=Cr x qual (Gv st) (yR st) (cN st) .none kV doc pm an cdv ct/\K.lookup f=aa #[oc,od,.func fd,osl]/\Vq K cdv qual=aq
 kp:EY K (.ref f)=aq
section
variable{P:dY}{w:cW}{K:bw}{mg:Str->Option aL}{base:cF}
theorem fM.ok{st:dH}{f:aH}{k:Nat}{sp:Sp}(F:fM K x qual st f fd)(S:gw N ps (cN st))(len:∀vs H Q E,sp vs H Q E->vs.length=ps.length)
  (b:∀(a:aL)(A:fB)(outer:List Env)(s:bf)(H:Hp)(vs:041)(Q:VK)(E:XK),jZ k (A.deeper (envOfC qual (cN st) s.heap.objs.size f a))->sp vs H Q E->
   ∃t,jQ (Bh eY P w K mg base N qual (cN st) f a A outer s H E).Ih (yR st) t/\t {nx:=λ_ H'=>Q .non H',rt:=Q} (start N vs) H):eV P w K mg base eY (k+1) f fd ps sp:=by
 refine hide λGG g=>?_
 obtain⟨p,m,kV,i,o,n,a,r,l,rfl,e,d⟩:=F.ex
 refine g (auR e d S len λA outer s H vs Q E j c=>?_)
 obtain⟨t,h,q⟩:=b _ A _ s H vs Q E j c
 exact#[t,h.Ih,q]
theorem fM.binds{st:dH}{f:aH}(F:fM K x qual st f fd)
  (h:∀(kV b d:aL)(c:Option aH)(a ct:aL)(us:042),us.length=ps.length->bindArgs (Cr x qual (Gv st) (yR st) (cN st) .none kV b d c a ct) #[us,[]]=pure (ps.zip us)):Binds K fd ps []:=by
 obtain⟨j,k,kV,b,d,c,a,ct,g,rfl,i,e⟩:=F.ex
 exact .all (h kV _ d c _ ct)
theorem ZC{x a:Str}{st:dH}{f:aH}{g:aL}{kV d e b ct:aL}(l:K.lookup f=aa #[g,od,.func (Cr x a (Gv st) (yR st) (cN st) .none kV d e an b ct),osl])
  (c:Vq K b a=aq)(k:EY K (.ref f)=aq):fM K x a st f (Cr x a (Gv st) (yR st) (cN st) .none kV d e an b ct):=#[#[g,od,kV,_,e,an,_,ct,_,rfl,l,c],k]
end
section
variable{X:Cx}
theorem pv(i:Nat){pos:Pos}(hN:X.N[i]?=aa x:=by rfl)(b:Ie X.env.scope x:=by first|exact uz rfl|exact Aq (uz rfl)|exact Aq (Aq rfl))(hd:017=aR:=by decide)
  (a:(x==("__classdict__":Str))=aR:=by decide):PE X (.Name x pos) (lA i):=Zo hN b hd a
end
theorem yc{A B:Prop}(h:B):if aR=aq then A else B:=‹_›
theorem ye{A B:Prop}(h:A):if aq=aq then A else B:=‹_›
def cI(H H':Hp):Prop:=∀b o,H b=aa o->H' b=aa o
theorem cI.refl(H:Hp):cI H H:=λk k h=>h
theorem cI.trans(a:cI H H1)(b:cI H1 H2):cI H H2:=λc o h=>b c o (a c o h)
theorem cI.seq{K:bw}{a:aH}(e:cI H H')(h:cA K H a xs):cA K H' a xs:=by
 rcases h with(h|⟨o,h⟩)|h
 .exact .inl (.inl (e _ _ h))
 .exact .inl (.inr #[o,e _ _ h])
 .exact .inr h
section
variable{X:Cx}
theorem an7:jh X (.builtin "len") (λxs H Q=>∃a au,xs=[V.ref a]/\uT H a au/\Q (.int au.length) H):=by
 intro aC s σ H xs us Q I r h
 obtain⟨a,au,rfl,b,q⟩:=h
 obtain⟨u,rfl,c⟩:=vals1 r
 cases c;exact auV I b λt s' d=>#[.int _,H,d,#[t,rfl],q]
end
section
variable{κ:Type}[DecidableEq κ]
end
def Cx.blk(X:Cx)(N:014)(scope:kI)(cl:List (Str×aH))(C:aH)(s:bf)(H:Hp)(fp:040):Cx:=
 {X with N:=N,s₀:=s,H₀:=H,env:=XD scope cl C X.env,outer:=X.stack,ex:=fp,fn:=λx=>scope.names.lookup x==aa .cell,pn:=[],xe:=λ_ _=>False}
theorem Wh(f:Str×CP->List (Str×aH)->Sem (ForInStep (List (Str×aH))))
  (o:∀n k r,f (n,k) r=if k==Ji then(do let c <-cellOf ao n;pure (.yield ((n,c)::r))) else pure (.yield r)):
  ∀(names:List (Str×CP))(cs:List (Str×aH)),(∀y∈names,y.2=.free->∃c,ao.cells.lookup y.1=aa c)->(∀n c,cs.lookup n=aa c->ao.cells.lookup n=aa c)->
   ∃cl,(forIn names cs f:Sem (List (Str×aH)))=pure cl/\(∀n c,cl.lookup n=aa c->ao.cells.lookup n=aa c)/\
    ∀n,((∃c,cs.lookup n=aa c)\/∃y∈names,y.1=n/\y.2=.free)->∃c,cl.lookup n=aa c
 |[],cs,_,h2=>#[cs,rfl,h2,λn h=>h.elim id λ⟨_,g,_⟩=>nomatch g]
 |(n,k)::r,cs,h1,h2=>by
  rw[Np,o];by_cases p:k=.free
  .subst p
   obtain⟨c,s⟩:=h1 _ fV rfl
   have i:=s;have e:cellOf ao n=pure c:=by unfold cellOf;rw[i]
   obtain⟨cl,q,j,l⟩:=Wh f o r _ (λy g=>h1 y (fU _ g)) (λm d a=>by
    rw[U8] at a;by_cases b:(m==n)=aq
    .rw[b] at a;have:=eq_of_beq b;subst this;cases a;exact i
    .rw[U9] at b;rw[b] at a;exact h2 m d a)
   refine#[cl,?_,j,λm a=>l m ?_]
   .rwa [e]
   grind
  .have b:=beq_eq_false_iff_ne.mpr p
   obtain⟨cl,q,j,l⟩:=Wh f o r cs (λy g=>h1 y (fU _ g)) h2
   refine#[cl,?_,j,λm a=>l m ?_]
   .rwa [b]
   simp_all
theorem Pr(h1:∀y∈scope.names,y.2=.free->∃c,ao.cells.lookup y.1=aa c):
  ∃cl,closureFor scope ao=pure cl/\(∀n c,cl.lookup n=aa c->ao.cells.lookup n=aa c)/\∀y∈scope.names,y.2=.free->∃c,cl.lookup y.1=aa c:=by
 obtain⟨cl,a,b,f⟩:=Wh (λx r=>if(x.2==Ji)=aq then(do let c <-cellOf _ x.1;pure (.yield ((x.1,c)::r))) else pure (.yield r)) (λn k r=>rfl) _ [] h1 (λn c h=>by trivial)
 have q:=congrArg (λt=>t >>= λcs=>pure cs) a
 exact#[cl,q,b,λy d e=>f _ (.inr #[y,d,rfl,e])]
theorem V0{scope:kI}{ao:Env}{x:Str}:∀{names:List (Str×CP)},
  (names.map λ(n,k)=>if(k==Ji&&ao.scope.kind==.function&&ao.kindOf n==aa .cell) then(n,vd) else(n,k)).lookup x=
   (names.lookup x).map λk=>if(k==Ji&&ao.scope.kind==.function&&ao.kindOf x==aa .cell) then vd else k
 |[]=>rfl
 |(n,k)::r=>by
  have a:=@V0 scope ao x r
  rw[dN];dsimp only;rw[show∀(c:Bool),(if c then(n,vd) else(n,k))=(n,if c then vd else k) from λc=>by cases c<;>rfl,List.lookup_cons,List.lookup_cons,a]
  by_cases e:x=n
  .subst e;rw[beq_self_eq_true];rfl
  .rw[beq_false_of_ne e]
def frees(js:051)(σ:St):St:=js.map λj=>(σ[j]?).join
section
variable{X:Cx}{σ:St}{H:Hp}{s s1:bf}{js:List Nat}{scope:kI}{fp:List aH}
structure oX(X:Cx)(NT NF:List Str)(js:List Nat)(scope:kI):Prop where
 kind:scope.kind=.function
 names:∀y∈scope.names,y.2=.local->scope.names.lookup y.1=aa .local
 cell:∀y∈scope.names,y.2=.cell->scope.names.lookup y.1=aa .cell
 free:∀y∈scope.names,y.2=.free->X.env.scope.names.lookup y.1=aa .cell\/X.env.scope.names.lookup y.1=aa .free
 len:js.length=NF.length
 fr:∀(k:Nat)(j:Nat)(x:Str),js[k]?=aa j->NF[k]?=aa x->X.N[j]?=aa x/\scope.names.lookup x=aa .free
 tg:∀x∈NT,scope.names.lookup x=aa .local\/scope.names.lookup x=aa .cell
 nd:(NT++NF).Nodup
structure Kh(X:Cx)(scope:kI)(h h₁:cF)(cl:List (Str×aH)):Prop where
 old:∀n c,cl.lookup n=aa c->X.env.cells.lookup n=aa c\/h.objs.size<c
 fre:∀n c,scope.names.lookup n=aa .free->cl.lookup n=aa c->X.env.cells.lookup n=aa c
 own:∀n c,scope.names.lookup n=aa .cell->cl.lookup n=aa c->h.objs.size<c
 has:∀n,scope.names.lookup n=aa .free\/scope.names.lookup n=aa .cell->∃c,cl.lookup n=aa c
 inj:∀x y c,cl.lookup x=aa c->cl.lookup y=aa c->x=y
 isc:∀n c,cl.lookup n=aa c->∃v,h₁.IsCell c v
theorem aan:∀(names:List (Str×CP))(h:cF)(bu:List (Str×aH)),(∀x c,bu.lookup x=aa c->c<h.objs.size/\∃v,h.IsCell c v)->(∀x y c,bu.lookup x=aa c->bu.lookup y=aa c->x=y)->
  (∀x y c,(uf h.objs.size names bu).lookup x=aa c->(uf h.objs.size names bu).lookup y=aa c->x=y)/\
  (∀x c,(uf h.objs.size names bu).lookup x=aa c->(bu.lookup x=aa c/\(x,vd)∉names)\/(h.objs.size<=c/\(x,vd)∈names))/\
  (∀x c,(uf h.objs.size names bu).lookup x=aa c->∃v,(Gf h names).IsCell c v)/\
  (∀x,(∃c,bu.lookup x=aa c)\/(x,vd)∈names->∃c,(uf h.objs.size names bu).lookup x=aa c)/\
  ∀b o,h.get? b=aa o->(Gf h names).get? b=aa o
 |[],h,bu,h1,h2=>#[h2,λx c e=>.inl #[e,λm=>nomatch m],λx c e=>(h1 x c e).2,λx e=>e.elim id (λm=>(nomatch m)),λ_ _ e=>e]
 |(n,k)::r,h,bu,h1,h2=>by
  by_cases i:k=.cell
  .subst i;have sz:(h.push {cls:=.type "cell",data:=.cell aj}).objs.size=h.objs.size+1:=yH ..;have up:∀b o,h.get? b=aa o->(h.push {cls:=.type "cell",data:=.cell aj}).get? b=aa o:=λb o e=>dF _ e
   have f:∀x c,List.lookup x ((n,h.objs.size)::bu)=aa c->(x=n/\c=h.objs.size)\/(x≠n/\bu.lookup x=aa c):=λx c e=>by
    rw[U8] at e;by_cases a:(x==n)=aq
    .rw[a] at e;cases e;exact .inl #[eq_of_beq a,rfl]
    .have p:=a;rw[U9] at a;rw[a] at e;exact .inr #[λz=>p (beq_iff_eq.mpr z),e]
   obtain⟨a1,d,g,a4,j⟩:=aan r _ _ (λx c e=>by
    rw[sz];rcases f x c e with⟨_,rfl⟩|⟨_,e⟩
    .exact#[Nm _,aj,_,ji _ rfl,rfl]
    .obtain⟨u,v,o,t,A⟩:=h1 x c e
     exact⟨yC u,v,o,up _ _ t,A⟩) (λx y c e1 e2=>by
    rcases f x c e1 with⟨p1,p2⟩|⟨_,p2⟩<;>rcases f y _ e2 with⟨r1,r2⟩|⟨_,r2⟩
    .rw[p1,r1]
    .exact absurd (h1 y _ r2).1 (by rw[p2];exact u9 _)
    .exact absurd (h1 x _ p2).1 (by rw[r2];exact u9 _)
    .exact h2 x y _ p2 r2)
   rw[sz] at a1 d g a4;refine#[a1,λx c e=>?_,g,λx e=>a4 x ?_,λb o e=>j b o (up b o e)]
   .rcases d x c e with⟨q,m⟩|⟨q,m⟩
    .rcases f x c q with⟨rfl,rfl⟩|⟨ne,q⟩
     .exact .inr #[cH _,fV]
     .exact .inl ⟨q,λw=>by
       rcases cB.mp w with z|z
       .cases z;exact ne rfl
       .exact m z⟩
    .exact .inr #[Nat.le_of_succ_le q,fU _ m]
   .by_cases a:x=n
    .subst a;exact .inl #[h.objs.size,by simp]
    .rcases e with⟨c,e⟩|m
     .exact .inl #[c,by rwa [U8,beq_eq_false_iff_ne.mpr a]]
     .rcases cB.mp m with z|z
      .cases z;exact absurd rfl a
      .exact .inr z
  .have a:=beq_eq_false_iff_ne.mpr i;have l:uf h.objs.size ((n,k)::r) bu=uf h.objs.size r bu:=by show(if(k==vd)=aq then _ else _)=_;rw[a];rfl
   have ep:Gf h ((n,k)::r)=Gf h r:=by show(if(k==vd)=aq then _ else _)=_;rw[a];rfl
   obtain⟨a1,d,g,a4,j⟩:=aan r h bu h1 h2
   rw[l,ep];have s:∀x,(x,vd)∈(n,k)::r↔(x,vd)∈r:=λx=>by
    rw[cB]
    exact#[λz=>z.elim (λz=>by cases z;exact absurd rfl i) id,.inr]
   exact#[a1,λx c e=>by rw[s];exact d x c e,g,λx e=>a4 x (by rwa[s] at e),j]
theorem nfe(I:03)(B:031)(a:∀n c,cl.lookup n=aa c->X.env.cells.lookup n=aa c)(t:∀y∈scope.names,y.2=.free->∃c,cl.lookup y.1=aa c)
  (r:∀uU h₁,Kh X scope s.heap h₁ uU->h₁.Ns s.heap.objs.size (λ_=>aj)->(∀b o,s.heap.get? b=aa o->h₁.get? b=aa o)->Q (newEnv scope s.heap.objs.size X.env.globals uU X.env.qual aj .none (aa X.env) builtinsNs) {s with heap:=h₁}):
  bH 02 X.A (Ny scope X.env.globals cl [] X.env.qual aj .none (aa X.env)) Q E s:=by
 have sz:(s.heap.push {cls:=.type "dict",data:=.dict #v[]}).objs.size=s.heap.objs.size+1:=yH ..;have up:∀b o,s.heap.get? b=aa o->(s.heap.push {cls:=.type "dict",data:=.dict #v[]}).get? b=aa o:=λb o e=>dF _ e
 obtain⟨a1,q,p,a4,k⟩:=aan _ _ cl (λx c e=>by
  obtain⟨v,o,e1,e2⟩:=I.cell x c (a x c e)
  exact⟨by rw[sz];exact yC (dj e1),v,o,up _ _ e1,e2⟩) (λx y c e1 e2=>I.ok.inj x y c (a x c e1) (a y c e2))
 rw[sz] at a1 q p a4;have g:∀x,scope.names.lookup x=aa _↔(x,vd)∈scope.names:=λx=>#[λe=>BL e,λm=>B.cell _ m rfl]
 have u:Kh X scope s.heap (Gf (s.heap.push {cls:=.type "dict",data:=.dict #v[]}) scope.names) (uf (s.heap.objs.size+1) scope.names cl):=by
  refine#[λn c e=>?_,λn c j e=>?_,λn c l e=>?_,λn w=>?_,a1,p]
  .exact c8
  .exact c8
  .exact c8
  .rcases w with j|l
   .exact a4 n (.inl (t _ (BL j) rfl))
   .exact a4 n (.inr ((g n).mp l))
 have d:=r _ _ u ((Heap.Ns.new (h:=s.heap) _).keeps k) λb o e=>k b o (up b o e)
 simp only[Ny,Ep,if_true];refine aQ (wpAny_alloc (aQ (wpAny_layCells _ (λname i f=>rfl) _ _ _ _ ?_)));rw[sz];exact aQ (bM (bM d))
theorem Inv.blk(I:03)(B:031)(f:Kh X scope s.heap s1.heap cl)
  (E:∀b∈fp,mC X aC H b)(y:∀b∈fp,b<s.heap.objs.size)(G:s1.heap.Ns s.heap.objs.size m)(keep:∀b o,s.heap.get? b=aa o->s1.heap.get? b=aa o)
  (J:s1.os=s.os)(hg:AllBare s1.gens):
  Inv (X.blk (NT++NF) scope cl s.heap.objs.size s H fp) [] (fX NT.length aj++frees js σ) H s1:=by
 have look:∀x,(X.blk (NT++NF) scope cl s.heap.objs.size s H fp).env.kindOf x=(scope.names.lookup x).map _:=λx=>V0 (scope:=scope)
 have L:∀x,((X.blk (NT++NF) scope cl _ s H fp).env.kindOf x=aa .cell\/(X.blk (NT++NF) scope cl _ s H fp).env.kindOf x=aa .free)->scope.names.lookup x=aa .free\/scope.names.lookup x=aa .cell:=λx h=>by
  rw[look] at h;cases e:scope.names.lookup x with
  |none=>rw[e] at h;simp_all
  |some k=>
   rw[e] at h;by_cases n:k=.free
   .rw[n];exact .inl rfl
   .have d:=beq_eq_false_iff_ne.mpr n;simp only[mU,d,if_false,aci] at h;rcases h with h|h
    .subst h;exact .inr rfl
    .exact absurd h n
 refine⟨⟨I.ok.mod,B.kind,I.ok.glob,I.ok.blt,cH _,f.inj,λx O=>?_,λx c h e=>wY (f.own x c (eq_of_beq h) e),I.ok.hd,I.ok.frames,.inl rfl,λb d=>⟨fH (y b d),λx c e=>(f.old x c e).elim (λz=>(E b d).2.2.2.2.1 x c z) λz=>yJ (Cu (y b d) z)⟩,I.bs,jw I.ok.Bq I.sz,λb o e d=>?_,λb d F=>?_,I.stack,I.af8⟩,
  J,hg,Un.kept keep,⟨m,G,λi x v h1 h2 Y=>?_⟩,λx c e=>?_,I.hok.fresh (cH _),λx c e=>(f.old x c e).elim (I.vK x c) λz=>I.hok.fresh (wY z),λp S=>(nomatch(S)),I.hok.kept keep,?_⟩
 .exact f.has x (L x O)
 .rcases(E b d).2.2.2.1 with z|z
  .exact I.ok.Lf b o e z
  .exact absurd (qz (dj e) (jw I.ok.Bq z)) (u9 _)
 .obtain⟨_,Q,U,_⟩:=E b d
  rcases cB.mp (I.G3 b F) with z|z
  .exact Q z
  .exact U z
 .have g:(NT++NF)[i]?=aa x:=h1;by_cases hi:i<NT.length
  .rw[uZ (by simpa using hi),aki] at h2;split at h2<;>cases h2
  .have t:NT.length<=i:=c4;rw[uY (by simpa using t)] at h2;rw[uY t] at g;simp only[Uy] at h2;unfold frees at h2;rw[jN] at h2;cases ej:js[i-NT.length]? with
   |none=>rw[ej] at h2;cases h2
   |some j=>
    rw[ej] at h2;have a:=by simpa using h2
    refine hide λGG D=>?_
    obtain⟨R,C⟩:=B.fr _ j x ej g
    have P:σ[j]?=aa (aa v):=by
     cases e:σ[j]? with
     |none=>rw[e] at a;cases a
     |some o=>rw[e] at a;simp at a;rw[a]
    have n:=B.free _ (BL C) rfl;have A:=n
    obtain⟨Z,N,K⟩:=I.loc
    obtain⟨u,r,l⟩:=K j x v R P (.inr A)
    refine D (#[u,r,.inr #[?_,?_]])
    .rw[look,C];by_cases M:(Ji==Ji&&X.env.scope.kind==.function&&X.env.kindOf x==aa .cell)=aq
     .left;simp only[mU,M,if_true]
     .right;simp only[mU,M];rfl
    .refine hide λGG D=>?_;rcases l with⟨k0,_⟩|⟨_,c,e,z⟩
     .have q:X.env.scope.names.lookup x=aa .local:=k0;rcases A with z|z<;>rw[z] at q<;>cases q
     .obtain⟨W,w⟩:=f.has x (.inl C)
      have e2:=f.fre x W C w;rw[e] at e2;cases e2
      obtain⟨o,V,T⟩:=z
      exact D (#[c,w,o,keep c o V,T])
 .exact f.isc x c e
 .show(fX NT.length aj++frees js σ).length=(NT++NF).length
  unfold frees;simp[B.len]
theorem oX.loc(B:031)(a:x∈NT):Loc (X.blk (NT++NF) scope cl C s H fp).env.scope x/\((X.blk (NT++NF) scope cl C s H fp).fn x=aq\/(X.blk (NT++NF) scope cl C s H fp).env.scope.names.lookup x=aa .local):=by
 rcases B.tg x a with h|h
 .exact#[.inl (akJ h),.inr (akJ h)]
 .refine#[.inr ?_,.inl (beq_iff_eq.mpr h)]
  show(scope.names.map _).lookup x=_
  rw[V0 (scope:=scope),h];rfl
theorem Kh.ne(d:Kh X scope s.heap h₁ cl)(f:mC X aC H b)(a:b<s.heap.objs.size)(e:cl.lookup x=aa c):c≠b:=(d.old x c e).elim (λz=>f.2.2.2.2.1 x c z) λz=>yJ (Cu a z)
theorem Inv.aao(I:03)(c:∀b∈fp,mC X aC H b)(J:Inv (X.blk N scope cl s.heap.objs.size s H fp) aaf F' H' s'):Inv X aC σ H' s':=
 I.call' J.os J.base J.hok J.bare λb a=>#[(c b a).2.2.2.1,(c b a).2.1,(c b a).2.2.2.2.1,(c b a).2.2.2.2.2]
end
theorem aqY(a:List α)(x y:α)(b:List α)(h:a.length=n):(a++x::b).set n y=a++y::b:=by simp_all
inductive kW where
 |one|many (n:Nat)
def Ij(K:bw):kW->V->Hp->List V->Prop
 |.one,x,_,vs=>vs=[x]
 |.many n,x,H,vs=>∃a,x=.ref a/\dW K H a vs/\vs.length=n
def isNm(e:Expr)(x:Str):Prop:=∃pos,e=.Name x pos
def qZ(tg:Expr)(NT:014):kW->Prop
 |.one=>∃x,isNm tg x/\NT=[x]
 |.many n=>∃es k pos,tg=.Tuple es k pos/\Paired isNm es NT/\NT.length=n
theorem adZ:∀{es:057}{NT:014},Paired isNm es NT->xj es ao=es.map λe=>(aR,assign e ao)
 |_,_,.nil=>rfl
 |_,_,.cons ⟨_,e⟩ t=>by
  subst e
  show(aR,assign _ _)::xj _ _=_
  rw[adZ t];rfl
theorem an8(p:Paired isNm es NT):∀{pre NF:014}{σp fs:St}{s:bf}{vs:041}{us:042}{Q:Unit->bf->Prop},
  X.N=pre++NT++NF->X.N.Nodup->(∀x∈NT,Loc X.env.scope x/\(X.fn x=aq\/X.env.scope.names.lookup x=aa .local))->σp.length=pre.length->vs.length=NT.length->
  Inv X aC (σp++(fX NT.length aj++fs)) H s->Vals vs us->(∀s',Inv X aC (σp++(vs.map aa++fs)) H s'->Q () s')->
  bH 02 X.A (assignInOrder (es.map λe=>assign e X.env) us) Q E s:=by
 induction p with
 |nil=>
  intro pre NF σp fs s vs us Q hN a hl c b I r q;cases vs with
  |cons _ _=>trivial
  |nil=>
   exact assignInOrder_nil (q s I)
 |@cons e x es NT he t ih=>
  intro pre NF σp fs s vs us Q hN a hl c b I r q;refine hide λGG g=>?_
  cases vs with
  |nil=>trivial
  |cons v vs=>
   cases r with
   |cons r rr=>
    obtain⟨pos,rfl⟩:=he
    have d:=hl x fV;have hi:X.N[pre.length]?=aa x:=c8
    refine g (assignInOrder_cons (Ng (xr I a hi d.1 r (λs' f=>?_) d.2)));have e1:(σp++(fX (x::NT).length _++fs)).set _ _=(σp++[aa v])++(fX _ aj++fs):=(aqY σp _ _ _ c).trans (List.append_cons σp _ _);rw[e1] at f;refine ih (pre:=pre++[x]) (NF:=NF) 07 a (λy h=>hl y (fU _ h)) (by simp[c]) 07 f rr λi j=>q i ?_
    simp_all
theorem atk(j:qZ tg NT T)(hN:X.N=NT++NF)(f:049)(t:035)
  (hl:∀x∈NT,Loc X.env.scope x/\(X.fn x=aq\/X.env.scope.names.lookup x=aa .local))(I:Inv X aC (fX NT.length aj++fs) H s)(r:RelV v u)(g:Ij X.K T v H vs)
  (q:∀s',Inv X aC (vs.map aa++fs) H s'->Q () s'):bH 02 X.A (assign tg X.env u) Q E s:=by
 refine hide λGG h=>?_
 cases T with
 |one=>
  obtain⟨x,⟨pos,rfl⟩,rfl⟩:=j
  have d:=g;subst d;have c:=hl x fV;exact h (Ng (xr I f (i:=0) 07 c.1 r (λs' A=>q s' A) c.2))
 |many n=>
  obtain⟨es,k,pos,rfl,p,D⟩:=j
  obtain⟨a,rfl,y,l⟩:=g
  cases r
  obtain⟨C,z,ht,B⟩:=I.tuple y
  have e:=adZ (ao:=X.env) p;have m:=p.length;refine h (assign_Tuple_tuple (I.ok.hd t) ht (by rw[e];simp;rw[<-z.length];lia) 07 λh' c=>?_);have w:=I.kept (t':=s.toks) λb o e=>c b o (fH (dj e)) e
  rw[e,dJ];exact an8 p (pre:=[]) (σp:=[]) (by rw[hN];rfl) f hl rfl c3 w 07 q
def turnOf(target iter:Expr)(ifs:057)(it:aL)(ao:Env)(emit:Sem Unit)(more:Sem PySem.Fin):Sem PySem.Fin:=do
 xx iter.pos
 match <-ux it with
 |none=>pure (.done .next)
 |some v=>
  Ew target it v
  assign target ao v
  let mut ok:=aq
  for c in ifs do
   if ok then ok <-isTrue c ao (eval c ao)
  if ok then emit
  more
theorem ang(elt target iter:Expr)(ifs:057)(scope:kI)(pos:Pos)(it bu:aL)(ao:Env):
  JC (.ListComp elt [#[target,iter,ifs,0]] scope pos) 0 it bu ao=turnOf target iter ifs it ao (do let _ <-call (.builtin "list.append") [bu,<-eval elt ao]) (again (.compLoop (.ListComp elt [#[target,iter,ifs,0]] scope pos) 0 it bu ao)):=rfl
theorem anh(b a target iter:Expr)(ifs:057)(scope:kI)(pos:Pos)(it:aL)(D:aH)(ao:Env):
  JC (.DictComp b a [⟨target,iter,ifs,0⟩] scope pos) 0 it (.ref D) ao=turnOf target iter ifs it ao (do
      let kv <-eval b ao
      let vv <-rR [kv] (eval a ao)
      xx {b.pos with endLine:=a.pos.endLine,endCol:=a.pos.endCol}
      rR [kv,vv] (dictSet D kv vv)) (again (.compLoop (.DictComp b a [⟨target,iter,ifs,0⟩] scope pos) 0 it (.ref D) ao)):=rfl
theorem an9(elt target iter:Expr)(ifs:057)(scope:kI)(pos:Pos)(it bu:aL)(ao:Env):
  JC (.SetComp elt [#[target,iter,ifs,0]] scope pos) 0 it bu ao=turnOf target iter ifs it ao (do let v <-eval elt ao;xx elt.pos;let _ <-call (.builtin "set.add") [bu,v]) (again (.compLoop (.SetComp elt [#[target,iter,ifs,0]] scope pos) 0 it bu ao)):=rfl
def pX(X:Cx)(ifs:057)(t:TT):Prop:=
 ∀(aC:007)(s:bf)(σ:St)(H:Hp)(Q:Bool->Hp->Prop),Inv X aC σ H s->t σ H Q->
  bH 02 X.A (forIn ifs aq λc r=>if r=aq then do let ok <-isTrue c X.env (eval c X.env);pure (alS ok) else pure (alS r)) (TP X aC σ Q) X.xe s
def av2:TT:=λ_ H Q=>Q aq H
theorem aqZ:pX X [] av2:=λk k k H k I h=>wpAny_tests_nil #[H,I,h]
theorem ago(h:PT X c t):pX X [c] t:=λaC s σ H Q I q=>wpAny_tests_one (h _ s σ H Q I q)
abbrev TM:=St->Hp->(Hp->Prop)->Prop
def PM(X:Cx)(emit:Sem Unit)(t:TM):Prop:=
 ∀(aC:007)(s:bf)(σ:St)(H:Hp)(Q:Hp->Prop),Inv X aC σ H s->t σ H Q->
  bH 02 X.A emit (λ_ s'=>∃H',Inv X aC σ H' s'/\Q H') X.xe s
def YB(D:aH)(te:TE):TM:=λσ H Q=>te σ H λy H1=>∃xs,H1 D=aa (.lst xs)/\xs.length<cG/\Q (upd H1 D (.lst (xs++[y])))
theorem aoa(he:PE X elt te):PM X (do let _ <-call (.builtin "list.append") [.ref D,<-eval elt X.env]) (YB D te):=by
 intro aC s σ H Q I h;refine aQ (cz (he _ s σ H _ I h) λv s1 e=>hide λGG d=>?_)
 obtain⟨y,H1,g,f,xs,b,c,q⟩:=e
 refine d (aQ (cz (W8 _ s1 σ H1 (.ref D) _ _ _ _ g rfl (.cons f .nil) #[D,xs,y,rfl,rfl,b,c,q]) λk j ⟨_,H2,i,_,a⟩=>bM #[H2,i,a]))
def Bj(K:bw)(T:kW)(ts:TT)(em:TM)(fs:St)(J:It)(H0:Hp)(done:Hp->Prop):Prop:=
 ∃W:Nat->Nat->Hp->Prop,(∃m,W 0 m H0)/\∀i m H,W i m H->
  (J.stop i H/\done H)\/(J.go i H/\∀x H',J.Mi i H x H'->∃vs,Ij K T x H' vs/\
   ts (vs.map aa++fs) H' λb H2=>if b=aq then em (vs.map aa++fs) H2 λH3=>∃m',m'<m/\W (i+1) m' H3 else ∃m',m'<m/\W (i+1) m' H2)
section
variable{X:Cx}{NT NF:List Str}{ifs:List Expr}{T:kW}{ts:TT}{em:TM}{emit:Sem Unit}{bu:aL}{fp:List aH}{it:aH}{J:It}
theorem apl{fs:St}{vs:041}{H:Hp}(a:vs.length=NT.length)(I:Inv X aC (vs.map aa++fs) H s):Inv X aC (fX NT.length aj++fs) H s:=
 I.weak 07 λi v h=>by grind
theorem Ij.len{K:bw}{x:V}{H:Hp}(a:qZ tg NT T)(h:Ij K T x H vs):vs.length=NT.length:=by
 cases T with
 |one=>obtain⟨y,_,rfl⟩:=a;rw[h];rfl
 |many n=>obtain⟨_,_,_,_,_,e⟩:=a;obtain⟨_,_,_,b⟩:=h;lia
theorem XF(hx:X.xe=λ_ _=>False)(hT:JC e 0 047 bu X.env=turnOf tg iter ifs 047 X.env emit (again (.compLoop e 0 047 bu X.env)))
  (hq:(Jj e 0 047 bu X.env).isFrame=aR)(F:(Jj e 0 047 bu X.env).quiet=aq)(hA:X.A.under (Jj e 0 047 bu X.env)=X.A)
  (S:qZ tg NT T)(hN:X.N=NT++NF)(Y:049)(K:035)(hl:∀x∈NT,Loc X.env.scope x/\(X.fn x=aq\/X.env.scope.names.lookup x=aa .local))
  (C:pX X ifs ts)(A:PM X emit em)(TT:Turn X.prog X.w X.K tg J fp it tn)(M:∀b∈fp,mC X [] H b)(I:Inv X [] (fX NT.length aj++fs) H s)(st:tn 0 s.heap)(c:Bj X.K T ts em fs J H done)
  (hR:∀H' s' F',Inv X [] F' H' s'->done H'->R (.ok .next) s'):
  nQ 02 X.A (.compLoop e 0 047 bu X.env) R s:=by
 obtain⟨W,⟨m0,w0⟩,turn⟩:=c
 have a:∀{H':Hp},(∀b∈fp,H' b=aj)->∀b∈fp,mC X [] H' b:=λhn b c=>#[hn b c,(M b c).2]
 have q:∀{α:Type}{t:Sem α}{Q:α->bf->Prop}{E:015}{s:bf},bH _ X.A t Q (λ_ _=>False) s->bH 02 X.A t Q E s:=λh=>vq h (λ_ _ z=>z) λ_ _ z=>z.elim
 have p:∀{α:Type}{t:Sem α}{Q:α->bf->Prop}{E:015}{s:bf},bH 02 X.A t Q X.xe s->bH _ X.A t Q E s:=λh=>q (by rwa [hx] at h)
 refine codeAny_loop F (λn s'=>∃i H',Inv X [] _ H' s'/\tn i s'.heap/\(∀b∈fp,H' b=aj)/\W i n H') ?_ m0 #[0,H,I,st,λb c=>(M b c).1,w0];rintro n s3 ⟨i,H3,I3,st3,Mj,w3⟩;rw[hA];show bH _ X.A (if(Jj e 0 047 bu X.env).isFrame=aq then(JC e 0 047 bu X.env).onRaise _ else(JC e 0 047 bu X.env).onRaise _) _ _ s3;rw[hq];refine wpAny_noted (q ?_);rw[hT];unfold turnOf;refine aQ (Ab (aQ (hide λGG v=>?_)));rcases turn i n H3 w3 with⟨stop,qn⟩|⟨go,step⟩
 .refine v (cz (TT.done X rfl rfl rfl K i [] s3 _ H3 _ I3 (a Mj) st3 stop) λr N f=>?_)
  obtain⟨L,I4⟩:=f
  subst L;exact bM (hR H3 N _ I4 qn)
 .refine v (cz (TT.item X rfl rfl rfl K i [] s3 _ H3 _ I3 (a Mj) st3 go) λr N f=>?_)
  obtain⟨u,L,h4⟩:=f
  subst L;refine aQ (cz h4 λ_ s5 f=>(hide λGG v=>?_))
  obtain⟨x,P,I5,r5,y5,B,D⟩:=f
  have y:=I5.pinned (a D) (TT.obj _ _ B)
  obtain⟨vs,O,q5⟩:=step x P y5
  have G:=Ij.len S O;refine v (aQ (atk S hN Y K hl y r5 O λZ I6=>(aQ (p (cz (C _ Z _ P _ I6 q5) λb s7 f=>?_)))))
  obtain⟨H7,U,V⟩:=f
  have j:∀{g:bf}{l:Hp},Inv X _ (vs.map aa++fs) l g->(∃w,w<n/\W (i+1) w l)->
    (Jj e 0 047 bu X.env=Jj e 0 047 bu X.env)/\∃m,m<n/\∃i H',Inv X [] _ H' g/\tn i g.heap/\(∀b∈fp,H' b=aj)/\W i m H':=λ{g l} k n8=>by
   obtain⟨w,hm,w8⟩:=n8
   refine#[rfl,w,hm,i+1,l,apl G k.Qo,TT.keep _ _ _ B λb c o e=>(k.pin (b,o) (jH _ (jH _ (Pq c e)))).1,λb c=>?_,w8]
   obtain⟨o,e,d⟩:=TT.obj _ _ B b c
   exact(k.pin (b,o) (jH _ (jH _ (Pq c e)))).2.1
  cases b with
  |false=>exact bM (j U V)
  |true=>exact aQ (p (cz (A _ s7 _ H7 _ U V) λ_ g ⟨l,k,q8⟩=>bM (j k q8)))
end
structure Bk where
 cl:List (Str×aH)
 C:aH
 s:bf
 H:Hp
 fp:List aH
abbrev Cx.bk(X:Cx)(N:List Str)(scope:kI)(b:Bk):Cx:=X.blk N scope b.cl b.C b.s b.H b.fp
section
variable{X:Cx}{js:List Nat}{ifs:List Expr}{T:kW}{wi:TI}{ts:Bk->TT}{te tk' tv:Bk->TE}{scope:kI}{pos:Pos}
def Tz(K:bw)(wi:TI)(T:kW)(ts:Bk->TT)(te:Bk->TE)(js:051):TE:=λσ H Q=>wi σ H λJ H1=>∀D,H1 D=aj->∀b,Bj K T (ts b) (YB D (te b)) (frees js σ) J (upd H1 D (.lst [])) (Q (.ref D))
theorem ahz{σ:St}{a:bf}{H2:Hp}{cl:List (Str×aH)}{it:aH}{fp:040}{tn:Nat->cF->Prop}{J:It}{Q:Hp->Prop}{RR:aL->aH->Dk->bf->Prop}{E:015}
  (B:031)(I:qZ tg NT T)(M:035)
  (hin:∀b,pX (X.bk (NT++NF) scope b) ifs (ts b)/\PE (X.bk (NT++NF) scope b) elt (te b))
  (A:∀n c,cl.lookup n=aa c->X.env.cells.lookup n=aa c)(F:∀y∈scope.names,y.2=.free->∃c,cl.lookup y.1=aa c)
  (w:Inv X aC σ H2 a)(TT:Turn X.prog X.w X.K tg J fp it tn)(j:tn 0 a.heap)(v:∀b∈fp,mC X aC H2 b)
  (q:∀b,Bj X.K T (ts b) (YB a.heap.objs.size (te b)) (frees js σ) J (upd H2 a.heap.objs.size (.lst [])) Q)
  (K:∀C H' s' m,Inv X aC σ H' s'->mC X aC H' C->s'.heap.Ns C m->Q H'->RR (.ref a.heap.objs.size) C (.ok .next) s'):
  bH (model X.prog X.w) X.A (newList []) (λbu s₃=>bH (model X.prog X.w) X.A (Ny scope X.env.globals cl [] X.env.qual aj .none (aa X.env)) (λcenv s4=>
   nQ (model X.prog X.w) X.A (.compStart (.ListComp elt [⟨tg,iter,ifs,0⟩] scope pos) 0 (.ref it) bu {cenv with scope:=relabel scope X.env}) (RR bu cenv.locals) s4) E s₃) E a:=by
 refine qD ?_;have i:Inv X aC σ (upd H2 a.heap.objs.size (.lst [])) _:=
  w.laid (t':=a.toks) (λb o e=>dF _ e) 046 #[lO _,[],0,.nil,ji _ rfl]
 have r:(a.heap.push {cls:=.type "list",dict:=aj,data:=.seq ([]:List aL).toArray}).objs.size=a.heap.objs.size+1:=yH ..;refine nfe i B A F λuU h₁ cb hns1 keep=>?_
 have u:∀b∈fp,b<a.heap.objs.size:=λb d=>by
  obtain⟨o,e,_⟩:=TT.obj 0 _ j b d
  exact dj e
 have g:∀b∈fp,mC X aC (upd H2 a.heap.objs.size (.lst [])) b:=λb d=>#[by rw[di (fH (u b d))];exact(v b d).1,(v b d).2]
 have l:∀b∈fp,b<(a.heap.push _).objs.size:=λb d=>by have:=u b d;rw[r];exact yC this
 have D:=i.blk (s1:={a with heap:=h₁}) B cb g l hns1 keep rfl w.bare;have t:tn 0 h₁:=TT.keep 0 _ _ j λb _ o e=>keep b o (dF _ e)
 obtain⟨L,O⟩:=hin #[uU,_,_,upd H2 a.heap.objs.size (.lst []),fp]
 have f:nQ (model X.prog X.w) X.A (.compLoop (.ListComp elt [#[tg,iter,ifs,0]] scope pos) 0 (.ref it) (.ref a.heap.objs.size) (XD scope uU (a.heap.push {cls:=.type "list",dict:=aj,data:=.seq ([]:List aL).toArray}).objs.size X.env))
   (RR (.ref a.heap.objs.size) (a.heap.push {cls:=.type "list",dict:=aj,data:=.seq ([]:List aL).toArray}).objs.size) {a with heap:=h₁}:=by
  refine XF (X:=X.blk (NT++NF) scope uU _ _ (upd H2 a.heap.objs.size (.lst [])) fp)
   (T:=T) (fs:=frees js σ) (done:=Q) rfl (ang elt tg iter ifs scope pos _ _ _) rfl rfl rfl I rfl B.nd M (λx G=>B.loc G) L (aoa O) TT (λb d=>?_) D t (q _) λH' s' F' J' qd=>?_
  .exact⟨(g b d).1,fH (l b d),λk=>by
    rcases cB.mp (i.G3 b k) with z|z
    .exact(g b d).2.1 z
    .exact(g b d).2.2.1 z,.inl d,λx c e=>cb.ne (g b d) (l b d) e,λp H=>(nomatch(show p∈([]:List (aH×Obj)) from H))⟩
  .obtain⟨m,N,_⟩:=J'.loc
   exact K _ H' s' m (i.aao g J') (i.xZ 046 J'.free) N qd
 exact codeAny_compStart_list f (TT.self _ 0 _ _ _ t f)
theorem auY(B:031)(t:qZ tg NT T)(u:035)(hi:PI X tg iter wi)
  (hin:∀b,pX (X.bk (NT++NF) scope b) ifs (ts b)/\PE (X.bk (NT++NF) scope b) elt (te b))
  (hs:∀x,tY iter X.env x=pure x:=by intro _;rfl):PE X (.ListComp elt [#[tg,iter,ifs,0]] scope pos) (Tz X.K wi T ts te js):=by
 intro aC s σ H Q I h
 obtain⟨cl,a,i,l⟩:=Pr λy k e=>I.ok.has _ (B.free y k e)
 refine Ux rfl hs a B.kind B.names (cz (hi _ s σ H _ I h) λv s1 h1=>cz h1 λr f n=>hide λGG j=>?_)
 obtain⟨it,fp,tn,J,H2,e,g,TT,d,z,q⟩:=n
 subst e;exact j (ahz (Q:=λH'=>Q (.ref f.heap.objs.size) H') (RR:=λbu C=>compPost 02 X.A X.xe aj (EP X aC σ Q) bu C) B t u hin i l g TT d z (q _ (g.hok.fresh 046)) λC H' s' m D c A w=>(#[m,A,λh' sb=>#[.ref f.heap.objs.size,H',(D.turned (λb o p e=>(sb.2 b p).trans e) c.1 c.2.1 c.2.2.2.1 c.2.2.2.2.1 c.2.2.2.2.2),rfl,w]]))
theorem XH(B:031)(G:qZ tg NT T)(K:035)(hi:PI X tg iter wi)
  (hin:∀b,pX (X.bk (NT++NF) scope b) ifs (ts b)/\PE (X.bk (NT++NF) scope b) elt (te b))
  (j:p7 (.ListComp elt [#[tg,iter,ifs,0]] scope pos) (aa (.Name y pos')) spos.line X.env=pure aq)
  (hN:049)(Q:X.N[i]?=aa y)(f:023)
  (hs:∀x,tY iter X.env x=pure x:=by intro _;rfl):PS X (.Assign [.Name y pos'] (.ListComp elt [#[tg,iter,ifs,0]] scope pos) spos) (vV (Tz X.K wi T ts te js) (qQ i)):=by
 intro aC s σ H D I h
 obtain⟨cl,c,p,r⟩:=Pr λy f e=>I.ok.has _ (B.free y f e)
 rw[akz _ _ _ _ j];refine aQ (Ab (aQ (aQ (vq (Ux rfl hs c B.kind B.names
  (cz (hi aC s σ H _ I h) λv s1 h1=>cz h1 λE S w=>?_)) (λ_ s' L=>bM (bM L)) λ_ _ e=>e))));obtain⟨it,fp,tn,J,H2,e,n,TT,l,N,q⟩:=w
 subst e;refine ahz B G K hin p r n TT l N (q _ (n.hok.fresh 046)) λC H' s' m R d O M=>(Ng (W5 R hN Q (.inl f) (v:=.ref _) rfl (λP F t=>?_) (.inr f)))
 obtain⟨a,sb,A⟩:=t
 have k:C≠a:=by
  rcases A with z|z
  .rw[z];exact d.2.1
  .exact λw=>d.2.2.2.2.1 y a z w.symm
 exact#[m,O.sameBut sb k,λh' g=>#[_,H',F.turned  (λb o u e=>(g.2 b u).trans e) d.1 d.2.1 d.2.2.2.1 d.2.2.2.2.1 d.2.2.2.2.2,M]]
end
def Its(z:Str):It:=#[λi _=>i<z.cps.size,λi H x H'=>H'=H/\∃c,z.cps[i]?=aa c/\x=.str #[#v[c]],λi _=>z.cps.size<=i]
theorem apm{P:dY}{w:cW}{K:bw}{tg:Expr}{z:Str}{t:Tok}{ty:String}{it:aH}(f:ty="str_ascii_iterator"\/ty="str_iterator")(D:∀i u,Ew tg i u=pure ()):
  Turn P w K tg (Its z) [it] it (λi h=>h.IsStrIter it ty z t i) where
 mem:=cg
 obj:=λi h st b a=>by
  have e:b=it:=by simpa using a
  subst e
  obtain⟨o,e,c,d⟩:=st
  exact#[o,e,λv q=>by rw[d] at q;cases q]
 keep:=λi h h' st k=>let ⟨o,ho,r⟩:=st;#[o,k it cg o ho,r]
 item:=by
  intro X hP y C g i aC s σ H E I m st hg;subst hP y C
  obtain⟨n,p,N,x,j,l⟩:=m it cg
  have hi:i<z.cps.size:=hg;have W:Ay X.prog X.w X.A it [it] [it] z.cps.size (SignAt z) (λi h=>h.IsStrIter it ty z t i):=by
   rcases f with rfl|rfl
   .exact Walks.strAscii (I.ok.hd g) it z t
   .exact Walks.strWide (I.ok.hd g) it z t
  refine W.item i s _ _ hi st λv h' L G F J=>?_
  obtain⟨c,u,B,rfl⟩:=G
  have M:Inv X aC σ H {s with heap:=h',toks:=L}:=I.turned (λb o a e=>J b o (by simpa using a) e) n p x j l
  refine#[_,rfl,?_]
  rw[D];exact bM #[.str #[#v[c]],H,M,#[u,rfl],#[rfl,c,B,rfl],F,λb a=>(m b a).1]
 done:=by
  intro X hP y C g i aC s σ H E I m st hg;subst hP y C
  obtain⟨n,p,N,x,j,l⟩:=m it cg
  have hi:z.cps.size<=i:=hg;rcases f with rfl|rfl
  .exact wpAny_pyNext_ascii_end (I.ok.hd g) st (by simpa using hi) λh' A=>#[rfl,I.turned (t':=s.toks) (λb o a e=>A b o a e) n p x j l]
  .exact wpAny_pyNext_wide_end (I.ok.hd g) st (by simpa using hi) λh' A=>#[rfl,I.turned (t':=s.toks) (λb o a e=>A b o a e) n p x j l]
 self:=λ_ _ _ _ _ st h=>by
  rcases f with rfl|rfl
  .exact wpAny_pyIter_striter_ascii st h
  .exact wpAny_pyIter_striter_wide st h
def av3(tl:TE):TI:=λσ H R=>tl σ H λx H1=>∃z,x=.str z/\R (Its z) H1
theorem ahA(hl:PE X l tl)(f:∀i u,Ew tg i u=pure ():=by intro _ _;rfl):PI X tg l (av3 tl):=by
 intro aC s σ H R I h;refine cz (hl aC s σ H _ I h) λv s1 k=>hide λGG g=>?_
 obtain⟨x,H1,d,n,j⟩:=k
 obtain⟨z,e,q⟩:=j
 subst e
 obtain⟨t,rfl⟩:=n
 have a:∀(o:Obj)(ty:String),(ty="str_ascii_iterator"\/ty="str_iterator")->Heap.IsStrIter (s1.heap.push o) s1.heap.objs.size ty z t 0->PIE X aC σ tg R _ _:=λo ty c st=>by
  refine#[s1.heap.objs.size,[s1.heap.objs.size],_,_,H1,rfl,d.kept (t':=s1.toks) λb o e=>dF _ e,apm c f,st,λb m=>?_,q]
  have e:b=s1.heap.objs.size:=by simpa using m
  subst e;exact d.xZ 046 (d.hok.fresh 046)
 cases ha:z.cps.all (·<128)
 .exact g (wpAny_pyIter_wide ha (a _ _ (.inr rfl) #[_,ji _ rfl,rfl,rfl]))
 .exact g (wpAny_pyIter_ascii ha (a _ _ 038 #[_,ji _ rfl,rfl,rfl]))
theorem aob:dX X (iu .LtE) (λx y H Q=>∃i j,x=.str i/\y=.str j/\Q (.bl (!(decide (j.cps.toList<i.cps.toList)))) H):=by
 intro aC s σ H x y v u Q I rx a h
 obtain⟨i,j,rfl,rfl,q⟩:=h
 obtain⟨t,rfl⟩:=rx
 obtain⟨b,rfl⟩:=a
 exact PySem.P.le_str (iW I q rfl)
theorem Pu:∀{ys:014}{us:042},Vals (ys.map V.str) us->StrsAre us ys
 |[],_,h=>by cases h;exact .nil
 |y::ys,_,h=>by
  cases h with
  |cons r rr=>
   obtain⟨t,rfl⟩:=r
   exact .cons y t (Pu rr)
theorem aq0:Ea X "str.join" (λx xs H Q=>∃z p ys,x=.str z/\xs=[.ref p]/\cA X.K H p (ys.map V.str)/\(ys.map (·.length)).sum+ys.length*z.length<=16777216/\Q (.str (Txt.join z ys)) H):=by
 intro aC s σ H x xs v us Q I rx r h;refine hide λGG b=>?_
 obtain⟨z,p,ys,rfl,rfl,d,a,q⟩:=h
 obtain⟨t,rfl⟩:=rx
 obtain⟨u,rfl,f⟩:=vals1 r
 cases f
 obtain⟨g,e,c,_⟩:=I.list d
 exact b (join_list c.isList (by simpa using Pu e) a λi k=>#[.str _,H,I.tok _,05,q])
section
variable{X:Cx}
theorem part_of(h:xH v o):∃l:Option (Int×Tok),v=partValue l/\l.map (·.1)=o:=by
 cases h with
 |none=>exact#[aj,rfl,rfl]
 |int i t=>exact#[aa (i,t),rfl,rfl]
theorem atl:zM X (λx lo hi H Q=>∃z,x=.str z/\z.length<=cG/\Q (.str (Txt.slice z lo hi)) H):=by
 intro aC s σ H x v g f lo hi sl Q I rx hs c d h;refine hide λGG b=>?_
 obtain⟨z,rfl,a,q⟩:=h
 obtain⟨t,rfl⟩:=rx
 obtain⟨l,rfl,rfl⟩:=part_of c
 obtain⟨u,rfl,rfl⟩:=part_of d
 exact b (#["str",_,F.slot_str_getitem.lookup,adV s z t,wpAny_getItem_str_slice (l:=l) (u:=u) (st:=aj) hs rfl (post_val_or_str #[jw (Txt.slice_le z _ _) a,λe k=>#[.str _,H,I.tok _,#[e,rfl],q]])])
theorem ae9:∀{bs:List Bool}{us:042},Vals (bs.map V.bl) us->us=bs.map oM
 |[],_,h=>by cases h;rfl
 |b::bs,_,h=>by
  cases h with
  |cons r rr=>
   cases r;rw[ae9 rr];rfl
theorem XJ(n:035):jh X (.builtin "all") (λxs H Q=>∃(p:aH)(bs:List Bool),xs=[.ref p]/\cA X.K H p (bs.map V.bl)/\Q (.bl (bs.all id)) H):=by
 intro aC s σ H xs us Q I r h;refine hide λGG g=>?_
 obtain⟨p,bs,rfl,m,q⟩:=h
 obtain⟨u,rfl,y⟩:=vals1 r
 cases y
 obtain⟨B,o,k,_⟩:=I.list m
 have hl:=k.isList;have t:=ae9 o;subst t;have d:p<s.heap.objs.size:=by obtain⟨_,e,_⟩:=hl;exact dj e
 refine g (call_all_walk (U0 hl ⟨_,_,_,_,_,_,λi=>(bs[i]?).getD aq,rfl,ad0 (A:=X.A.in1) (I.ok.hd n) _ p (fH d) _,
  ⟨⟨_,ji _ rfl,rfl,rfl⟩,hl.push _⟩,λi v s' Q' z hP f=>?_,λh' C j=>?_⟩))
 .have a:(bs.map oM)[i]?=aa v:=by simpa using hP
  rw[jN] at a;cases e:bs[i]? with
  |none=>rw[e] at a;cases a
  |some b=>
   rw[e] at a;cases a;simp_all;exact yz f
 .have e:((gQ (bs.map oM).toArray.size).all λi=>(bs[i]?).getD aq)=bs.all id:=by
   have:(bs.map oM).toArray.size=bs.length:=cg;rw[this,Cg,u6,u6];constructor
   .intro h b l
    obtain⟨i,hi,rfl⟩:=wQ l
    have:=h i (Cj.mpr hi);simpa[mH hi] using this
   .intro h i hi;have c:=Cj.mp hi;simp[*];exact h _ (BZ _)
  rw[e]
  refine#[.bl _,H,I.kept λb x e=>j b x (λw=>?_) (dF _ e),rfl,q]
  rw[jU.mp w] at e;exact u9 _ (dj e)
end
mutual
def RD(K:bw)(H:Hp):az->V->Prop
 |.none,v=>v=.non
 |.bool b,v=>v=.bl b
 |.int i,v=>v=.int i
 |.str x,v=>v=.str x
 |.tuple ds,v=>∃a vs,v=.ref a/\dW K H a vs/\sH K H ds vs
 |.list ds,v=>∃a vs,v=.ref a/\cA K H a vs/\sH K H ds vs
 |.dict _,_=>False
def sH(K:bw)(H:Hp):List az->List V->Prop
 |[],vs=>vs=[]
 |d::ds,vs=>∃v r,vs=v::r/\RD K H d v/\sH K H ds r
end
mutual
theorem RD.nodict{K:bw}:∀{d:az}{v:V},RD K H d v->d.hasDict=aR
 |.none,_,h=>rfl
 |.bool _,_,h=>rfl
 |.int _,_,h=>rfl
 |.str _,_,h=>rfl
 |.tuple ds,v,h=>by
  obtain⟨a,vs,e1,q,r⟩:=h
  simpa[al0] using sH.nodict r
 |.list ds,v,h=>by
  obtain⟨a,vs,e1,q,r⟩:=h
  simpa[al0] using sH.nodict r
theorem sH.nodict{K:bw}:∀{ds:036}{vs:041},sH K H ds vs->acj ds=aR
 |[],_,h=>by simp[acj]
 |d::ds,vs,h=>by
  obtain⟨v,r,e1,q,t⟩:=h
  simp[acj,RD.nodict q,sH.nodict t]
end
section
variable{σ:St}{H:Hp}
mutual
theorem RD.reads(I:03):∀{d:az}{v:V}{u:aL},RD X.K H d v->RelV v u->∃as,Reads s.heap u d as
 |.none,_,_,h,r=>by
  cases h
  cases r
  exact#[_,.none]
 |.bool b,_,_,h,r=>by
  cases h
  cases r
  exact#[_,.bool b]
 |.int i,_,_,h,r=>by
  cases h
  obtain⟨t,rfl⟩:=r
  exact#[_,.int i t]
 |.str x,_,_,h,r=>by
  cases h
  obtain⟨t,rfl⟩:=r
  exact#[_,.str x t]
 |.tuple ds,v,u,h,r=>by
  obtain⟨a,vs,e1,q,t⟩:=h
  subst e1;cases r
  obtain⟨g,f,⟨o,e,c,n,d⟩,_⟩:=I.tuple q
  obtain⟨as,R⟩:=sH.reads I t f
  exact#[_,.tuple e c d (by trivial)]
 |.list ds,v,u,h,r=>by
  obtain⟨a,vs,e1,q,t⟩:=h
  subst e1;cases r
  obtain⟨g,f,⟨o,n,e,c,_,d⟩,_⟩:=I.list q
  obtain⟨as,R⟩:=sH.reads I t f
  exact#[_,.list e c d (by trivial)]
theorem sH.reads(I:03):∀{ds:036}{vs:041}{us:042},sH X.K H ds vs->Vals vs us->∃as,ReadsAll s.heap us ds as
 |[],_,_,h,r=>by
  cases(show _=[] from h)
  cases r
  exact#[_,.nil]
 |d::ds,vs,us,h,r=>by
  obtain⟨v,a,e1,q,t⟩:=h
  subst e1;cases r with
  |cons r1 r2=>
   obtain⟨as,R⟩:=RD.reads I q r1
   obtain⟨bs,R2⟩:=sH.reads I t r2
   exact#[_,.cons R R2]
end
end
def ahB(jR:kI)(N0 NT NF:014)(js:051)(scope:kI):Bool:=
 scope.kind==.function&&scope.names.all (λy=>!(y.2==.local)||scope.names.lookup y.1==some .local)&&scope.names.all (λy=>!(y.2==.cell)||scope.names.lookup y.1==aa .cell)&&
  scope.names.all (λy=>!(y.2==.free)||(jR.names.lookup y.1==aa .cell||jR.names.lookup y.1==aa .free))&&js.length==NF.length&&
  (js.zip NF).all (λp=>N0[p.1]?==aa p.2&&scope.names.lookup p.2==aa .free)&&NT.all (λx=>scope.names.lookup x==aa .local||scope.names.lookup x==aa .cell)&&decide (NT++NF).Nodup
theorem lB.ok(h:ahB jR N0 NT NF js scope=aq)(o:X.env.scope=jR)(hN:X.N=N0):oX X NT NF js scope:=by
 unfold ahB at h;simp only[lJ] at h
 obtain⟨⟨⟨⟨⟨⟨⟨h1,h2⟩,f⟩,m⟩,i⟩,l⟩,g⟩,d⟩:=h
 refine#[eq_of_beq h1,λy a e=>?_,λy a e=>?_,λy a e=>?_,by simpa using i,λk j x b ex=>?_,λx c=>?_,of_decide_eq_true d]
 .grind
 .have:=u6.mp f y a;rw[e] at this;simpa using this
 .grind
 .have n:=by
   have:(js.zip NF)[k]?=aa (j,x):=by
    rw[List.getElem?_zip_eq_some]
    exact#[b,ex]
   exact pZ this
  grind
 .simpa using u6.mp g x c
structure cX(P:dY)(w:cW)(K:bw)(mg:Str->Option aL)(base:cF)(x:Str)(k:Nat)(ps:List Str)(sp:Sp):Prop where
 ex:∃(f:aH)(fd:um),mg x=aa (.ref f)/\EY K (.ref f)=aq/\Binds K fd ps []/\eV P w K mg base eY k f fd ps sp
section
variable{X:Cx}{x:Str}{k:Nat}{sp:Sp}{p pos:Pos}{e:Expr}{t:TA}
theorem aip(F:cX X.prog X.w X.K X.mg X.base x k ps sp)(c:jZ k X.A)(hg:Gl X x)(g:PA X (e::es) t)(a:017=aR:=by decide)
  (he:bV (e::es) X.env=(010 e)::bV es X.env:=by rfl)(b:(jx pos (bV es X.env)).any (·.1)=aR:=by rfl):
  PE X (.Call (.Name x p) (e::es) [] pos) (RP sp [] E0 t):=by
 obtain⟨f,fd,h1,h2,d,h⟩:=F.ex
 exact aqN h c hg h1 h2 d .nil auX g a he b
theorem adM:jh X (.builtin "isinstance") (λxs H Q=>∃x n t b,xs=[x,.ty n]/\nF X.K H x t/\z9 X.K t (.type n)=aa b/\Q (.bl b) H):=by
 intro aC s σ H xs us Q I r h;refine hide λGG a=>?_
 obtain⟨x,n,t,b,rfl,ty,e,q⟩:=h
 obtain⟨u,g,rfl,c,f⟩:=vals2 r
 cases f;exact a (an0 I c ty e λd=>#[.bl b,H,I.tok d,rfl,q])
end
theorem Ea.r{id:String}{r:V->List V->Hp->VK->Prop}(h:Ea X id r):MtR X id r:=h
theorem cI.upd(h:H p=aj):cI H (L2.upd H p o):=λb u e=>by rwa [di (ue e h)]
section
variable{X:Cx}{σ:St}{H:Hp}
theorem Inv.Ed(I:03)(h:H a=aa (.dK [] Ef)):Inv X aC σ (upd H a (.dT [] Ef)) s:=by
 obtain⟨z,c,vs,r,o,es,h1,h2,d,g,e,f⟩:=I.hok a _ h
 cases r;have b:es.toList=[]:=by
  cases hh:es.toList with
  |nil=>rfl
  |cons x xs=>rw[hh] at e;trivial
 have:=yQ (t':=s.toks) (ob:=.dT [] _) I (by rw[h];trivial) (ack a _) #[_,h1] #[lO _,c,[],.nil,o,es,h1,h2,d,b,qG];trivial
theorem Inv.TJ(I:Inv X aC σ (upd H a (.dT [] Ef)) s)(h:H a=aa (.dK [] Ef)):Inv X aC σ H s:=by
 obtain⟨z,f,xs,r,o,es,h1,h2,g,j,k⟩:=I.hok a _ fj
 cases r;have d:es=#v[]:=by simp_all
 subst d;have:=yQ (t':=s.toks) I (by rw[fj];trivial) (ack a _) #[_,h1] (Kf (lO _) f .nil #[o,_,h1,h2,g,λi hi=>absurd hi cg,.nil,qG]);rw[QZ] at this;have e:upd H a (.dK [] Ef)=H:=by
  funext b;by_cases c:b=a
  .subst c;rw[fj,h]
  .exact di c
 simp_all
end
def auZ(D:aH)(y z:V)(H:Hp)(Q:Hp->Prop):Prop:=(∃au k b,(∃ep,H D=aa (.dT au ep))/\y=.ref b/\kO H b k/\au.length<cG/\∀e,Q (upd H D (.dT (putK au k z) e)))\/∃k b,(∃ep,H D=aa (.dK [] ep))/\y=.ref b/\kO H b k/\∀e,Q (upd H D (.dT [(k,z)] e))
theorem aes{X:Cx}{σ:St}{H:Hp}{s:bf}{D b:aH}{z:V}{u:aL}{au:List (TK×V)}{k:TK}{ep:Nat}(hu:033)(I:03)(d:H D=aa (.dT au ep))(g:kO H b k)(hl:au.length<cG)(rz:RelV z u)(h:∀e s',Inv X aC σ (upd H D (.dT (putK au k z) e)) s'->Q () s'):
  bH 02 X.A (dictSet D (.ref b) u) Q E s:=by
 obtain⟨x,t,xs,a,l⟩:=aam I.hok d
 have w:xs.length<=cG:=by rwa [<-Paired.length a]
 have f:(putK au k z).length<=cG:=by have:=Jr au k z;lia
 refine wpAny_dictSet_heap (z6 hu) (Ao I.hok g) l λh' o hs=>hide λGG m=>?_
 obtain⟨q,es,j,i,h2,r,n,_,v⟩:=o
 refine m (h _ _ (yQ I (by rw[d];trivial) hs #[q,i] #[f,t,_,(a.put k g rz).keeps λc ys p=>?_,q,es,i,h2,r,n,v]))
 rwa [di (Dr p d 012)]
def aaO(D:aH)(tk tv:TE):TM:=λσ H Q=>tk σ H λy H1=>tv σ H1 λz H2=>(∃au k,(∃ep,H2 D=aa (.dK au ep))/\y=kV k/\au.length<cG/\∀e,Q (upd H2 D (.dK (putK au k z) e)))\/auZ D y z H2 Q
theorem atm(hu:033)(C:PE X kx tk)(B:PE X vx tv):PM X (do
      let g <-eval kx X.env
      let m <-rR [g] (eval vx X.env)
      xx {kx.pos with endLine:=vx.pos.endLine,endCol:=vx.pos.endCol}
      rR [g,m] (dictSet D g m)) (aaO D tk tv):=by
 intro aC s σ H Q I h;refine aQ (cz (C _ s σ H _ I h) λg s1 l=>?_)
 obtain⟨y,H1,F,r,x⟩:=l
 refine aQ (m9 (cz (B _ s1 σ H1 _ F x) λm L l=>?_))
 obtain⟨z,H2,i,u,⟨au,k,⟨ep,a⟩,p,hl,d⟩|⟨au,k,b,⟨ep,a⟩,p,n,hl,d⟩|⟨k,b,⟨ep,a⟩,p,n,d⟩⟩:=l
 all_goals subst p
 all_goals refine aQ (Ab (m9 ?_))
 rotate_left 1
 .cases r;exact aes hu i a n hl u λe s' v=>#[_,v,d e]
 .cases r;refine aes hu (i.Ed a) fj (n.mono λc xs e=>by rwa [di (Dr e a 012)]) ((V1 _)) u λe s' v=>#[_,v,?_]
  rw[QZ];exact d e
 obtain⟨K,G,vs,f,A⟩:=aal i.hok a
 have J:vs.length<=cG:=by rwa [<-f.length]
 have o:(putK au k z).length<=cG:=by have:=Jr au k z;lia
 refine akU (zb r) A λh' w hs=>?_
 obtain⟨j,t⟩:=w.dictAt
 refine#[_,?_,d j]
 have E:∃q,h'.get? D=aa q:=let ⟨q,_,_,hq,_⟩:=w;#[q,hq]
 exact yQ i (by rw[a];exact qI) hs E (Kf o G (f.put k u) t)
section
variable{X:Cx}{js:List Nat}{ifs:List Expr}{T:kW}{wi:TI}{ts:Bk->TT}{te tk' tv:Bk->TE}{scope:kI}{pos:Pos}
def tDC(K:bw)(wi:TI)(T:kW)(ts:Bk->TT)(tk' tv:Bk->TE)(js:051):TE:=λσ H Q=>wi σ H λJ H1=>∀D,H1 D=aj->∀b,Bj K T (ts b) (aaO D (tk' b) (tv b)) (frees js σ) J (upd H1 D (.dK [] 0)) (Q (.ref D))
theorem atn{σ:St}{a:bf}{H2:Hp}{cl:List (Str×aH)}{it:aH}{fp:040}{tn:Nat->cF->Prop}{J:It}{Q:Hp->Prop}{RR:aL->aH->Dk->bf->Prop}{E:015}
  (B:031)(I:qZ tg NT T)(M:035)(hu:033)
  (hin:∀b,pX (X.bk (NT++NF) scope b) ifs (ts b)/\PE (X.bk (NT++NF) scope b) kx (tk' b)/\PE (X.bk (NT++NF) scope b) vx (tv b))
  (A:∀n c,cl.lookup n=aa c->X.env.cells.lookup n=aa c)(F:∀y∈scope.names,y.2=.free->∃c,cl.lookup y.1=aa c)
  (r:Inv X aC σ H2 a)(TT:Turn X.prog X.w X.K tg J fp it tn)(j:tn 0 a.heap)(w:∀b∈fp,mC X aC H2 b)
  (q:∀b,Bj X.K T (ts b) (aaO a.heap.objs.size (tk' b) (tv b)) (frees js σ) J (upd H2 a.heap.objs.size (.dK [] 0)) Q)
  (K:∀C H' s' m,Inv X aC σ H' s'->mC X aC H' C->s'.heap.Ns C m->Q H'->RR (.ref a.heap.objs.size) C (.ok .next) s'):
  bH (model X.prog X.w) X.A (newDict) (λbu s₃=>bH (model X.prog X.w) X.A (Ny scope X.env.globals cl [] X.env.qual aj .none (aa X.env)) (λcenv s4=>
   nQ (model X.prog X.w) X.A (.compStart (.DictComp kx vx [⟨tg,iter,ifs,0⟩] scope pos) 0 (.ref it) bu {cenv with scope:=relabel scope X.env}) (RR bu cenv.locals) s4) E s₃) E a:=by
 refine qD ?_;have i:=
  r.laid (t':=a.toks) (λb o e=>dF _ e) 046 (XC _ r.big)
 have t:(a.heap.push {cls:=.type "dict",dict:=aj,data:=.dict #v[]}).objs.size=a.heap.objs.size+1:=yH ..;refine nfe i B A F λuU h₁ cb hns1 keep=>?_
 have v:∀b∈fp,b<a.heap.objs.size:=λb d=>by
  obtain⟨o,e,_⟩:=TT.obj 0 _ j b d
  exact dj e
 have g:∀b∈fp,mC X aC (upd H2 _ (.dK [] 0)) b:=λb d=>#[by rw[di (fH (v b d))];exact(w b d).1,(w b d).2]
 have l:∀b∈fp,b<(a.heap.push _).objs.size:=λb d=>by have:=v b d;rw[t];exact yC this
 have D:=i.blk (s1:={a with heap:=h₁}) B cb g l hns1 keep rfl r.bare;have u:=TT.keep 0 _ _ j λb _ o e=>keep b o (dF _ e)
 obtain⟨L,O,P⟩:=hin #[uU,_,_,upd H2 _ _,fp]
 have f:nQ (model X.prog X.w) X.A (.compLoop (.DictComp kx vx [#[tg,iter,ifs,0]] scope pos) 0 (.ref it) (.ref a.heap.objs.size) (XD scope uU (a.heap.push {cls:=.type "dict",dict:=aj,data:=.dict #v[]}).objs.size X.env))
   (RR (.ref a.heap.objs.size) (a.heap.push {cls:=.type "dict",dict:=aj,data:=.dict #v[]}).objs.size) {a with heap:=h₁}:=by
  refine XF (X:=X.blk _ scope uU _ _ _ fp)
       rfl (anh kx vx tg iter ifs scope pos _ _ _) rfl rfl rfl I rfl B.nd M (λx G=>B.loc G) L (atm hu O P) TT (λb d=>?_) D u (q _) λH' s' F' J' qd=>?_
  .exact⟨(g b d).1,fH (l b d),λk=>by
    rcases cB.mp (i.G3 b k) with z|z
    .exact(g b d).2.1 z
    .exact(g b d).2.2.1 z,.inl d,λx c e=>cb.ne (g b d) (l b d) e,λp H=>(nomatch(H))⟩
  .obtain⟨m,N,_⟩:=J'.loc
   exact K _ H' s' m (i.aao g J') (i.xZ 046 J'.free) N qd
 exact codeAny_compStart_dict f (TT.self _ 0 _ _ _ u f)
theorem apn(B:031)(G:qZ tg NT T)(K:035)(hu:033)(hi:PI X tg iter wi)
  (hin:∀b,pX (X.bk (NT++NF) scope b) ifs (ts b)/\PE (X.bk (NT++NF) scope b) kx (tk' b)/\PE (X.bk (NT++NF) scope b) vx (tv b))
  (j:p7 (.DictComp kx vx [#[tg,iter,ifs,0]] scope pos) (aa (.Name y pos')) spos.line X.env=pure aq)
  (hN:049)(P:X.N[i]?=aa y)(f:023)
  (hs:∀x,tY iter X.env x=pure x:=by intro _;rfl):PS X (.Assign [.Name y pos'] (.DictComp kx vx [#[tg,iter,ifs,0]] scope pos) spos) (vV (tDC X.K wi T ts tk' tv js) (qQ i)):=by
 intro aC s σ H D I h
 obtain⟨cl,c,p,r⟩:=Pr λy f e=>I.ok.has _ (B.free y f e)
 rw[akz _ _ _ _ j];refine aQ (Ab (aQ (aQ (vq (Ux rfl hs c B.kind B.names
  (cz (hi aC s σ H _ I h) λv s1 h1=>cz h1 λE R w=>?_)) (λ_ s' L=>bM (bM L)) λ_ _ e=>e))));obtain⟨it,fp,tn,J,H2,e,n,TT,l,N,q⟩:=w
 subst e;refine atn (hu:=hu) B G K (hin:=hin) p r n TT l N (q _ (n.hok.fresh 046)) λC H' s' m Q d O M=>(Ng (W5 Q hN P (.inl f) (v:=.ref _) rfl (λS F t=>?_) (.inr f)))
 obtain⟨a,sb,A⟩:=t
 have k:C≠a:=by
  rcases A with z|z
  .rw[z];exact d.2.1
  .exact λw=>d.2.2.2.2.1 y a z w.symm
 exact#[m,O.sameBut sb k,λh' g=>#[_,H',(F.turned (λb o u e=>(g.2 b u).trans e) d.1 d.2.1 d.2.2.2.1 d.2.2.2.2.1 d.2.2.2.2.2),M]]
end
section
variable{X:Cx}
theorem aq1{K:bw}{t:aL}(e1:z9 K t c=aa p)(e2:z9 K t d=aa q):Vr K t [c,d]=aa (p||q):=by
 unfold Vr;rw[e1];cases p with
 |true=>rfl
 |false=>
  unfold Vr;rw[e2];cases q with
  |true=>rfl
  |false=>rfl
end
theorem Inv.J2{X:Cx}{σ:St}{H H':Hp}{h':cF}{t':Nat}{ch:040}(I:03)(k:∀b o,b∉ch->s.heap.get? b=aa o->h'.get? b=aa o)(a:∀b∈ch,mC X aC H b)
  (hs:cI H H')(g:∀b o,s.heap.get? b=aa o->H b=aj->H' b=aj)(i:∀b u,H' b=aa u->H b=aa u\/mX X.prog X.w H' h' b u):Inv X aC σ H' {s with heap:=h',toks:=t'}:=by
 have h:∀b u,H b=aa u->b∉ch:=λb u e z=>by rw[(a b z).1] at e;cases e
 refine I.step (λb f=>#[(a b f).2.2.2.1,(a b f).2.1,(a b f).2.2.2.2.1,(a b f).2.2.2.2.2]) (λb o y y d e y=>k b o d e) (λb o y y d e y=>#[_,k b o d e]) (λb o y e n=>g b o e n)
  (λb o d e=>#[o,k b o d e]) (λy y e=>hs _ _ e) (λy y y e=>hs _ _ e) (λb ps e=>#[#v[],by rw[hs _ _ e];rfl]) (λm j=>?_) (λb u e=>?_) I.bare
 .obtain⟨o,es,ep,l,r⟩:=j
  exact#[o,es,ep,k _ o (λz=>(a _ z).2.1 rfl) l,r]
 .rcases i b u e with z|z
  .refine(I.hok b u z).stay (λc v d q=>k c v ?_ q) (λy q=>hs _ _ q) λy y q=>hs _ _ q
   grind
  trivial
def Itz(K:bw)(a b:aH):It:=⟨λi H=>∃xs ys,cA K H a xs/\cA K H b ys/\i<min xs.length ys.length,
 λi H v H'=>∃p x y,H p=aj/\v=.ref p/\H'=upd H p (.tup [x,y])/\∀xs ys,cA K H a xs->cA K H b ys->xs[i]?=aa x/\ys[i]?=aa y,
 λi H=>∃xs ys,cA K H a xs/\cA K H b ys/\i=min xs.length ys.length⟩
theorem apo{P:dY}{w:cW}{K:bw}{es:057}{k:Nat}{ps:Pos}{a b z TI TO m l:aH}(D:ZipApart z TI TO m l a b):
  Turn P w K (.Tuple es k ps) (Itz K a b) [z,TI,TO,m,l] z (λi h=>IsZip h z TI TO .none/\IsPair h TI (.ref m) (.ref l)/\(∃c d,IsPair h TO c d)/\h.IsListIter m a i/\h.IsListIter l b i) where
 mem:=c8
 obj:=λi h st c f=>by
  obtain⟨h1,h2,⟨_,_,h3⟩,⟨o4,e4,_,d4⟩,⟨o5,e5,_,d5⟩⟩:=st
  simp_all;rcases f with rfl|rfl|rfl|rfl|rfl
  .exact#[_,h1,λv q=>by cases q]
  .exact#[_,h2,λv q=>by cases q]
  .exact#[_,h3,λv q=>by cases q]
  .exact#[_,e4,λv q=>by rw[d4] at q;cases q]
  .exact#[_,e5,λv q=>by rw[d5] at q;cases q]
 keep:=λi h h' st p=>by
  obtain⟨h1,h2,⟨c,d,h3⟩,h4,h5⟩:=st
  exact#[p z c8 _ h1,p TI cg _ h2,#[c,d,p TO cg _ h3],h4.at λo e=>p m cg o e,h5.at λo e=>p l cg o e]
 item:=by
  intro X hP Q Z f i aC s σ H E I F st hg;subst hP Q Z
  obtain⟨xs,ys,M,N,hi⟩:=hg
  obtain⟨B,G,p1,_⟩:=I.list M
  obtain⟨g,O,p2,_⟩:=I.list N
  have l1:=G.length;have l2:=O.length;have W:=amV (prog:=X.prog) (w:=X.w) (A:=X.A) (I.ok.hd f) z TI TO m l a b D B.toArray g.toArray
  obtain⟨s1,L,t,J,C⟩:=st
  refine W.item i s _ E (by simp;simp_all) #[s1,L,t,J,C,p1.isList,p2.isList] λT vals h' tk hv V ht hm p=>?_
  obtain⟨x,y,hx,hy,rfl⟩:=hv
  refine#[_,rfl,W.go es k ps i T _ _ E hm λh2 j wC=>?_]
  have gx:xs[i]?=aa (xs.getD i .non):=by
   have:i<xs.length:=c4;simp[Gg,this]
  have gy:ys[i]?=aa (ys.getD i .non):=by
   have:i<ys.length:=c4;simp[Gg,this]
  obtain⟨u1,Y,q1⟩:=G.get gx
  obtain⟨u2,R,q2⟩:=O.get gy
  have ex:u1=x:=by
   have:B[i]?=aa x:=by simpa using hx
   rw[Y] at this;exact nO this
  have ey:u2=y:=by
   have:g[i]?=aa y:=by simpa using hy
   rw[R] at this;exact nO this
  subst ex ey;have U:∀c,c∈[z,TO,m,l]->mC X aC H c:=λc f=>F c (by grind)
  have Mm:H T=aj:=I.hok.fresh V;have nT:T∉[z,TO,m,l]:=W.apart i T _ hm;have kT:h2.get? T=h'.get? T:=by
   obtain⟨o,e,_⟩:=id ht
   rw[wC T o nT e];exact e.symm
  obtain⟨oT,eT,cT,S,dT⟩:=id ht
  refine#[.ref T,upd H T (.tup [xs.getD i .non,ys.getD i .non]),I.J2 (λc o f e=>wC c o f (p c o f e)) U (cI.upd Mm) (λc o e n=>?_) (λc u e=>?_),rfl,#[T,_,_,Mm,rfl,rfl,λxs' ys' h1 h2=>?_],?_,λc f=>?_]
  .rw[di]
   .exact n
   .intro z;subst z;exact absurd (dj e) (WM.mpr V)
  .by_cases Mp:c=T
   .subst Mp;rw[fj] at e;cases e;refine .inr #[by show 2<=cG;decide,[u1,u2],.cons q1 (.cons q2 .nil),oT,kT.trans eT,cT,S,by simpa using dT]
   .rw[di Mp] at e;exact .inl e
  .rw[I.Qn h1 M,I.Qn h2 N]
   exact#[gx,gy]
  .exact#[j.1,j.2.1,j.2.2.1,j.2.2.2.1,j.2.2.2.2.1]
  .rw[di]
   .exact(F c f).1
   .intro z;refine hide λGG r=>?_
    subst z
    obtain⟨o,e,_⟩:∃o,s.heap.get? c=aa o/\True:=by grind
    exact r (absurd (dj e) (WM.mpr V))
 done:=by
  intro X hP Q Z f i aC s σ H E I F st hg;subst hP Q Z
  obtain⟨xs,ys,M,N,hi⟩:=hg
  obtain⟨B,G,p1,_⟩:=I.list M
  obtain⟨g,O,p2,_⟩:=I.list N
  have l1:=G.length;have l2:=O.length;have W:=amV (prog:=X.prog) (w:=X.w) (A:=X.A) (I.ok.hd f) z TI TO m l a b D B.toArray g.toArray
  obtain⟨s1,L,t,J,C⟩:=st
  have e:i=min B.toArray.size g.toArray.size:=by simp;lia
  subst e;refine W.done s _ E #[s1,L,t,J,C,p1.isList,p2.isList] λh' tk p=>#[rfl,?_]
  have U:∀c,c∈[z,TO,m,l]->mC X aC H c:=λc f=>F c (by simp at f⊢;rcases f with rfl|rfl|rfl|rfl<;>simp)
  exact I.J2 p U (cI.refl H) (λ_ _ _ n=>n) λ_ _ e=>.inl e
 self:=λ_ _ _ _ _ st h=>alD st.1 h
def av4(K:bw)(t:TA):TI:=λσ H R=>t σ H λvs H1=>∃a b xs ys,vs=[.ref a,.ref b]/\cA K H1 a xs/\cA K H1 b ys/\R (Itz K a b) H1
theorem ato{X:Cx}{es:057}{k:Nat}{ps:Pos}{t:TA}{p pos:Pos}(hg:Gl X "zip")(B:X.mg "zip"=aj)(u:PA X [x,y] t)(hs:bV [x,y] X.env=[(010 x),(010 y)]:=by rfl)(f:bV [y] X.env=[(010 y)]:=by rfl):
  PI X (.Tuple es k ps) (.Call (.Name "zip" p) [x,y] [] pos) (av4 X.K t):=by
 intro aC s σ H R I h;refine Call_ (yV I hg B ayZ (Us (cz (u _ _ s σ H _ I h) λus s1 n=>hide λGG m=>?_) (by rw[hs,f]) (by rw[f];rfl)))
 obtain⟨vs,H1,d,z,l⟩:=n
 obtain⟨a,b,xs,ys,e,h1,h2,q⟩:=l
 subst e;cases z with
 |cons r rr=>
  cases rr with
  |cons r' rr=>
   cases rr;cases r;cases r'
   obtain⟨G,v1,p1,_⟩:=d.list h1
   obtain⟨j,v2,p2,_⟩:=d.list h2
   have g:a<s1.heap.objs.size:=by obtain⟨_,e,_⟩:=p1.isList;exact dj e
   have o:b<s1.heap.objs.size:=by obtain⟨_,e,_⟩:=p2.isList;exact dj e
   refine m (call_zip_2 p1.isList p2.isList λh' i E F C v D w=>(alD i ?_));have A:=d.kept (t':=s1.toks) w
   refine#[_,_,_,_,H1,rfl,A,apo (zipApart_new g o),#[i,E,#[_,_,F],C,v],λc J=>d.xZ ?_ (d.hok.fresh ?_),q]
   all_goals
    grind
theorem ani(I:03)(rx:RelV x u)(ty:nF X.K H x t)(e:Vr X.K t aN=aa b)
  (j:s.heap.IsTuple c aN.toArray)(h:∀g,Q (.bool b) {s with toks:=g}):bH 02 A (call (.builtin "isinstance") [u,.ref c]) Q E s:=by
 refine hide λGG d=>?_
 obtain⟨⟨B,v,k,r⟩,f,m,D,l⟩:=j
 subst m l;cases ty with
 |non=>cases rx;exact d (wV ale I.j0 qI f e 012 h)
 |bl y=>cases rx;exact d (wV alf I.j0 qI f e 012 h)
 |int i=>obtain⟨t,q⟩:=(rx);cases q;exact d (wV alA I.j0 qI f e 012 h)
 |str y=>obtain⟨t,q⟩:=(rx);cases q;exact d (wV alB I.j0 qI f e 012 h)
 |flt y=>obtain⟨t,q⟩:=(rx);cases q;exact d (wV ak2 I.j0 qI f e 012 h)
 |@lst a xs ea=>
  cases(rx)
  obtain⟨_,_,n,_,h1⟩:=(I.hok a _ ea)
  exact d (wV U3 I.j0 #[_,h1,rfl] f e 012 h)
 |@tR a ob xs ea=>
  cases rx
  obtain⟨_,_,_,n,_,h1⟩:=(I.hok a _ ea)
  exact d (wV U3 I.j0 #[_,h1,rfl] f e 012 h)
 |@tup a xs ea=>
  cases(rx)
  obtain⟨_,_,_,p⟩:=(I.hok a _ ea)
  obtain⟨o,h1,h2,_⟩:=p
  exact d (wV ak3 I.j0 #[o,h1,h2] f e 012 h)
 |@dK a au epo ea=>
  cases show u=fY a from rx
  obtain⟨_,_,vs,_,p⟩:=(I.hok a _ ea)
  obtain⟨o,es,h1,h2,_⟩:=p
  exact d (wV U4 I.j0 #[o,h1,h2.1] f e 012 h)
 |@dT a au epo ea=>
  cases show u=fY a from rx
  obtain⟨_,_,xs,_,o,es,h1,h2,_⟩:=(I.hok a _ ea)
  exact d (wV U4 I.j0 #[o,h1,h2.1] f e 012 h)
 |@ins a C dx fs ea cl ha hn htk hm=>
  cases(rx)
  obtain⟨w,O,_⟩:=agh I.hok ea
  obtain⟨v,J,_⟩:=O.look
  exact d (wV (alC (cl.get _) cl.hd ha hn htk hm) I.j0 J f e 012 h)
theorem amy:jh X (.builtin "isinstance") (λxs H Q=>∃x c m n t p q,xs=[x,.ref c]/\H c=aa (.tup [.ty m,.ty n])/\nF X.K H x t/\z9 X.K t (.type m)=aa p/\z9 X.K t (.type n)=aa q/\Q (.bl (p||q)) H):=by
 intro aC s σ H xs us Q I r h;refine hide λGG b=>?_
 obtain⟨x,c,m,n,t,p,q,rfl,g,ty,e1,e2,k⟩:=h
 obtain⟨u,v,rfl,e,o⟩:=vals2 r
 cases o
 obtain⟨_,w,a,i,d,j,l⟩:=(I.hok c _ g)
 cases a with
 |cons a1 a=>
  cases a with
  |cons a2 a=>
   cases a;cases a1;cases a2;exact b (ani I e ty (aq1 e1 e2) #[i,d,j,l] λf=>#[.bl _,H,I.tok f,rfl,k])
end L2
namespace L2
open PySem PySem.Spec PyProof.Rows PySem.W
section
variable{N:Nat}{lt:Nat->Nat->Bool}{α β:Type}
def gH(N:Nat)(lt:Nat->Nat->Bool):KasT α->(α->Prop)->Prop
 |.ret a,R=>R a
 |.ask i j k,R=>i<N/\j<N/\gH N lt (k (lt i j)) R
theorem gH.mono:∀{t:KasT α},gH N lt t R->(∀a,R a->S a)->gH N lt t S
 |.ret a,h,f=>f a h
 |.ask i j k,h,f=>#[h.1,h.2.1,gH.mono h.2.2 f]
theorem gH.bind:∀{t:KasT α},gH N lt t (λa=>gH N lt (f a) R)->gH N lt (t.bind f) R
 |.ret a,h=>h
 |.ask i j k,h=>#[h.1,h.2.1,gH.bind h.2.2]
theorem gH.wp(b:∀i j,i<N->j<N->∀C:Bool->bf->Prop,C (lt i j) s->cmp i j C s)(q:∀a,R a->Q a s):∀{t:KasT α},gH N lt t R->t.kasWp cmp Q s
 |.ret a,h=>q a h
 |.ask i j k,h=>b i j h.1 h.2.1 _ (gH.wp b q h.2.2)
def KP(N:Nat)(p:Array Nat):Prop:=p.toList.Perm (gQ N)
theorem KP.ix(h:KP N p)(a:0<N)(i:Nat):p.getD i 0<N:=by
 by_cases hi:i<p.size
 .have:p.getD i 0∈p.toList:=by simp[*]
  exact Cj.mp (h.mem_iff.mp this)
 simp_all
theorem KP.rev(h:KP N p)(i j:Nat):KP N (kas_rev p i j):=((mirror_perm p i j _).toList).trans h
theorem KP.bub(h:KP N p)(i j:Nat):KP N (bubble p i j):=((bubble_perm p i j).toList).trans h
theorem ZD(h:KP N p)(a:0<N):∀f n,gH N lt (kas_asc p f n) λ_=>True
 |0,n=>trivial
 |f+1,n=>by
  refine#[h.ix a _,h.ix a _,?_]
  dsimp only;split
  .trivial
  .exact ZD h a f _
theorem Q3(a:0<N):∀f (p:Array Nat) n q,KP N p->gH N lt (kas_desc f p n q) λr=>KP N r.1
 |0,p,n,q,h=>h
 |f+1,p,n,q,h=>by
  refine#[h.ix a _,h.ix a _,?_]
  dsimp only;split
  .split
   .exact Q3 a f _ _ _ (h.rev _ _)
   .exact Q3 a f _ _ _ h
  .refine#[h.ix a _,h.ix a _,?_]
   dsimp only;split
   .exact h
   .exact Q3 a f _ _ _ h
theorem afa(b:0<N)(h:KP N p)(n a:Nat):gH N lt (kas_tail3 n a p) λr=>KP N r.2:=
 gH.bind (gH.mono (ZD (h.rev 0 n) b _ _) λk k=>h.rev 0 n)
theorem adN(b:0<N)(h:KP N p)(n a:Nat):gH N lt (kas_descPart n a p) λr=>KP N r.2:=by
 refine gH.bind (gH.mono (Q3 b _ p _ _ h) λr c=>?_);split
 .exact afa b (KP.rev c _ _) _ _
 .exact afa b c _ _
theorem apq(b:0<N)(h:KP N p)(a:Nat):gH N lt (kas_count a p) λr=>KP N r.2:=by
 refine gH.bind (gH.mono (ZD h b _ _) λn k=>?_);split
 .exact h
 .split
  .refine#[h.ix b _,h.ix b _,?_]
   dsimp only;split
   .exact h
   .exact adN b (h.rev _ _) _ _
  .exact adN b h _ _
theorem XM(a:0<N)(h:KP N p)(k:Nat):∀f l r,gH N lt (kas_place p k f l r) λ_=>True
 |0,l,r=>trivial
 |f+1,l,r=>by
  unfold kas_place;split
  .trivial
  .refine#[h.ix a _,h.ix a _,?_]
   dsimp only;split
   .exact XM a h k f _ _
   .exact XM a h k f _ _
theorem ahC(a:0<N):∀f (p:Array Nat) k,KP N p->gH N lt (kas_bin f p k) (KP N)
 |0,p,k,h=>h
 |f+1,p,k,h=>gH.bind (gH.mono (XM a h k _ _ _) λl j=>ahC a f _ _ (h.bub _ _))
theorem agp(a:0<N):gH N lt (kas_sort N) (KP N):=by
 refine gH.bind (gH.mono (apq a (Je _) N) λr b=>?_);split
 .exact ahC a _ _ _ b
 trivial
end
def kLt:Key->Key->Bool
 |.inl i,.inl j=>decide (i<j)
 |.inr x,.inr y=>decide (x.cps.toList<y.cps.toList)
 |_,_=>aR
def iJ:List Key->List Key->Bool
 |a::r,b::t=>if a=b then iJ r t else kLt a b
 |_,_=>aR
def cL:Key->Bool
 |.inl _=>aq
 |.inr _=>aR
theorem apr(d:RelV (kV a) u)(c:RelV (kV b) v)(ht:cL a=cL b)(h:Q (kLt a b) s):bH 09 A (oneLt' f u v) Q E s:=by
 cases a with
 |inl i=>
  cases b with
  |inr y=>cases ht
  |inl j=>
   obtain⟨t,rfl⟩:=d
   obtain⟨e,rfl⟩:=c
   cases f with
   |true=>exact oneLt_int h
   |false=>exact kat_one _ _ (lt_int h)
 |inr x=>
  cases b with
  |inl y=>cases ht
  |inr y=>
   obtain⟨t,rfl⟩:=d
   obtain⟨e,rfl⟩:=c
   cases f with
   |true=>exact oneLt_str h
   |false=>exact kat_one _ _ (lt_str h)
theorem agq(ht:cL a=cL b):wA (kV a) (kV b)=decide (a=b):=by
 cases a with
 |inl i=>
  cases b with
  |inr y=>rfl
  |inl j=>show(i==j)=_;lia
 |inr x=>
  cases b with
  |inl y=>rfl
  |inr y=>show(x==y)=_;lia
theorem Qu(a:Key):tG (kV a)=aq:=by cases a<;>rfl
theorem afb:∀{ks js:List Key}{us vs:042}{i:Nat},Vals (ks.map kV) us->Vals (js.map kV) vs->ks.map cL=js.map cL->Q (iJ ks js) s->KatLex prog w A aq aR Q (us.zip vs) i s
 |[],[],_,_,_,ra,rb,_,h=>by
  cases ra;trivial
 |[],_::_,_,_,_,_,_,e,_=>by cases e
 |_::_,[],_,_,_,_,_,e,_=>by cases e
 |a::ks,b::js,us,vs,i,ra,rb,e,h=>by
  cases ra with
  |cons r1 ra=>
   cases rb with
   |cons r2 rb=>
    have e1:=(Fi e).1;have e2:=(Fi e).2;refine kat_cons (Zy r1 r2 (Qu a) (Qu b) _ w _ _ ?_);rw[agq e1];unfold iJ at h;by_cases c:a=b
    .rw[bZ c] at h;rw[f9 c];exact kat_yes (afb ra rb e2 h)
    .rw[cC c] at h;rw[jz c];exact kat_no (apr r1 r2 e1 h)
section
variable{prog:dY}{w:cW}{A:fB}{s:bf}{vs:List aL}{κ:SortKind}{Rl:List Nat->Prop}
def Kp(a:aH)(h h':cF):Prop:=∀b o,b≠a->h.get? b=aa o->h'.get? b=aa o
theorem ad3(v:s.heap.get? a=aa (seqObj "list" vs.toArray n))(B:vs.length<64)(hg:2<=vs.length->gH vs.length lt (kas_sort vs.length) λp=>KP vs.length p/\Rl p.toList)(y:vs.length<2->Rl (gQ vs.length))
  (I:2<=vs.length->∀s':bf,Kp a s.heap s'.heap->∀Q:SortKind->bf->Prop,Q κ s'->bH 09 A (keyKind' vs.toArray) Q (λ_ _=>False) s')
  (hl:2<=vs.length->∀s':bf,Kp a s.heap s'.heap->∀i j,i<vs.length->j<vs.length->∀C:Bool->bf->Prop,C (lt i j) s'->kas_ask prog w A κ vs i j C s')
  (h:∀(p:051)(h':cF)(c:Nat),p.Perm (gQ vs.length)->Rl p->Kp a s.heap h'->h'.get? a=aa (seqObj "list" (p.map λi=>vs.getD i vp).toArray c)->P (.done (.ret .none)) {s with heap:=h'}):
  bH 09 A (qg.«list.sort» #[[.ref a],[]]) P E s:=by
 have K:a<s.heap.objs.size:=dj v
 obtain⟨e1,q⟩:∃e1,(s.heap.update a (rP λ_=>(#v[]:Array aL))).get? a=aa (seqObj "list" #v[] e1):=#[_,get?_update_seq v λ_=>#v[]]
 have sz:vs.length<=cG:=by rw[jV];lia
 have z:Kp a s.heap (((s.heap.update a (rP λ_=>(#v[]:Array aL))).push (seqObj "tuple" vs.toArray 0)).push (seqObj "list" #v[] 0)):=λb o u e=>
  dF _ (dF _ (((rK s.heap a _).2 b u).trans e))
 have t:(((s.heap.update a (rP λ_=>(#v[]:Array aL))).push (seqObj "tuple" vs.toArray 0)).push (seqObj "list" #v[] 0)).get? a=aa (seqObj "list" #v[] e1):=dF _ (dF _ q);rw[list_sort_plain];refine aQ (listItems_at v rfl (aQ (listUpdate_at v rfl (aQ (seqEpoch_at q rfl (aQ (wpAny_newTuple (aQ (NQ (m9 ?_) (lO _))) (by show vs.length<=_;exact sz))))) (by rw[u5];exact sz) (lO _))));dsimp only;have r:∀(p:051),p.Perm (gQ vs.length)->Rl p->∀out:Array aL,out=(p.map λi=>vs.getD i vp).toArray->
   P (.done (.ret .none)) {s with heap:=(((s.heap.update a (rP λ_=>(#v[]:Array aL))).push (seqObj "tuple" vs.toArray 0)).push (seqObj "list" #v[] 0)).update a (rP λ_=>out)}:=λp l g out J=>by
  subst J;refine h p _ _ l g (λb o u e=>((rK _ a _).2 b u).trans (z b o u e)) (get?_update_seq t _)
 by_cases h2:vs.toArray.size<2
 .rw[bZ h2,bZ h2];refine aQ (bM ?_);rw[StateT.run_pure];refine aQ (bM ?_);dsimp only;have M:(pairsOf vs).size<=cG:=by rw[pairsOf_size];exact sz
  refine aQ (seqEpoch_at t rfl (aQ (listUpdate_at t rfl ?_ (hsz2:=by rw[Array.size_map];show(pairsOf vs).size<=_;lia))));simp only[bne_self_eq_false,BV,if_false];refine bM (r (gQ vs.length) (Je _) (y (by simpa using h2)) _ ?_);apply Array.toList_inj.mp
  show((vs.toArray.zip vs.toArray).map (·.2)).toList=_
  rw[Array.toList_map,Array.toList_zip,List.map_snd_zip 046];show vs=_;refine Et cg λi h1 O=>?_
  simp[Gg,h1]
 .have f:2<=vs.length:=by simpa using h2
  rw[cC h2,cC h2];refine aQ (vq (I f _ z (λk s'=>k=κ/\s'={s with heap:=((s.heap.update a (rP λ_=>(#v[]:Array aL))).push (seqObj "tuple" vs.toArray 0)).push (seqObj "list" #v[] 0)}) #[rfl,rfl]) (λk N F=>?_) λ_ _ x=>x.elim)
  obtain⟨rfl,rfl⟩:=F
  refine aQ (vq (kat_run (ks:=vs) (vs:=vs) (Q:=λd s'=>∃p:Array Nat,(KP vs.length p/\Rl p.toList)/\arrOf d=p.map (kas_item (vs.toArray.zip vs.toArray))/\failedOf d=aj/\s'={s with heap:=((s.heap.update a (rP λ_=>(#v[]:Array aL))).push (seqObj "tuple" vs.toArray 0)).push (seqObj "list" #v[] 0)})
   rfl f B (G:=λp s'=>(KP vs.length p/\Rl p.toList)/\s'={s with heap:=((s.heap.update a (rP λ_=>(#v[]:Array aL))).push (seqObj "tuple" vs.toArray 0)).push (seqObj "list" #v[] 0)}) (λp d s' a1 H L a4=>⟨p,a4.1,H,L,a4.2⟩) (gH.wp (lt:=lt) (hl f _ z) (λp l=>⟨l,rfl⟩) (hg f))) ?_ λ_ _ e=>e)
  rintro⟨⟨⟩,d⟩ s' ⟨p,⟨l,g⟩,har,hf,rfl⟩
  dsimp only;have m:=kat_snds (ks:=vs) (vs:=vs) rfl har;have D:p.toList.length=vs.length:=by rw[l.length_eq,tZ]
  rw[m];refine aQ (seqEpoch_at t rfl (aQ (listUpdate_at t rfl ?_ (lO _) (by rw[u5,bR,D];lia))));rw[hf];simp only[bne_self_eq_false,BV,if_false];exact bM (r p.toList l g _ rfl)
theorem adO(m:vs.length<64)(hg:2<=vs.length->gH vs.length lt (kas_sort vs.length) λp=>KP vs.length p/\Rl p.toList)(f:vs.length<2->Rl (gQ vs.length))
  (v:∀R:List aL->bf->Prop,(∀us h1 a,s.heap.objs.size<=h1.objs.size->(∀b o,s.heap.get? b=aa o->h1.get? b=aa o)->us=vs->R us {s with heap:=h1,toks:=a})->bH 09 A.in1 (collect (.ref r)) R E s)
  (t:2<=vs.length->∀s':bf,(∀b o,s.heap.get? b=aa o->s'.heap.get? b=aa o)->∀Q:SortKind->bf->Prop,Q κ s'->bH 09 A.in1.in1 (keyKind' vs.toArray) Q (λ_ _=>False) s')
  (hl:2<=vs.length->∀s':bf,(∀b o,s.heap.get? b=aa o->s'.heap.get? b=aa o)->∀i j,i<vs.length->j<vs.length->∀C:Bool->bf->Prop,C (lt i j) s'->kas_ask prog w A.in1.in1 κ vs i j C s')
  (h:∀(p:051)(D:aH)(h':cF)(c a:Nat),p.Perm (gQ vs.length)->Rl p->s.heap.objs.size<=D->(∀b o,s.heap.get? b=aa o->h'.get? b=aa o)->h'.get? D=aa (seqObj "list" (p.map λi=>vs.getD i vp).toArray c)->Q (.ref D) {s with heap:=h',toks:=a}):
  bH 09 A (call (.builtin "sorted") [.ref r]) Q E s:=by
 refine Uu kind_sorted plain_sorted entry_sorted (args_sorted1 _) (aQ (bM (aQ (v _ λus h1 a n q x=>?_))));subst x;refine aQ (NQ ?_ (by rw[jV];lia));have d:(h1.push (seqObj "list" us.toArray 0)).get? _=aa _:=ji _ rfl;have l:=λb o e=>fH (dj (q b o e))
 have up:∀s':bf,Kp _ (h1.push (seqObj "list" us.toArray 0)) _->∀b o,s.heap.get? b=aa o->s'.heap.get? b=aa o:=λs' k b o e=>k b o (l b o e) (dF _ (q b o e))
 exact aQ (m9 (pC slot_list_sort #[_,d,rfl] entry_list_sort (ad3 d m hg f (λh2 s' k=>t h2 s' (up s' k)) (λh2 s' k=>hl h2 s' (up s' k)) λp h' c u g k e=>#[_,rfl,bM #[_,rfl,h p _ h' c a u g n (up {s with heap:=h'} k) e]]) (args_list_sort _)))
end
def vX(h:cF)(d:aH)(es:Array PX)(ep:Nat):Prop:=∃o,h.get? d=aa o/\o.ExactDict/\o.data=.dict es ep
section
variable{w:cW}{A:fB}{s:bf}{d it:aH}{ep i:Nat}
theorem vX.ty(h:vX s.heap d es ep):s.TypeIs (.ref d) "dict":=let ⟨o,ho,hc,_⟩:=h;#[o,ho,hc.1]
theorem afc(hd:(d==qH)=aR)(c:vX s.heap d es ep)
  (g:Q 048 {s with heap:=s.heap.push {cls:=.type "dict_keyiterator",data:=.fields #v[.ref d,.int 0 0,.int es.size 0,.int ep 0]}}):bH 09 A (G6 (.ref d)) Q E s:=by
 obtain⟨o,e,f,a⟩:=id c
 have b:=c.ty;refine acn b alE (pC alE b F.entry_dict_iter (aQ (aQ (ab0 b (bM ?_)))) (F.args_dict_iter_1 _));show bH _ _ (akA d >>= _) _ _ s
 unfold akA;rw[cC (c3)];refine aQ (bM (aQ (U6 e a (aQ (acF e a (aQ (qD (bM #[_,rfl,_,_,#[_,ji _ rfl,rfl],F.slot_dict_keyiterator_next.lookup,?_]))))))));trivial
theorem afd(a:s.heap.IsKeyIter it d i es.size ep)(j:vX s.heap d es ep)(g:i<es.size)
  (m:∀h',h'.IsKeyIter it d (i+1) es.size ep->vg it s.heap h'->Q (aa es[i].key) {s with heap:=h'}):bH 09 A (ux 047) Q E s:=by
 obtain⟨o,h,l,f⟩:=id a;obtain⟨n,c,k,e⟩:=id j
 unfold ux;refine aQ (Jk (BJ a.typeIs Ur (pC Ur a.typeIs aj7 ?_ (aj6 _))));refine aQ (bM (aQ (aQ ?_)))
 (refine aQ (Uq a.typeIs (bM (aQ (Jf h f ?_)))))
 refine aQ (bM (aQ (U6 c e ?_)));rw[cC cg];refine aQ (bM (aQ (acF c e ?_)));rw[cC cg];refine bM ?_;simp_all;refine aQ ?_
 (refine aQ (Uq a.typeIs (bM (aQ (akB a.typeIs ?_)))))
 show bH _ _ (setField 047 1 _ >>= _) _ _ s;refine aQ (Cm h f cg ?_);have b:(s.heap.update it (amc (·.setIfInBounds 1 (mK ((i:Int)+1))))).IsKeyIter it d (i+1) es.size ep:=#[_,zY _ h (akC (UT f _)),(ali ..).trans l,by rw[UT f];simp[mK]]
 refine aQ (m9 (aQ (akB b.typeIs ?_)));exact bM (bM #[_,rfl,bM (m _ b (rK ..))])
theorem agr(p:045)(c:s.heap.IsKeyIter it d i es.size ep)(k:vX s.heap d es ep)(g:es.size<=i)
  (n:∀h',Heap.ExtBut it s.heap h'->Q aj {s with heap:=h'}):bH 09 A (ux 047) Q E s:=by
 obtain⟨o,h,q,j⟩:=id c;obtain⟨r,e,l,f⟩:=id k
 unfold ux;refine aQ (Jk (BJ c.typeIs Ur (pC Ur c.typeIs aj7 ?_ (aj6 _))));refine aQ (bM (aQ (aQ ?_)))
 (refine aQ (Uq c.typeIs (bM (aQ (Jf h j ?_)))))
 have own:ayp "dict_keyiterator"=aR:=bh;refine aQ (bM (aQ (U6 e f ?_)));rw[cC cg];refine aQ (bM (aQ (acF e f ?_)));rw[cC cg];refine bM ?_;simp_all;refine aQ ?_
 (refine aQ (Uq c.typeIs (bM ?_)))
 show bH _ _ (setField 047 0 .none >>= _) _ _ s;refine aQ (Cm h j cg (aQ ?_));refine aQ (qD (aQ (m:=Vs _ _) (adP (a:=vp) (by first|rfl|(simp only[Vs];rfl)) (qD ?_ (by size_fits)))) (by size_fits));simp only[raiseNew];refine aQ (wpAny_handled ?_);rw[p];refine aQ (bM (wpAny_throw ?_));refine aQ (Nj (T:="StopIteration") (b:=aq) #[_,ji _ rfl,rfl] isSubtype_stop ?_);exact bM (n _ (((rK ..).extBut.push _).push _))
theorem aoc(m:045)(k:d≠it):Ay prog w A it [it,d] [it] es.size (λi v=>(es[i]?).map (·.key)=aa v) (λi h=>h.IsKeyIter it d i es.size ep/\vX h d es ep) where
 sub:=λb g=>c8
 frame:=λy y y st l=>#[st.1.at λo e=>l it cg o e,let ⟨o,ho,r⟩:=st.2;#[o,l d cg o ho,r]]
 item:=λi s Q E hi st a=>afd st.1 st.2 hi λh' c f=>a _ h' _ 07 #[c,let ⟨o,ho,r⟩:=st.2;#[o,(f.2 d k).trans ho,r]] λb o g e=>(f.2 b λz=>g 07).trans e
 done:=λs Q E st a=>agr m st.1 st.2 046 λh' j=>a h' _ λb o g e=>j b o (λz=>g 07) e
 self:=λy y y y st a=>akK st.1 a
theorem aq2(lo:(d==qH)=aR):KdlSrc prog w "dict" d d es.size (λi v=>(es[i]?).map (·.key)=aa v) (λh=>vX h d es ep) where
 type:=λk a=>a.ty
 there:=λk a=>let ⟨_,ho,_⟩:=a;#[dj ho,dj ho]
 keep:=λk k a e=>let ⟨o,ho,r⟩:=a;#[o,e d 038 o ho,r]
 notList:=rfl
 notTuple:=rfl
 hint:=λk k k k a b=>kdl_hint_dict a.ty b
 iter:=λk k c a=>#[_,_,(λk k b=>afc lo a b),aoc c (let ⟨_,ho,_⟩:=a;fH (dj ho)),#[#[_,ji _ rfl,rfl,rfl],let ⟨o,ho,r⟩:=a;#[o,dF _ ho,r]]]
theorem adQ(K:KdlSrc prog w T r d n P OK)(D:045)(k:OK s.heap)(B:n<=cG)
  (h:∀(h':cF)(j:Nat)(bu:Array aL),s.heap.objs.size<=h'.objs.size->(∀b o,s.heap.get? b=aa o->h'.get? b=aa o)->ItemsOf P bu n->R bu.toList {s with heap:=h',toks:=j}):
  bH 09 A (collect (.ref r)) R E s:=by
 have m:=K.there _ k;refine aQ (wpAny_runValue (wW entry_proto_collect' (aQ (qD (bM #[vf akk _,wW entry_list_iadd' ?_])))));have z:(s.heap.push _).get? _=aa {cls:=.type "list",data:=.seq #v[]}:=ji _ rfl;have u:=kdl_extend (s:={s with heap:=s.heap.push _}) (R:=λq s'=>∃(h':cF)(j:Nat)(a:Array _)(p:Nat),q=.ok _/\s'={s with heap:=h',toks:=j}/\(∀b o,s.heap.get? b=aa o->h'.get? b=aa o)/\h'.get? _=aa {cls:=.type _,dict:=aj,data:=.seq a p,slots:=#v[]}/\ItemsOf P a n)
  K D (K.keep _ _ k λb c o e=>dF _ e) _ (yJ m.1) (yJ m.2) 048 0 z (λh' j a p l i g=>#[h',j,_,p,rfl,rfl,λb o e=>l b o (fH (dj e)) (dF _ e),i,g]) B
 refine vq u (λt s' x=>?_) λe s' x=>?_
 .cases t with
  |done f=>
   refine hide λGG v=>?_
   obtain⟨h',j,a,p,e,rfl,l,i,g⟩:=x
   cases e;exact v (aQ (Pn i (bM (h h' j _ (wY (dj i)) l g))))
  |again c₁=>
   refine#[x.1,Og x.2 λq s₂ y=>?_]
   obtain⟨h',j,a,p,rfl,rfl,l,i,g⟩:=y
   exact aQ (Pn i (bM (h h' j _ (wY (dj i)) l g)))
 .obtain⟨c,c,c,c,C,c⟩:=x;cases C
end
theorem P0:∀{us:042}{ns:014},StrsAre us ns->Vals (ns.map V.str) us
 |_,_,.nil=>.nil
 |_,_,.cons _ t r=>.cons #[t,rfl] (P0 r)
theorem alF:jh X (.builtin "sorted") (λxs H Q=>∃(p:aH)(ns:028),xs=[.ref p]/\cA X.K H p 050/\ns.length<64/\∀(l:aH)(ns':028),H l=aj->ns'.Perm ns->ns'.Pairwise (·<=·)->Q (.ref l) (upd H l (.lst (ns'.map V.int)))):=by
 intro aC s σ H xs us Q I r h;refine hide λGG c=>?_
 obtain⟨p,ns,rfl,f,g,q⟩:=h
 obtain⟨u,rfl,j⟩:=vals1 r
 cases j
 obtain⟨n,b,d,_⟩:=I.list f
 have hi:=intsAre_of b;have hl:=b.length;rw[bR] at hl;refine c (sorted_ints d.isList hi aK λout ns' a1 a k=>?_)
 obtain⟨e,i⟩:=sortedAll_at _ _ _
 have m:ns'.length<=cG:=by rw[a.length_eq,jV];lia
 exact#[.ref _,_,I.laid (o:=.lst _) (λ_ _=>sortedAll_old) (Ad _) #[by grind,_,e,PN a1,by simpa[seqObj] using i],rfl,q _ _ (I.hok.fresh (Ad _)) a k]
theorem alG:jh X (.builtin "sorted") (λxs H Q=>∃(p:aH)(ns:014),xs=[.ref p]/\cA X.K H p (ns.map V.str)/\ns.length<64/\∀(l:aH)(ns':014),H l=aj->ns'.Perm ns->sortedS ns'=aq->Q (.ref l) (upd H l (.lst (ns'.map V.str)))):=by
 intro aC s σ H xs us Q I r h;refine hide λGG c=>?_
 obtain⟨p,ns,rfl,f,g,q⟩:=h
 obtain⟨u,rfl,j⟩:=vals1 r
 cases j
 obtain⟨n,b,d,_⟩:=I.list f
 have hi:=Pu b;have hl:=b.length;rw[bR] at hl;refine c (sorted_strs d.isList hi aK λout ns' a1 a k=>?_)
 obtain⟨e,i⟩:=sortedAll_at _ _ _
 have m:ns'.length<=cG:=by rw[a.length_eq,jV];lia
 exact#[.ref _,_,I.laid (o:=.lst _) (λ_ _=>sortedAll_old) (Ad _) #[by grind,_,e,P0 a1,by simpa[seqObj] using i],rfl,q _ _ (I.hok.fresh (Ad _)) a k]
theorem jZ.jl(r:jZ k A):A.units+2<fJ:=by have:=r.un;lia
abbrev Row:=aH×List Key
def TupAt(h:cF)(r:Row):Prop:=∃aN,Vals (r.2.map kV) aN/\IsTup h r.1 aN.toArray
theorem TupAt.keep(t:TupAt h r)(k:∀b o,h.get? b=aa o->h'.get? b=aa o):TupAt h' r:=by
 obtain⟨a,v,o,e,c⟩:=t
 exact#[_,v,o,k _ _ e,c]
theorem ags:∀{aY:056},(∀r∈aY,TupAt h r/\r.2.map cL=b::sh)->∃fs,KatTups h (aY.map λr=>fY r.1) fs/\fs.length=aY.length/\∀f∈fs,∃k,RelV (kV k) f/\cL k=b
 |[],_=>#[[],KatTups.nil,rfl,cg]
 |r::aY,ha=>by
  obtain⟨fs,t,l,g⟩:=ags λq i=>ha q (fU _ i)
  obtain⟨⟨m,v,o,e,c,n,d⟩,s⟩:=ha r fV
  obtain⟨a,ks⟩:=r
  cases ks with
  |nil=>cases s
  |cons k ks=>
   cases v with
   |@cons _ u _ us v1 v2=>
    refine#[u::fs,KatTups.cons e c d (rfl) t,by simp_all,λf j=>?_]
    grind
theorem aod(r:RelV (kV k) f)(e:cL k=b):Looks M h (typeOf f) (if b=aq then .type "int" else .type "str"):=by
 subst e;cases k with
 |inl i=>obtain⟨t,rfl⟩:=r;exact Looks.of_pure rfl
 |inr i=>obtain⟨t,rfl⟩:=r;exact Looks.of_pure rfl
theorem afe(aY:056)(hi:i<aY.length):(aY.map λr=>fY r.1).getD i vp=.ref aY[i].1:=by simp_all
def rowAt(aY:056)(i:Nat):List Key:=((aY[i]?).map (·.2)).getD []
theorem W9{w:cW}{A:fB}{s':bf}{aY:056}{b:Bool}(c:∀r∈aY,TupAt s'.heap r/\r.2.map cL=b::sh)(d:0<aY.length)(Q:SortKind->bf->Prop)(q:Q (tuples' aq) s'):
  bH 09 A (keyKind' (aY.map λr=>fY r.1).toArray) Q (λ_ _=>False) s':=by
 obtain⟨fs,t,l,g⟩:=ags c
 refine kat_kind (T:=if b=aq then .type "int" else .type "str") t c4 (λv a=>?_) 07 (by cases b<;>exact q)
 obtain⟨k,r,e⟩:=g v a
 exact aod r e
theorem aq3(f:∀r∈aY,TupAt s'.heap r/\r.2.map cL=sh)(hi:i<aY.length)(b:j<aY.length)(C:Bool->bf->Prop)(q:C (iJ (rowAt aY i) (rowAt aY j)) s'):
  kas_ask prog w A (tuples' aq) (aY.map λr=>fY r.1) i j C s':=by
 obtain⟨⟨k,v,o,e,c,n,d⟩,s1⟩:=f _ (BZ hi)
 obtain⟨⟨a,v2,p,e2,c2,n2,h⟩,g⟩:=f _ (BZ b)
 unfold kas_ask;rw[afe _ hi,afe _ b];have t:=v.length;have s:=v2.length;have u:=by
  have:=congrArg sW (s1.trans g.symm);simpa using this
 refine kat_lt e d e2 h ?_;have m:decide (k.toArray.size<a.toArray.size)=aR:=by simp_all
 rw[m];have l:C (iJ aY[i].2 aY[j].2) s':=by
  unfold rowAt at q
  simp_all
 exact afb (by simpa using v) 07 (s1.trans g.symm) l
theorem Qa{aY:056}{p:051}(h:p.Perm (gQ aY.length)):(p.map λi=>aY.getD i (0,[])).Perm aY:=by
 have e:(gQ aY.length).map (λi=>aY.getD i (0,[]))=aY:=Et cg λi h1 h2=>by simp_all
 grind
theorem Xa{aY:056}{p:051}(h:p.Perm (gQ aY.length)):(p.map λi=>(aY.map λr=>fY r.1).getD i vp)=(p.map λi=>aY.getD i (0,[])).map λr=>fY r.1:=by
 rw[dJ];refine wR λi hi=>?_
 grind
theorem agt:∀{aY:056}{us:042},Vals (aY.map λr=>V.ref r.1) us->us=aY.map λr=>fY r.1
 |[],_,h=>by cases h;rfl
 |r::aY,_,h=>by
  cases h with
  |cons a b=>
   cases a;rw[agt b];rfl
theorem Qc:∀(aY:056),Vals (aY.map λr=>V.ref r.1) (aY.map λr=>fY r.1)
 |[]=>.nil
 |r::aY=>.cons rfl (Qc _)
theorem XN(A:fB)(s:bf)(d:RelV (kV a) u)(c:RelV (kV b) v)(ht:cL a=cL b):Cz A s u v (decide (a=b)):=by
 rw[<-agq ht];exact Zy d c (Qu a) (Qu b)
theorem Qv(A:fB)(s:bf)(d:RelV (kV a) u)(c:RelV (kV b) v)(ht:cL a=cL b)(prog:dY)(w:cW)(E:015)(Q:015)(h:Q (.bool (kLt a b)) s):
  bH 09 A (Js .Lt u v) Q E s:=by
 cases a with
 |inl i=>
  cases b with
  |inr y=>trivial
  |inl j=>
   obtain⟨t,rfl⟩:=d
   obtain⟨e,rfl⟩:=c
   exact(lt_int h)
 |inr x=>
  cases b with
  |inl y=>trivial
  |inr y=>
   obtain⟨t,rfl⟩:=d
   obtain⟨e,rfl⟩:=c
   exact lt_str h
section
open PySem.SeqAt
open PySem.AutoSeq1 (wpAny_loadPart')
open PySem.MeetsSeq PySem.MeetsSeq2 PySem.MeetsSeq3
theorem amd(l b:aH)(items items2:Array aL)(n n2:Nat)(v r:Option aH)(sl q:Array (Option aL))(ns i:List Key)(hi:Vals (ns.map kV) items.toList)(u:Vals (i.map kV) items2.toList)(j:ns.map cL=i.map cL):
  Meets (qg.«tuple.__lt__» #[[.ref l,.ref b],[]])
   (λ_ R s=>s.heap.get? l=aa {cls:=.type "tuple",dict:=v,data:=.seq items n,slots:=sl}/\s.heap.get? b=aa {cls:=.type "tuple",dict:=r,data:=.seq items2 n2,slots:=q}/\R (.ok (.ret (.bool (iJ ns i)))) s):=
 .of_wp λprog w A R s h=>by
  obtain⟨m,g,d,o,k⟩:=s;obtain⟨hl,B,h⟩:=h
  have F:=akg;have G:ns.length=i.length:=by have:=congrArg sW j;simpa using this
  have D:items.size=ns.length:=by have:=hi.length;rw[bR] at this;simpa using this.symm
  have E:items2.size=i.length:=by have:=u.length;rw[bR] at this;simpa using this.symm
  wp_walk using sV hl,sV B,acr _ (λrest b s'=>b.1=aj/\s'=⟨m,g,d,o,k⟩/\∃(vs ws:042)(ns' e:List Key),rest=vs.zip ws/\
   Vals (ns'.map kV) vs/\Vals (e.map kV) ws/\ns'.map cL=e.map cL/\R (.ok (.ret (.bool (iJ ns' e)))) ⟨m,g,d,o,k⟩) _
  case turn=>
   rintro⟨y,x⟩ rest b s' ⟨hb',rfl,vs,ws,ns',e,hz,TQ,hwi,hlen,hR⟩
   cases ns' with
   |nil=>cases TQ;rw[List.zip_nil_left] at hz;cases hz
   |cons a ns'=>
    cases e with
    |nil=>cases hlen
    |cons c e=>
     cases TQ with
     |cons r1 aiU=>
      cases hwi with
      |cons r2 aiV=>
       rw[UW] at hz;injection hz with hyx hrest
       injection hyx with hy hx
       subst hy hx;have t:cL a=cL c:=(Fi hlen).1;have C:=(Fi hlen).2;unfold iJ at hR;refine aQ (XN A.in1 #[m,g,d,o,k] r1 r2 t prog w _ _ ?_);by_cases f:a=c
       .rw[bZ f] at hR;rw[f9 f];wp_walk
        exact#[rfl,rfl,_,_,_,_,hrest,aiU,aiV,C,hR]
       .rw[cC f] at hR;rw[jz f];have p:=Qv A.in1 #[m,g,d,o,k] r1 r2 t prog w;wp_walk using p
        exact#[_,rfl,by simpa using hR]
  case fin=>
   rintro⟨b1,b2⟩ s' ⟨hb',rfl,vs,ws,ns',e,hz,TQ,hwi,hlen,hR⟩
   simp only at hb';subst hb';have z:iJ ns' e=decide (items.size<items2.size):=by
    rw[jz aK];cases ns' with
    |nil=>unfold iJ;rfl
    |cons a ns'=>
     cases e with
     |nil=>cases hlen
     |cons c e=>
      cases TQ with
      |cons r1 aiU=>
       cases hwi with
       |cons r2 aiV=>
        rw[UW] at hz;cases hz
   rw[z] at hR;wp_walk
   exact#[_,rfl,by simpa[aj5] using hR]
  case h=>
   exact#[rfl,rfl,items.toList,items2.toList,ns,i,rfl,hi,u,j,h]
end
theorem ad4(hl:IsTup s.heap l items)(o:IsTup s.heap b items2)(hi:Vals (ns.map kV) items.toList)(p:Vals (ms.map kV) items2.toList)(e:ns.map cL=ms.map cL)
  (hu:A.units<fJ)(h:Q (.bool (iJ ns ms)) s):bH 09 A (iu .Lt (.ref l) (.ref b)) Q E s:=by
 obtain⟨⟨cls,m,data,sl⟩,k,i,n,j⟩:=id hl
 obtain⟨⟨g,q,f,r⟩,a,c,n2,d⟩:=id o
 simp_all;exact abW (op:=.Lt) #[_,k,rfl] #[_,a,rfl] akD aks (akl _ _) (amd l b _ _ n n2 m _ sl _ ns ms hi p e)
  #[k,a,#[(λx=>nomatch x),h]] hu
mutual
def RX(H:Hp):az->V->Prop
 |.none,v=>v=.non
 |.bool b,v=>v=.bl b
 |.int i,v=>v=.int i
 |.str x,v=>v=.str x
 |.list ds,v=>∃a vs,v=.ref a/\H a=aa (.lst vs)/\zN H ds vs
 |.tuple ds,v=>∃a vs,v=.ref a/\H a=aa 039/\zN H ds vs
 |.dict _,_=>False
def zN(H:Hp):List az->List V->Prop
 |[],vs=>vs=[]
 |d::ds,vs=>∃v r,vs=v::r/\RX H d v/\zN H ds r
end
mutual
theorem RX.rd{K:bw}:∀{d:az}{v:V},RX H d v->RD K H d v
 |.none,_,h=>h
 |.bool _,_,h=>h
 |.int _,_,h=>h
 |.str _,_,h=>h
 |.list ds,_,h=>by
  obtain⟨a,vs,e,q,r⟩:=h
  exact#[a,vs,e,cA.of q,zN.rd r]
 |.tuple ds,_,h=>by
  obtain⟨a,vs,e,q,r⟩:=h
  exact#[a,vs,e,dW.of q,zN.rd r]
theorem zN.rd{K:bw}:∀{ds:036}{vs:041},zN H ds vs->sH K H ds vs
 |[],_,h=>h
 |d::ds,vs,h=>by
  obtain⟨v,r,e,q,t⟩:=h
  exact#[v,r,e,RX.rd q,zN.rd t]
end
def TV:az->aL
 |.none=>.type "NoneType"
 |.bool _=>.type "bool"
 |.int _=>.type "int"
 |.str _=>.type "str"
 |.list _=>.type "list"
 |.tuple _=>.type "tuple"
 |.dict _=>.type "dict"
theorem RX.ty{K:bw}{v:V}(h:RX H d v):nF K H v (TV d):=by
 cases d with
 |none=>cases h;exact .non
 |bool b=>cases h;exact .bl b
 |int i=>cases h;exact .int i
 |str x=>cases h;exact .str x
 |list ds=>obtain⟨a,vs,rfl,e,_⟩:=h;exact .lst e
 |tuple ds=>obtain⟨a,vs,rfl,e,_⟩:=h;exact .tup e
 |dict ds=>trivial
theorem anj(hu:X.A.units<fJ):dX X (iu .Lt) (λx y H Q=>∃a b ks js,x=.ref a/\y=.ref b/\H a=aa (.tup (ks.map kV))/\H b=aa (.tup (js.map kV))/\ks.map cL=js.map cL/\Q (.bl (iJ ks js)) H):=by
 intro aC s σ H x y v u Q I rx d h
 obtain⟨a,b,ks,js,rfl,rfl,f,e,ht,q⟩:=h
 cases rx;cases d
 obtain⟨_,g,i,p1⟩:=(I.hok a _ f)
 obtain⟨_,c,j,p2⟩:=(I.hok b _ e)
 exact ad4 p1 p2 (c3) 07 ht hu (iW I q rfl)
theorem Px(hu:X.A.units<fJ):dX X (iu .Lt) (λx y H Q=>(∃a b,x=kV a/\y=kV b/\cL a=cL b/\Q (.bl (kLt a b)) H)\/∃a b ks js,x=.ref a/\y=.ref b/\H a=aa (.tup (ks.map kV))/\H b=aa (.tup (js.map kV))/\ks.map cL=js.map cL/\Q (.bl (iJ ks js)) H):=by
 refine dX.or ?_ (anj hu);intro aC s σ H x y v u Q I rx c h
 obtain⟨a,b,rfl,rfl,ht,q⟩:=h
 exact Qv _ s rx c ht _ _ _ _ (iW I q rfl)
structure Ord(lt:Nat->Nat->Bool):Prop where
 aiW:∀a b,lt a b=aq->lt b a=aR
 trans:∀a b c,lt b a=aR->lt c b=aR->lt c a=aR
section
variable{N:Nat}{lt:Nat->Nat->Bool}(O:Ord lt)
abbrev at0(p:Array Nat)(i:Nat):Nat:=p.getD i 0
def Up(lt:Nat->Nat->Bool)(p:Array Nat)(n:Nat):Prop:=∀i j,i<j->j<n->lt (at0 p j) (at0 p i)=aR
include O
end
theorem aq4(h:kLt a b=aq):kLt b a=aR:=by
 cases a with
 |inl i=>
  cases b with
  |inr y=>rfl
  |inl j=>have:=of_decide_eq_true h;exact jz aK
 |inr x=>
  cases b with
  |inl y=>rfl
  |inr y=>exact KeyOrd.klt_asymm (O:=strKind.toKeyOrd) h
theorem atp(d:cL a=cL b)(e:cL b=cL c)(h:kLt a c=aq):kLt a b=aq\/kLt b c=aq:=by
 cases a with
 |inl i=>
  cases b with
  |inr y=>trivial
  |inl j=>
   cases c with
   |inr y=>trivial
   |inl k=>
    have h1:=of_decide_eq_true h;by_cases h2:i<j
    .exact .inl (f9 h2)
    .exact .inr (f9 aK)
 |inr x=>
  cases b with
  |inl y=>trivial
  |inr y=>
   cases c with
   |inl k=>trivial
   |inr z=>exact strKind.negTrans _ _ _ h
theorem str_of_list{x y:Str}(h:x.cps.toList=y.cps.toList):x=y:=by
 cases x;simp_all
theorem atq(t:cL a=cL b)(h1:kLt a b=aR)(h2:kLt b a=aR):a=b:=by
 cases a with
 |inl i=>
  cases b with
  |inr y=>cases t
  |inl j=>
   have d:=of_decide_eq_false h1;have c:=of_decide_eq_false h2
   grind
 |inr x=>
  cases b with
  |inl y=>cases t
  |inr y=>
   have:=strKind.total _ _ h1 h2;rw[str_of_list this]
def zc(aY:056)(i:Nat):List Key:=(aY.getD i (aY.headD (0,[]))).2
def pL(aY:056)(i j:Nat):Bool:=iJ (zc aY i) (zc aY j)
def runK{α:Type}(lt:Nat->Nat->Bool):KasT α->α
 |.ret a=>a
 |.ask i j k=>runK lt (k (lt i j))
theorem gH.run:∀{t:KasT α},gH N lt t R->gH N lt t (λa=>R a/\a=runK lt t)/\R (runK lt t)
 |.ret a,h=>#[#[h,rfl],h]
 |.ask i j k,h=>let r:=gH.run h.2.2;#[#[h.1,h.2.1,r.1],r.2]
def uL(ks:List (List Key)):List Nat:=if ks.length<2 then gQ ks.length else(runK (λi j=>iJ (ks.getD i (ks.headD [])) (ks.getD j (ks.headD []))) (kas_sort ks.length)).toList
def vY(ks:List (List Key)):List (List Key):=(uL ks).map λi=>ks.getD i (ks.headD [])
theorem aoe(ks:List (List Key)):(uL ks).Perm (gQ ks.length):=by
 unfold uL;split
 .rfl
 .exact(gH.run (agp c4)).2
theorem aof(ks:List (List Key)):(vY ks).Perm ks:=by
 have:=(aoe ks).map λi=>ks.getD i (ks.headD [])
 refine this.trans (alT (Et c8 λi h1 h2=>?_));simp[*]
theorem Qw(aY:056)(i:Nat):zc aY i=(026).getD i ((026).headD []):=by
 unfold zc;cases h:aY[i]? with
 |none=>cases aY<;>simp_all [Gg]
 |some r=>simp_all
theorem Xb(b:n=aY.length)(h2:2<=n):gH n (pL aY) (kas_sort n) λp=>KP n p/\p.toList=uL 026:=by
 have e:pL aY=λi j=>iJ ((026).getD i ((026).headD [])) ((026).getD j ((026).headD [])):=by
  funext i j;rw[pL,Qw,Qw]
 refine(gH.run (agp aK)).1.mono λp a=>#[a.1,?_]
 unfold uL
 grind
theorem WN{aY:056}(a:n=aY.length)(h:n<2):gQ n=uL 026:=by
 subst a;unfold uL;simp[*]
theorem YC{aY:056}(h:p.Perm (gQ aY.length))(a:p=uL 026):(p.map λi=>aY.getD i (0,[])).map (·.2)=vY 026:=by
 unfold vY;rw[<-a,dJ];refine wR λi hi=>?_
 grind
theorem XQ(b:∀r∈aY,TupAt s'.heap r/\r.2.map cL=sh)(hi:i<aY.length)(a:j<aY.length)(C:Bool->bf->Prop)(q:C (pL aY i j) s'):
  kas_ask prog w A (tuples' aq) (aY.map λr=>fY r.1) i j C s':=by
 refine aq3 b hi a C ?_;have e1:zc aY i=rowAt aY i:=by simp[zc,rowAt,Gg,hi]
 have e2:zc aY j=rowAt aY j:=by simp[zc,rowAt,Gg,a]
 unfold pL at q;simp_all
theorem alj:jh X (.builtin "sorted") (λxs H Q=>∃(p:aH)(aY:056)(b:Bool)(sh:List Bool),xs=[.ref p]/\cA X.K H p (aY.map λr=>V.ref r.1)/\aY.length<64/\(∀r∈aY,H r.1=aa (.tup (r.2.map kV))/\r.2.map cL=b::sh)/\
  ∀(l:aH)(rows':List Row),H l=aj->rows'.Perm aY->rows'.map (·.2)=vY (aY.map (·.2))->Q (.ref l) (upd H l (.lst (rows'.map λr=>V.ref r.1)))):=by
 intro aC s σ H xs us Q I r h
 obtain⟨p,aY,b,sh,rfl,E,n,y,q⟩:=h
 obtain⟨u,rfl,K⟩:=vals1 r
 cases K
 obtain⟨z,G,A,_⟩:=I.list E
 have J:=agt G;subst J;have f:∀r∈aY,TupAt s.heap r/\r.2.map cL=b::sh:=λr d=>by
  obtain⟨_,z,v,t⟩:=(I.hok r.1 _ (y r d).1)
  exact#[#[z,v,t],(y r d).2]
 refine adO (κ:=tuples' aq) (lt:=pL aY) (Rl:=λp=>p=uL 026) (by simpa using n) (λh2=>Xb (by rw[bR]) h2) (λh2=>WN (by rw[bR]) h2) (λR F=>?_) (λh2 s' k Q' m=>W9 (λr d=>#[(f r d).1.keep k,(f r d).2]) (by rw[bR] at h2;lia) Q' m)
  (λh2 s' k i j hi B C m=>XQ (sh:=b::sh) (λr d=>#[(f r d).1.keep k,(f r d).2]) (by simpa using hi) (by simpa using B) C m) λp D h' c L a g x k e=>?_
 .refine collect_list A.isList (F _ _ s.toks ?_ (λb o e=>?_) rfl)
  .rw[Heap.size_update,size_push'];simp
  .have w:b≠s.heap.objs.size:=fH (dj e);rw[Heap.get?_update_ne _ _ _ _ w];exact dF _ e
 .rw[bR] at a;rw[Xa a] at e
  refine#[.ref D,_,I.laid (o:=.lst _) k x #[?_,_,c,Qc _,by simpa[seqObj] using e],rfl,q D _ (I.hok.fresh x) (Qa a) (YC a g)]
  rw[bR,bR,a.length_eq,tZ,jV];lia
theorem acG(hc:035):jh X (.builtin "sorted") (λxs H Q=>∃(d:aH)(au:List (TK×V))(b:Bool)(sh:List Bool),xs=[.ref d]/\Eb H d au/\au.length<64/\(∀n∈au,n.1.2=aj/\n.1.1.map cL=b::sh)/\
  ∀(l:aH)(aY:List Row),H l=aj->(aY.map (·.2)).Perm (au.map (·.1.1))->aY.map (·.2)=vY (au.map (·.1.1))->(∀r∈aY,H r.1=aa (.tup (r.2.map kV)))->Q (.ref l) (upd H l (.lst (aY.map λr=>V.ref r.1)))):=by
 intro aC s σ H xs us Q I r h
 obtain⟨d,au,b,sh,rfl,K,E,B,q⟩:=h
 obtain⟨u,rfl,ru⟩:=vals1 r
 cases ru
 obtain⟨z,lo,ys,G,o,es,ep,Y,g2,T,L,g5,Z⟩:=Ax I.hok K
 have w:vX s.heap d es ep:=#[o,Y,g2,T]
 obtain⟨aY,x,U,P⟩:∃aY:List Row,aY.map (·.2)=au.map (·.1.1)/\(∀r∈aY,H r.1=aa (.tup (r.2.map kV)))/\es.toList.map (·.key)=aY.map λr=>fY r.1:=by
  have O:∀n∈au,n.1.2=aj:=λn m=>(B n m).1
  clear g5 Z E B q z K;rw[L];clear L w T;induction G with
  |nil=>exact#[[],rfl,cg,rfl]
  |@cons p q ps qs h t ih=>
   obtain⟨aY,a1,W,a3⟩:=ih λn m=>O n (fU _ m)
   refine#[(q.2.1,p.1.1)::aY,by simp[a1],λr a=>?_,?_]
   .rcases cB.mp a with rfl|a
    .have e:=O p fV
     obtain⟨⟨ks,o⟩,v⟩:=p
     cases show o=aj from e
     exact h.2.1
    .exact W r a
   .rw[dN,dN,a3];rfl
 have S:aY.length=au.length:=by
  have:=congrArg sW x;simpa using this
 have hes:es.size=aY.length:=by
  have:=congrArg sW P;simpa using this
 have y:∀r∈aY,TupAt s.heap r/\r.2.map cL=b::sh:=λr a=>by
  obtain⟨_,aN,v,t⟩:=(I.hok r.1 _ (U r a))
  have:r.2∈au.map (·.1.1):=by rw[<-x];exact dG.mpr #[r,a,rfl]
  obtain⟨n,hk,e⟩:=dG.mp this
  exact#[#[aN,v,t],by rw[<-e];exact(B n hk).2]
 refine adO (κ:=tuples' aq) (lt:=pL aY) (vs:=aY.map λr=>fY r.1) (Rl:=λp=>p=uL 026) (by rw[bR];lia) (λh2=>Xb (by rw[bR]) h2) (λh2=>WN (by rw[bR]) h2) (λR hR=>?_) (λh2 s' k Q' A=>W9 (λr a=>#[(y r a).1.keep k,(y r a).2]) (by rw[bR] at h2;lia) Q' A)
  (λh2 s' k i j hi hj C A=>XQ (sh:=b::sh) (λr a=>#[(y r a).1.keep k,(y r a).2]) (by simpa using hi) (by simpa using hj) C A) λp D h' c N f F M k e=>?_
 .refine adQ (aq2 (es:=es) (ep:=ep) lo) (I.ok.hd hc) w (by rw[jV];lia) λh' N bu J kk g=>hR _ h' N J kk (aco λi=>?_)
  by_cases hi:i<es.size
  .have e1:bu.size=es.size:=g.1;have:=g.2 i (bu[i]'aK) (by simp[e1,hi]);rw[ab1,oJ aK];rw[<-this,<-P,jN,ab1]
  .have e1:bu.size=es.size:=g.1;rw[ab2 (by simp;lia),ab2 (by simp;lia)]
 .rw[bR] at f;rw[Xa f] at e
  refine#[.ref D,_,I.laid (o:=.lst _) k M #[?_,_,c,Qc _,by simpa[seqObj] using e],rfl,q D _ (I.hok.fresh M) (((Qa f).map _).trans (by rw[x])) ((YC f F).trans (by rw[x])) λr a=>U r ((Qa f).mem_iff.mp a)]
  rw[bR,bR,f.length_eq,tZ,jV];lia
abbrev aaP:=List (Option az)
def er(Z:040)(H:Hp):Hp:=λb=>if b∈Z then aj else H b
theorem jB(h:er Z H b=aa o):H b=aa o:=by
 unfold er at h;simp_all
theorem vN(Z:040)(H:Hp):cI (er Z H) H:=λb o h=>jB h
theorem YD(s:cI H H'):cI (er Z H) (er Z H'):=λb o h=>by
 unfold er at h⊢;split at h
 .lia
 .rename_i n;rw[cC n];exact s _ _ h
end L2
namespace HT
open PySem PySem.Spec PyProof.Rows
theorem akV{t sl:aH}{g e:aL}{lo hi:Option Int}(ht:IsTup s.heap t items)(hs:s.heap.IsSliceOf sl g e .none)(i:xH g lo)(l:xH e hi)
  (f:fD items.size 0 lo=0/\fD items.size items.size hi=items.size)(h:Q (.ref t) s):bH 09 A (Dc (.ref t) (.ref sl)) Q E s:=by
 obtain⟨k,c,d,j⟩:=id hs
 have b:s.TypeIs (.ref sl) _:=#[k,c,d]
 unfold Dc
 try with_reducible refine m9 ?_
 refine aQ (alh ht.typeIs bh (aQ (BJ (name:=gV "__getitem__") ht.typeIs Uo
  (pC Uo ht.typeIs entry_tuple_getitem ?_ (args_tuple_getitem _ _)))))
 show bH _ _ (abL _ >>= _) _ _ s;refine aQ (tupleItemsOf_ ht (aQ (Ft b ?_)));refine aQ (acu hs i l ?_);have a:(((fD items.size 0 lo:Int)==0&&(1:Int)==1&&(fD items.size items.size hi-fD items.size 0 lo)==items.size)=aq):=by
  rw[f.1,f.2];simp
 show bH _ _ (if((fD items.size 0 lo:Int)==0&&1==1&&(fD _ _ hi-fD _ 0 lo)==items.size)=aq then _ else _) _ _ s;rw[bZ a];exact aQ (aQ (Ft ht.typeIs (bM (aQ (wZ (bM #[_,rfl,bM h]))))))
end HT
namespace L2
open PySem PySem.Spec PyProof.Rows PySem.W
section
variable{X:Cx}
def av5(K:bw):V->Option Int->Option Int->Hp->VK->Prop:=λx lo hi H Q=>∃a xs,x=.ref a/\dW K H a xs/\(zF xs lo hi=xs->Q 043 H)/\∀p,H p=aj->Q (.ref p) (upd H p (.tup (zF xs lo hi)))
theorem aq5:zM X (av5 X.K):=by
 intro aC s σ H x v l j lo hi sl Q I rx hs d f h
 obtain⟨a,xs,rfl,e,i,g⟩:=h
 by_cases c:HT.fD xs.length 0 lo=0/\HT.fD xs.length xs.length hi=xs.length
 .cases rx
  obtain⟨k,r,ht,m⟩:=I.tuple e
  have b:k.toArray.size=xs.length:=r.length.symm
  refine #["tuple",_,PyProof.Rows.slot_tuple_getitem.lookup,ht.typeIs,HT.akV ht hs d f (by rw[b];exact c) #[.ref a,H,I,rfl,i ?_]]
  unfold zF
  simp_all
 .exact ata _ s σ H _ v l j lo hi sl Q I rx hs d f #[a,xs,rfl,e,c,g]
end
end L2
namespace HT
open PySem PySem.Spec PyProof.Rows
open Sem (wp)
open Builtin
end HT
namespace L2
open PySem PySem.Spec PyProof.Rows PySem.W
section
variable{Γ:aaP}{K:bw}
end
section
variable{Γ:aaP}{K:bw}
end
section
variable{Γ:aaP}{K:bw}
end
section
variable{X:Cx}
theorem ank(hu:X.A.units+64<fJ):dX X (iu .NotEq) (λx y H Q=>∃d e,RX H d x/\RX H e y/\jk d=aq/\jk e=aq/\Q (.bl (!PyData.eqv d e)) H):=by
 intro aC s σ H x y v u Q I rx a h
 obtain⟨d,e,f,c,h1,h2,q⟩:=h
 obtain⟨as,g⟩:=RD.reads I (f.rd ) rx
 obtain⟨bs,b⟩:=RD.reads I (c.rd ) a
 exact ne_dataH g b h1 h2 hu #[.bl _,H,I,rfl,q]
end
theorem Q4{xs:Array Nat}(h:xs.toList.Pairwise (·<·))(a:i<k)(b:k<xs.size):xs.getD i d<xs.getD k d:=by
 have h1:=M5.mp h i k 07 07 a;have hi:=Cu a b;simp_all
theorem XR(h:xs.toList.Pairwise (·<·)):∀f lo hi,lo<=hi->hi<=xs.size->hi-lo<=f->(∀i,i<lo->xs.getD i j<j)->(∀i,hi<=i->i<xs.size->j<=xs.getD i j)->
  Ni xs j f lo hi<=xs.size/\(∀i,i<Ni xs j f lo hi->xs.getD i j<j)/\∀i,Ni xs j f lo hi<=i->i<xs.size->j<=xs.getD i j
 |0,lo,hi,h1,h2,h3,h4,h5=>by
  unfold Ni
  exact#[c4,h4,λi a b=>h5 i aK b]
 |f+1,lo,hi,h1,h2,h3,h4,h5=>by
  unfold Ni;by_cases c:lo<hi
  .rw[bZ c];by_cases g:xs.getD ((lo+hi) / 2) j<j
   .rw[bZ g];refine XR h f _ _ c4 h2 c8 (λi k=>?_) h5;by_cases e:i=(lo+hi) / 2
    .rwa [e]
    .exact Cu (Q4 h c4 c4) g
   .rw[cC g];refine XR h f _ _ c4 c4 c4 h4 (λi k hs=>?_);by_cases e:i=(lo+hi) / 2
    .simp_all
    .have:=Q4 (d:=j) h (show(lo+hi) / 2<i by lia) hs;lia
  .rw[cC c]
   exact#[c4,h4,λi a b=>h5 i c4 b]
theorem Xc(j:Nat)(h:xs.toList.Pairwise (·<·)):mW xs j<=xs.size/\(∀i,i<mW xs j->xs.getD i j<j)/\∀i,mW xs j<=i->i<xs.size->j<=xs.getD i j:=
 XR h _ 0 _ (lO _) 046 c4 (λi hi=>c4) (λi a b=>c3)
theorem agu(h:xs.toList.Pairwise (·<·)):mW xs 0=0:=by
 obtain⟨_,b,_⟩:=Xc 0 h
 cases e:mW xs 0 with
 |zero=>rfl
 |succ n=>have:=b 0 c4;lia
theorem ad5(h:xs.toList.Pairwise (·<·))(hi:i<xs.size):mW xs (xs[i]+1)=i+1:=by
 obtain⟨a,b,c⟩:=Xc _ h
 have e:∀k d,(j:k<xs.size)->xs.getD k d=xs[k]:=λk d j=>by rw[By,oJ j];rfl
 have mono:∀p q,(g:p<xs.size)->(f:q<xs.size)->p<q->xs[p]<xs[q]:=λp q g f l=>by
  have:=Q4 (d:=0) h l f
  rwa [e p 0 g,e q 0 f] at this
 by_cases h1:mW xs (xs[i]+1)<=i
 .have:=c i h1 hi;rw[e i _ hi] at this;lia
 .by_cases h2:mW xs (xs[i]+1)=i+1
  .exact h2
  .have hs:i+1<xs.size:=aK;have:=b (i+1) aK;rw[e _ _ hs] at this;have:=mono i _ hi hs aK;lia
structure jE(b:Bool)(t:CQ):Prop where
 led:t.led=b
 dum:t.dummies=#v[]
 ris:t.place.toList.Pairwise (·<·)
theorem jE.standIn(h:jE b t)(n:Nat):jE b (t.standIn n):=#[h.led,rfl,by simpa[SetTable.standIn] using abX]
theorem jE.orStandIn(h:jE b t)(n:Nat):jE b (t.orStandIn n):=by
 unfold SetTable.orStandIn;split
 .exact h
 .exact h.standIn n
theorem has_none(j:Nat):amz #v[] j=aR:=rfl
theorem ad6(hd:t.dummies=#v[])(f:Nat->Int)(h:Int):∀fuel (p:SetTable.Probe) j d,p.dummy=aj->alk t f h fuel p=aa (.empty j d)->d=aj/\t.slot j=.empty
 |0,p,j,d,_,e=>by trivial
 |fuel+1,p,j,d,hp,e=>by
  unfold alk at e;have a:(t.advance p).dummy=aj:=by
   unfold SetTable.advance
   lia
  cases hs:t.slot p.j with
  |empty=>
   simp_all
  |dummy=>
   unfold ame at hs;rw[hd] at hs;simp only[has_none] at hs
   lia
  |live i=>
   rw[hs] at e;simp only at e;split at e
   .lia
   .exact ad6 hd f h _ _ j d a e
theorem anl(h:xs.toList.Pairwise (·<·))(p:xs[mW xs j]?≠aa j):(SetTable.insertAt xs (mW xs j) j).toList.Pairwise (·<·):=by
 obtain⟨a,b,c⟩:=Xc j h
 rw[SetTable.toList_insertAt];have h':=h;rw[<-List.take_append_drop _ xs.toList,Uz] at h'
 obtain⟨h1,h2,o⟩:=h'
 have e:∀k d,(l:k<xs.size)->xs.getD k d=xs.toList[k]'(by simpa using l):=λk d l=>by rw[By,oJ l];rfl
 have lo:∀x,x∈xs.toList.take (mW xs j)->x<j:=λx f=>by
  obtain⟨i,hi,rfl⟩:=wQ f
  have m:i<mW xs j:=by simp at hi;lia
  have:=b i m;rw[e i j aK] at this
  rwa [alm]
 have hi:∀x,x∈xs.toList.drop (mW xs j)->j<x:=λx f=>by
  obtain⟨i,hi,rfl⟩:=wQ f
  have hs:mW xs j+i<xs.size:=by simp at hi;lia
  have q:=c _ (cH _) aK;have ne:xs.getD _ j≠j:=λz=>p (by
   have n:mW xs j<xs.size:=aK;rw[By,oJ n] at z;rw[oJ n];simpa using z)
  rw[List.getElem_drop,<-e _ j hs];by_cases z:i=0
  .subst z;simp only[Nat.add_zero];lia
  .have:=Q4 (d:=j) h (show mW xs j<mW xs j+i by lia) hs;lia
 rw[Uz]
 refine#[h1,rM.mpr #[hi,h2],λx f y g=>?_]
 rcases cB.mp g with rfl|g
 .exact lo x f
 .exact o x f y g
theorem jE.layNew(h:jE b t)(es:Array (Int×aL))(hs:Int)(x:aL):jE b (layNew t es hs x).2.1:=by
 unfold PySem.layNew;cases hf:t.freeSlot hs with
 |none=>exact h.standIn _
 |some q=>
  obtain⟨a,i⟩:=q
  have c:t.slot a=.empty:=by
   unfold SetTable.freeSlot at hf;split at hf
   .rename_i d e
    obtain⟨rfl,g⟩:=ad6 h.dum _ _ _ _ _ _ rfl e
    simp only[aci,amf] at hf
    rwa [<-hf.1]
   .cases hf
  have f:t.place[mW t.place a]?≠aa a:=λz=>by
   unfold ame at c;simp_all
  refine jE.orStandIn (t:=(t.put _).1) #[h.led,?_,anl h.ris f] _
  show(if amz _ _ then _ else t.dummies)=#v[]
  rw[h.dum];rfl
theorem jE.relayAll(h:jE b t)(es:Array (Int×aL))(n:Nat):jE b (relayAll t es n).2.1:=by
 unfold Nz;split
 .rename_i a;dsimp only;split
  .unfold SetTable.relaid SetTable.laid at a;cases ho:SetTable.layClean (SetTable.sizeAbove n-1) (es.map (·.1)) with
   |none=>simp_all
   |some owner=>
    simp_all;rw[<-a.1]
    refine#[h.led,rfl,?_]
    simp only[List.map_filterMap];refine ayW _ (λx y d=>?_) abX;simp[*]
  .exact h.standIn _
 .exact h.standIn _
theorem jE.plain(h:jE b t)(v:Bool):jE b {t with plain:=v}:=#[h.led,h.dum,h.ris]
theorem jE.fresh(b:Bool):jE b (.fresh 0 0 b):=#[rfl,rfl,.nil]
end L2
namespace L2
open PySem PySem.Spec PySem.W
section
variable{prog:dY}{w:cW}{T:Type}[DecidableEq T](knd:Aa prog w T)
def bt(w:cW):Bool:=!(w.params.followText "set-order")
inductive mZ:List (Int×aL)->List T->Prop
 |nil:mZ [] []
 |cons {e:Int×aL} {k:T} {es:List (Int×aL)} {ks:List T}:(knd.is k e.2=aq/\e.1=knd.hash k/\e.2.scannable=aq)->mZ es ks->mZ (e::es) (k::ks)
def tK(h:cF)(a:aH)(ks:List T):Prop:=∃o es ep t,h.get? a=aa o/\o.ExactSet/\o.data=.set es ep t/\(∃ks',mZ knd es.toList ks'/\ks'.Perm ks)/\es.size<ug/\t.fits es.size=aq/\jE (bt w) t
def oA(ks:List T)(k:T):List T:=if k∈ks then ks else ks++[k]
variable{knd}
theorem mZ.elems(h:mZ knd es ks):ElemsOf knd es:=by
 induction h with
 |nil=>intro e b;trivial
 |cons a _ ih=>
  intro e b;rcases cB.mp b with rfl|b
  .exact c8
  .exact ih e b
theorem mZ.len(h:mZ knd es ks):es.length=ks.length:=by
 induction h with
 |nil=>rfl
 |cons _ _ ih=>simp[*]
theorem mZ.perm(p:es'.Perm es):∀{ks:List T},mZ knd es ks->∃c,mZ knd es' c/\c.Perm ks:=by
 induction p with
 |nil=>grind
 |cons x _ ih=>
  intro ks h;cases h with
  |cons a r=>
   obtain⟨c,h1,h2⟩:=ih r
   exact#[_,.cons a h1,h2.cons _]
 |swap x y l=>
  intro ks h;refine hide λGG d=>?_
  cases h with
  |cons a r=>
   cases r with
   |cons b r=>exact d (#[_,.cons b (.cons a r),.swap ..])
 |trans _ _ ih1 ih2=>
  exact c8
theorem mZ.push(h:mZ knd es ks)(c:knd.is k x=aq)(b:x.scannable=aq):mZ knd (es++[(knd.hash k,x)]) (ks++[k]):=by
 induction h with
 |nil=>exact .cons #[c,rfl,b] .nil
 |cons a _ ih=>exact .cons a ih
theorem mZ.mem(h:mZ knd es ks)(b:x∈es)(c:knd.is k x.2=aq):k∈ks:=by
 induction h with
 |nil=>trivial
 |cons a _ ih=>
  rcases cB.mp b with rfl|b
  .cases knd.inj _ _ _ c a.1
   simp
  simp[*]
theorem mZ.none(h:mZ knd es ks)(e:es.findIdx? (λe=>knd.is k e.2)=.none):k∉ks:=by
 have b:=List.findIdx?_eq_none_iff.mp e;clear e;induction h with
 |nil=>simp
 |cons a _ ih=>
  grind
theorem agv{h:cF}{a:aH}{o:Obj}{ep:Nat}(d:h.get? a=aa o)(ex:o.ExactSet)(hd:o.data=.set es ep t)(e:∃b,mZ knd es'.toList b/\b.Perm ks)
  (c:es'.size<ug)(f:t'.fits es'.size=aq)(tb:jE (bt w) t'):
  ∃o',(h.update a (WQ es' t')).get? a=aa o'/\o'.ExactSet/\o'.data=.set es' (ep+1) t'/\tK knd (h.update a (WQ es' t')) a ks:=by
 have g:=zY (WQ _ t') d (by rw[putSet_of es' t' hd];rfl);rw[putSet_of _ t' hd] at g
 exact#[_,g,ex,rfl,_,_,_,t',g,ex,rfl,e,c,f,tb]
theorem aq6(W:knd.is k x=aq)(K:x.scannable=aq)(hS:tK knd s.heap a ks)(S:ks.length+1<ug)
  (h:∀b h',vg a s.heap h'->tK knd h' a (oA ks k)->Q b {s with heap:=h'}):bH 09 A (setAddHashed a x (knd.hash k)) Q E s:=by
 obtain⟨o,es,ep,t,D,ex,m,⟨k0,i,v⟩,Y,I,tb⟩:=hS
 have sz:es.size=ks.length:=by rw[<-p6,i.len,v.length_eq]
 have X:=i.elems;have mono:∀{u:Unit->bf->Prop}{s1:bf}(g:Bool),u () s1->∀r:Sem Unit,(r=rule "set.scan.the-table-gave-way"\/r=pure ())->bH 09 A r u E s1:=λg T r G=>by
  rcases G with rfl|rfl
  .exact wZ T
  .exact bM T
 unfold setAddHashed setAddHashedIn;refine m9 (aQ (IK D m I ?_));simp only[byScan_of K Y X,if_true];unfold setAddByScan;refine aQ (aQ (wZ (aQ (wpAny_setScan_of W D m I X ?_))));cases G:es.toList.findIdx? (λe=>knd.is k e.2) with
 |some j=>
  obtain⟨hj,hp,_⟩:=List.findIdx?_eq_some_iff_getElem.mp G
  have M:k∈ks:=v.mem_iff.mp (i.mem (BZ hj) hp);refine bM (bM (h _ s.heap (ack a s.heap) ?_));rw[oA,bZ M]
  exact#[o,es,ep,t,D,ex,m,#[k0,i,v],Y,I,tb]
 |none=>
  have M:k∉ks:=λz=>i.none G (v.mem_iff.mpr z)
  have C:=layNew_perm t es (knd.hash k) x;have p:=layNew_fits t es (knd.hash k) x;have tn:=tb.layNew es (knd.hash k) x;dsimp only;generalize layNew t es (knd.hash k) x=L at C p tn⊢
  obtain⟨c,O,wd,Z⟩:=L
  dsimp only at C p tn⊢;rw[aln] at C
  obtain⟨k1,e1,p1⟩:=(i.push W K).perm C
  have ak:oA ks k=ks++[k]:=by rw[oA,cC M]
  have U:∃l,mZ knd c.toList l/\l.Perm (oA ks k):=#[k1,e1,by rw[ak];exact p1.trans (v.append_right _)]
  have Bs:c.size=es.size+1:=by rw[<-p6,C.length_eq,fW,p6];rfl
  have b1:c.size<ug:=c4;refine aQ (mono Z ?_ _ (by cases Z<;>first|exact .inl rfl|exact .inr rfl));have f:∀d:CQ,d.fits c.size=aq->jE (bt w) d->bH (model prog w) A (do
    storeSet a c d
    if(!wd&&d.tooFull)=aq then do
      (match(Nz d c (Fb c.size)).2.2 with|true=>rule "set.scan.the-table-gave-way" |false=>pure ())
      storeSet a (Nz d c (Fb c.size)).1 (Nz d c (Fb c.size)).2.1
      pure (aa aq)
     else pure (aa aq)) (λr s'=>bH (model prog w) A (match r with|some added=>pure added|none=>setAddHashedIn a x (knd.hash k) 99999) Q E s') E s:=λd f2 q=>by
   refine hide λGG y=>?_
   obtain⟨o1,R,J,P,S1⟩:=agv (knd:=knd) D ex m U b1 f2 q
   refine y (aQ (alo D m ?_ (acp b1)));have zf:=rK s.heap a (WQ c d);split
   .have F:=relayAll_perm d c (Fb c.size);have N:=relayAll_fits d c (Fb c.size);have H:=q.relayAll c (Fb c.size);generalize Nz d c (Fb c.size)=L2 at F N H⊢
    obtain⟨B,t3,n⟩:=L2
    dsimp only at F N H⊢;refine hide λGG y=>?_
    obtain⟨k2,e2,p2⟩:=U
    obtain⟨k3,e3,p3⟩:=e2.perm F
    have sz2:B.size=c.size:=by rw[<-p6,F.length_eq,p6]
    have b2:B.size<ug:=c4;refine y (aQ (mono n (aQ (alo R P (hide λGG y=>?_) (acp b2))) _ (by cases n<;>first|exact .inl rfl|exact .inr rfl)))
    obtain⟨_,_,_,_,S2⟩:=agv (knd:=knd) R J P #[k3,e3,p3.trans p2] b2 N H
    exact y (bM (bM (h _ _ (zf.trans (rK ..)) S2)))
   .exact bM (bM (h _ _ zf S1))
  split
  .refine aQ ?_;rw[hashByValue_scannable 8 K];refine bM ?_;by_cases V:plainKind x=aq
   .simp only[V,if_true];exact f O p tn
   .simp only[V,BV,if_false];exact f _ (SetTable.fits_plain_off p) (tn.plain aR)
  .refine aQ (bM ?_);simp only[if_true];exact f O p tn
end
section
variable{T:Type}[DecidableEq T]
def dedup(ks:List T):List T:=ks.foldl oA []
theorem anm(ks:List T)(k:T):dedup (ks++[k])=oA (dedup ks) k:=by simp[dedup]
theorem aps{k x:T}:x∈oA ks k↔x∈ks\/x=k:=by
 unfold oA
 grind
theorem acW:∀(ks as:List T),x∈ks.foldl oA as↔x∈as\/x∈ks
 |[],as=>by simp
 |k::ks,as=>by rw[z7,acW,aps,cB,or_assoc]
theorem aog{x:T}:x∈dedup ks↔x∈ks:=by
 rw[dedup,acW];simp
theorem ano{k:T}(h:ks.Nodup):(oA ks k).Nodup:=by
 unfold oA
 grind
theorem acv:∀(ks as:List T),as.Nodup->(ks.foldl oA as).Nodup
 |[],_,h=>h
 |k::ks,_,h=>acv ks _ (ano h)
theorem amW(ks:List T):(dedup ks).Nodup:=acv ks [] .nil
theorem apt(ks:List T)(k:T):(oA ks k).length<=ks.length+1:=by
 unfold oA
 grind
theorem acX:∀(ks as:List T),(ks.foldl oA as).length<=as.length+ks.length
 |[],_=>by simp
 |k::ks,as=>by
  have h1:=acX ks (oA as k);have h2:=apt as k
  grind
theorem aet(ks:List T):(dedup ks).length<=ks.length:=by simpa[dedup] using acX ks []
end
section
variable{prog:dY}{w:cW}{T:Type}[DecidableEq T]{knd:Aa prog w T}{A:fB}{E:aL->bf->Prop}{s:bf}
theorem tK.at(H:tK knd h a ks)(e:∀o,h.get? a=aa o->h'.get? a=aa o):tK knd h' a ks:=
 let ⟨o,es,ep,t,ho,r⟩:=H
 #[o,es,ep,t,e o ho,r]
theorem tK.ty(H:tK knd s.heap a ks):s.TypeIs 043 "set":=let ⟨o,_,_,_,ho,ex,_⟩:=H;#[o,ho,ex.1]
end
section
variable{prog:dY}{w:cW}{T:Type}[DecidableEq T]{knd:Aa prog w T}{A:fB}{E:aL->bf->Prop}{s:bf}
def Lh(w:cW):Obj:={cls:=.type "set",dict:=aj,data:=.set #v[] 0 (.fresh 0 0 (bt w))}
theorem atr(g:h.get? a=aa (Lh w)):tK knd h a []:=#[_,_,0,_,g,#[rfl,rfl,rfl],rfl,#[[],.nil,.refl _],bh,rfl,jE.fresh _]
end
theorem vC:Slot "set_iterator" "__next__" "set_iterator.__next__":=.of (owner:="set_iterator") (n:="__next__") (rfl) (rfl) (rfl) (rfl) (by(exact .inl rfl)) (rfl)
theorem agw:Slot "set_iterator" "__iter__" "set_iterator.__iter__":=.of (owner:="set_iterator") (n:="__iter__") (rfl) (rfl) (rfl) (rfl) (by(exact .inl rfl)) (rfl)
theorem Qd:Qx table "set_iterator.__next__"=aa qg.«set_iterator.__next__»:=alH (rfl)
theorem aoh:Qx table "set_iterator.__iter__"=aa qg.«dict_keyiterator.__iter__»:=entryFor_alias (id':="dict_keyiterator.__iter__") (by kernel_rfl) rfl bG (by kernel_rfl)
theorem anp:Qx table "set.__iter__"=aa qg.«frozenset.__iter__»:=entryFor_alias (id':="frozenset.__iter__") (by kernel_rfl) rfl bG (by kernel_rfl)
theorem Qe(a:aL):argsOk "set_iterator.__next__" ⟨[a],[]⟩:=by
 trivial
theorem aoi(a:aL):argsOk "set_iterator.__iter__" ⟨[a],[]⟩:=by
 trivial
section
variable{prog:dY}{w:cW}{A:fB}{E:aL->bf->Prop}{s:bf}{it S:aH}{es:Array (Int×aL)}{ep i n:Nat}{t:CQ}{first:aL}
def pQ(b:Bool)(h:cF)(a:aH)(es:Array (Int×aL))(ep:Nat)(t:CQ):Prop:=∃o,h.get? a=aa o/\o.ExactSet/\o.data=.set es ep t/\t.fits es.size=aq/\jE b t
theorem pQ.at(H:pQ b h a es ep t)(e:∀o,h.get? a=aa o->h'.get? a=aa o):pQ b h' a es ep t:=let ⟨o,ho,r⟩:=H;#[o,e o ho,r]
def nH(h:cF)(it S:aH)(first:aL)(i n ep:Nat):Prop:=∃o,h.get? it=aa o/\o.cls=.type "set_iterator"/\o.data=.fields #v[first,mK i,.ref S,mK n,mK ep]
theorem nH.at(H:nH h it S first i n ep)(e:∀o,h.get? it=aa o->h'.get? it=aa o):nH h' it S first i n ep:=let ⟨o,ho,r⟩:=H;#[o,e o ho,r]
theorem nH.ty(H:nH s.heap it S first i n ep):s.TypeIs 047 "set_iterator":=let ⟨o,ho,c,_⟩:=H;#[o,ho,c]
theorem nH.set{h:cF}{j:Nat}{o:Obj}(b:h.get? it=aa o)(a:o.cls=.type "set_iterator")(hd:o.data=.fields vs):
  ∃o',(h.update it (amc (·.setIfInBounds j x))).get? it=aa o'/\o'.cls=.type "set_iterator"/\o'.data=.fields (vs.setIfInBounds j x):=
 #[_,zY _ b (akC (UT hd _)),(ali ..).trans a,by rw[UT hd]]
theorem YF(a:nH s.heap it S first i n ep)(h:Q 047 s):bH 09 A (G6 047) Q E s:=(acn a.ty agw (pC agw a.ty aoh (show bH _ _ (ret 047) _ _ s from(bM #[_,rfl,"set_iterator",_,a.ty,vC.lookup,h])) (aoi _)))
theorem agx{a:Nat}(b:nH s.heap it S (mK a) i n ep)(hs:pQ (bt w) s.heap S es ep t)(D:n=es.size)(ne:S≠it)
  (nx:∀{B:fB}{m:015}{C:Option (aL×Nat)->bf->Prop},C R s->bH 09 B (setNext S a i ep) C m s){x:aL}{c:Nat}(y:R=aa (x,c))
  (h:∀h',nH h' it S (mK c) (i+1) n ep->vg it s.heap h'->Q (aa x) {s with heap:=h'}):bH 09 A (ux 047) Q E s:=by
 refine hide λGG p=>?_
 obtain⟨o,g,z,f⟩:=id b
 obtain⟨G,d,l,e,r,tb⟩:=id hs
 refine p (aQ (Jk (BJ b.ty vC (pC vC b.ty Qd (aQ (bM (aQ (Jf g f ?_)))) (Qe _)))));dsimp only[mK];refine aQ (M9 d e r ?_);subst D;subst y;rw[cC cg];refine aQ (nx (aQ (Cm g f cg ?_)))
 obtain⟨H,k,v,j⟩:=nH.set g z f
 refine aQ (Cm k j cg ?_)
 obtain⟨q,F,c2,u⟩:=nH.set k v j
 refine bM #[_,rfl,bM (h _ #[q,F,c2,?_] ((rK ..).trans (rK ..)))];rw[u];rfl
theorem agy(d:045)(h:∀h',(∀b o,s'.heap.get? b=aa o->h'.get? b=aa o)->Q aj {s' with heap:=h'}):
  bH 09 A.in1 (do let e <-newExc (.type "StopIteration") [];(raiseNew e:Sem Fin)) (λc s1=>∃v,c=Fin.done (Flow.ret v)/\bH 09 A (pure (aa v)) Q E s1)
   (λe s1=>bH 09 A (do if(<-isInstance e (Jv "StopIteration"))=aq then pure aj else throw e) Q E s1) s':=by
 refine aQ ?_;refine aQ (qD (aQ (m:=Vs _ _) (adP (a:=vp) (by first|rfl|(simp only[Vs];rfl)) (qD ?_ (by size_fits)))) (by size_fits));refine aQ (wpAny_handled ?_);rw[d];refine aQ (bM (wpAny_throw ?_));exact aQ (Nj (b:=aq) #[_,ji _ rfl,rfl] isSubtype_stop (bM (h _ λb o e=>dF _ (dF _ e))))
theorem ahD{a:Nat}(v:045)(c:nH s.heap it S (mK a) i n ep)(hs:pQ (bt w) s.heap S es ep t)(u:n=es.size)
  (nx:∀{B:fB}{l:015}{C:Option (aL×Nat)->bf->Prop},C aj s->bH 09 B (setNext S a i ep) C l s)
  (h:∀h',(∀b o,b≠it->s.heap.get? b=aa o->h'.get? b=aa o)->Q aj {s with heap:=h'}):bH 09 A (ux 047) Q E s:=by
 refine hide λGG m=>?_
 obtain⟨o,j,y,g⟩:=id c
 obtain⟨x,d,k,f,p,tb⟩:=id hs
 refine m (aQ (Jk (BJ c.ty vC (pC vC c.ty Qd (aQ (bM (aQ (Jf j g ?_)))) (Qe _)))));dsimp only[mK];refine aQ (M9 d f p ?_);subst u;rw[cC cg];exact aQ (nx (aQ (Cm j g cg (agy v λh' r=>h h' λb o q e=>r b o (((rK ..).2 b q).trans e)))))
end
section
variable{prog:dY}{w:cW}{A:fB}{E:aL->bf->Prop}{s:bf}{it S:aH}{ep i n:Nat}{t:CQ}{first:aL}
theorem Q5(h:Q (!bt w) s):bH 09 A setsByText Q E s:=by
 refine aQ (Va (bM ?_));have h':=by simpa[bt] using h
 trivial
theorem WR:∀{l:List α}{j:Nat}(h:j<l.length),(l[j]::l.eraseIdx j).Perm l
 |[],j,h=>by cases h
 |a::l,0,h=>.refl _
 |a::l,j+1,h=>by
  have:=WR (by simpa using h)
  exact(acY ..).trans (this.cons a)
theorem aeu(hs:pQ (bt w) s.heap S es ep t)(a:bt w=aq)(c:(!t.plain&&decide (es.size>1))=aR)
  (h:C (match es[mW t.place slot]?,t.place[mW t.place slot]? with|some (_,x),some j=>aa (x,j+1)|_,_=>aj) s):bH 09 A (setNext S slot i ep) C E s:=by
 obtain⟨o,d,ex,e,f,tb⟩:=hs
 refine aQ (IK d e f (aQ (Q5 ?_)));rw[a];simp;refine Vk (λz=>?_) (λk=>?_)
 .have b:(!t.plain&&decide _)=aq:=z;simp_all
 refine aQ (show bH _ _ (if(!t.led&&!es.isEmpty)=aq then _ else _) _ _ _ from ?_);rw[tb.led,a];exact bM (bM h)
theorem aev(hs:pQ (bt w) s.heap S es ep t)(a:bt w=aR)
  (h:C (((Gh (w.params.setOrder S ep) es)[i]?).map λe=>(e.2,slot)) s):bH 09 A (setNext S slot i ep) C E s:=by
 obtain⟨o,b,ex,c,d,tb⟩:=hs
 refine aQ (IK b c d (aQ (Q5 ?_)));rw[a];simp;refine aQ (aQ (IK b c d (aQ (Q5 ?_))));rw[a];exact aQ (Va (bM (bM h)))
theorem agz(f:Nat->Nat):∀(m k:Nat)(left:List α)(out:Array α),left.length=m->(ady f m k left out).toList.Perm (out.toList++left)
 |0,k,left,out,h=>by
  unfold ady;simp_all
 |m+1,k,left,out,h=>by
  unfold ady;have hl:f k%left.length<left.length:=Nat.mod_lt _ c4;rw[mH hl]
  refine(agz f m _ _ _ 07).trans ?_
  rw[aln,ie];exact List.Perm.append_left _ (WR hl)
theorem Xd(f:Nat->Nat)(xs:Array α):(Gh f xs).toList.Perm xs.toList:=by
 have:=agz f _ 0 xs.toList #v[] (rfl);trivial
theorem apu(a:m≠0)(h:∀j d,j<m->Q j {s with drawn:=d}):bH 09 A (choose src m) Q E s:=λΓ p k=>#[a,h _ _ (Nat.mod_lt _ (Nat.pos_of_ne_zero a))]
theorem afg:∀(m:Nat)(xs:List α)(s:bf)(Q:List α->bf->Prop),xs.length=m->(∀ys d,ys.Perm xs->Q ys {s with drawn:=d})->bH 09 A (drawOrder m xs) Q E s
 |0,xs,s,Q,hl,h=>by
  rw[List.length_eq_zero_iff.mp hl] at h;exact bM (h [] _ (.refl _))
 |m+1,[],s,Q,hl,h=>by trivial
 |m+1,x::xs,s,Q,hl,h=>by
  refine aQ (apu c4 λj d a=>?_);rw[mH a];exact aQ (afg m _ _ _ (by rw[List.length_eraseIdx,bZ a];simpa using hl) λys b c=>bM (h _ b ((c.cons _).trans (WR a))))
end
def Ik(h:cF)(pl:aH)(ps:051):Prop:=∃o c,h.get? pl=aa o/\o.data=.seq (ps.map λk:Nat=>mK k).toArray c
theorem Ik.at(H:Ik h pl ps)(e:∀o,h.get? pl=aa o->h'.get? pl=aa o):Ik h' pl ps:=let ⟨o,c,ho,r⟩:=H;#[o,c,e o ho,r]
theorem aq7(a:nH s.heap it S (.ref pl) i n ep)(hs:pQ (bt w) s.heap S es ep t)(x:Ik s.heap pl ps)(B:n=es.size)(q:ps[i]?=aa k)(he:es[k]?=aa e)
  (h:∀h',nH h' it S (.ref pl) (i+1) n ep->vg it s.heap h'->Q (aa e.2) {s with heap:=h'}):bH 09 A (ux 047) Q E s:=by
 refine hide λGG p=>?_
 obtain⟨o,j,z,f⟩:=id a
 obtain⟨C,b,m,c,l,tb⟩:=id hs
 obtain⟨op,D,g,d⟩:=x
 refine p (aQ (Jk (BJ a.ty vC (pC vC a.ty Qd ?_ (Qe _)))));refine aQ (bM (aQ (Jf j f ?_)));dsimp only[mK];refine aQ (M9 b c l ?_);subst B;rw[cC cg];refine aQ (Ck g d ?_);dsimp only;rw[show((ps.map _).toArray)[((i:Int)).toNat]?=aa (.int k 0) by simp[q,mK]];refine aQ (aQ (IK b c l ?_));simp_all;refine bM (aQ (Cm j f cg ?_))
 obtain⟨u,v,y,r⟩:=nH.set j z f
 refine bM #[_,rfl,bM (h _ #[u,v,y,?_] (rK ..))];rw[r];rfl
theorem atu(m:045)(a:nH s.heap it S (.ref pl) i n ep)(hs:pQ (bt w) s.heap S es ep t)(y:Ik s.heap pl ps)(C:n=es.size)(q:ps.length<=i)
  (h:∀h',(∀b o,b≠it->s.heap.get? b=aa o->h'.get? b=aa o)->Q aj {s with heap:=h'}):bH 09 A (ux 047) Q E s:=by
 refine hide λGG p=>?_
 obtain⟨o,k,B,g⟩:=id a
 obtain⟨D,d,l,f,r,tb⟩:=id hs
 obtain⟨op,H,j,c⟩:=y
 refine p (aQ (Jk (BJ a.ty vC (pC vC a.ty Qd ?_ (Qe _)))));refine aQ (bM (aQ (Jf k g ?_)));dsimp only[mK];refine aQ (M9 d f r ?_);subst C;rw[cC cg];refine aQ (Ck j c ?_);dsimp only;rw[show((ps.map _).toArray)[((i:Int)).toNat]?=aj by simp[q]];refine aQ (Cm k g cg ?_)
 obtain⟨F,x,G,v⟩:=nH.set k B g
 exact aQ (Cm x v cg (agy m λh' z=>h h' λb o u e=>z b o ((((rK ..).trans (rK ..)).2 b u).trans e)))
theorem aoj(n:045)(ne:S≠it)(a:bt w=aq)(j:(!t.plain&&decide (es.size>1))=aR)(hz:t.place.size=es.size)(f:t.place.toList.Pairwise (·<·)):
  Ay prog w A it [it,S] [it] es.size (λi v=>(es.toList.map (·.2))[i]?=aa v) (λi h=>nH h it S (mK (if i=0 then 0 else t.place.getD (i-1) 0+1:Nat)) i es.size ep/\pQ (bt w) h S es ep t) where
 sub:=λb a=>by simp_all
 frame:=λy y y st l=>#[st.1.at λo e=>l it cg o e,st.2.at λo e=>l S cg o e]
 item:=λi s Q E hi st d=>by
  have m:i<t.place.size:=c4;have g:mW t.place (if i=0 then 0 else t.place.getD (i-1) 0+1)=i:=by
   by_cases z:i=0
   .subst z;exact agu f
   .rw[cC z];have h1:i-1<t.place.size:=aK;have:=ad5 f h1;rw[By,oJ h1,IW,this];lia
  refine agx (R:=aa (es[i].2,t.place[i]+1)) st.1 st.2 rfl ne (λc=>aeu st.2 a j ?_) rfl λh' k same=>d _ h' s.toks (by simp[hi]) #[?_,st.2.at λo e=>(same.2 S ne).trans e] λb o a e=>(same.2 b λz=>a (by simp[z])).trans e
  .rwa [g,oJ hi,oJ m]
  .have e1:(if i+1=0 then 0 else t.place.getD (i+1-1) 0+1)=t.place[i]+1:=by
    rw[cC aK,Nat.add_sub_cancel,By,oJ m,IW]
   rwa [e1]
 done:=λs Q E st d=>by
  have g:mW t.place (if es.size=0 then 0 else t.place.getD (es.size-1) 0+1)=es.size:=by
   by_cases z:es.size=0
   .rw[z];exact agu f
   .rw[cC z];have h1:es.size-1<t.place.size:=aK;have:=ad5 f h1;rw[By,oJ h1,IW,this];lia
  refine ahD n st.1 st.2 rfl (λc=>aeu st.2 a j ?_) λh' p=>d h' s.toks λb o a e=>p b o (λz=>a (by simp[z])) e
  rwa [g,abV 046]
 self:=λy y y y st d=>YF st.1 d
theorem aok(l:045)(ne:S≠it)(a:bt w=aR):
  Ay prog w A it [it,S] [it] es.size (λi v=>((Gh (w.params.setOrder S ep) es).toList.map (·.2))[i]?=aa v) (λi h=>nH h it S (mK (0:Nat)) i es.size ep/\pQ (bt w) h S es ep t) where
 sub:=λb a=>by simp_all
 frame:=λy y y st g=>#[st.1.at λo e=>g it cg o e,st.2.at λo e=>g S cg o e]
 item:=λi s Q E hi st d=>by
  have hl:(Gh (w.params.setOrder S ep) es).size=es.size:=by rw[<-p6,(Xd _ es).length_eq,p6]
  have j:i<(Gh (w.params.setOrder S ep) es).size:=aK;refine agx (R:=aa ((Gh _ es)[i].2,0)) st.1 st.2 rfl ne (λc=>aev st.2 a ?_) rfl λh' f same=>d _ h' s.toks (by simp[j]) #[f,st.2.at λo e=>(same.2 S ne).trans e] λb o a e=>(same.2 b λz=>a (by simp[z])).trans e
  rwa [oJ j]
 done:=λs Q E st d=>by
  have hl:(Gh (w.params.setOrder S ep) es).size=es.size:=by rw[<-p6,(Xd _ es).length_eq,p6]
  refine ahD l st.1 st.2 rfl (λc=>aev st.2 a ?_) λh' k=>d h' s.toks λb o a e=>k b o (λz=>a (by simp[z])) e
  rwa [abV aK]
 self:=λy y y y st d=>YF st.1 d
theorem anq(m:045)(ne:S≠it)(l:pl≠it)(pp:ps.Perm (gQ es.size)):
  Ay prog w A it [it,S,pl] [it] es.size (λi v=>(ps.map λk=>(es.getD k (0,.none)).2)[i]?=aa v) (λi h=>nH h it S (.ref pl) i es.size ep/\pQ (bt w) h S es ep t/\Ik h pl ps) where
 sub:=λb c=>by simp_all
 frame:=λy y y st a=>#[st.1.at λo e=>a it cg o e,st.2.1.at λo e=>a S cg o e,st.2.2.at λo e=>a pl cg o e]
 item:=λi s Q E hi st d=>by
  have hl:ps.length=es.size:=by rw[pp.length_eq,tZ]
  have g:i<ps.length:=aK;have a:=Cj.mp (pp.mem_iff.mp (BZ g));refine aq7 (k:=ps[i]) st.1 st.2.1 st.2.2 rfl (mH g) (oJ a) λh' f same=>d _ h' s.toks ?_ #[f,st.2.1.at λo e=>(same.2 S ne).trans e,st.2.2.at λo e=>(same.2 pl l).trans e] λb o c e=>(same.2 b λz=>c (by simp[z])).trans e
  rw[jN,mH g,mU,By,oJ a];rfl
 done:=λs Q E st d=>by
  have hl:ps.length=es.size:=by rw[pp.length_eq,tZ]
  exact atu m st.1 st.2.1 st.2.2 rfl aK λh' j=>d h' s.toks λb o c e=>j b o (λz=>c (by simp[z])) e
 self:=λy y y y st d=>YF st.1 d
section
variable{w:cW}{A:fB}{s:bf}{S:aH}{ep:Nat}{t:CQ}
theorem aol(hs:pQ (bt w) s.heap S es ep t)(h:Q (bt w&&(!t.plain&&decide (es.size>1))) s):bH 09 A (setDrawn S) Q E s:=by
 obtain⟨e,a,c,b,d,tb⟩:=id hs
 refine aQ (IK a b d (aQ (Q5 (bM ?_))))
 rwa [Bool.not_not]
theorem apv(r:045)(hs:pQ (bt w) s.heap S es ep t)(D:es.size<ug)
  (h:∀(I:aH)(h1:cF)(d:Ds)(fp:040)(out:042)(St:Nat->cF->Prop),Ay prog w A I fp [I] es.size (λi v=>out[i]?=aa v) St->St 0 h1->out.Perm (es.toList.map (·.2))->(∀b o,s.heap.get? b=aa o->h1.get? b=aa o)->s.heap.objs.size<=I->
   (∀b∈fp,b=S\/s.heap.objs.size<=b)->Q (.ref I) {s with heap:=h1,drawn:=d}):bH (model prog w) A (G6 (.ref S)) Q E s:=by
 obtain⟨m,a,g,c,l,tb⟩:=id hs
 have y:s.TypeIs (.ref S) "set":=#[m,a,g.1]
 have lt:S<s.heap.objs.size:=dj a;have z:t.place.size=es.size:=by
  have:=l;simp only[SetTable.fits,lJ,beq_iff_eq] at this;exact this.1
 refine acn y alU (pC alU y anp ?_ (F.args_set_iter_1 _));unfold qg.«frozenset.__iter__» ayX ayS;refine aQ (aQ (bM (bM (aQ (aQ (M9 a c l (bM ?_)))))));refine aQ (aol hs ?_);by_cases q:(bt w&&(!t.plain&&decide (es.size>1)))=aq
 .rw[bZ q];refine aQ (afg _ _ _ _ (tZ ..) λps d pp=>?_);have C:ps.length=es.size:=by rw[pp.length_eq,tZ]
  unfold newTuple;refine aQ (qD ?_ (show(List.map (λi:Nat=>mK i) ps).toArray.size<=cG by rw[u5,bR,C,jV];unfold ug at D;lia));have x:(s.heap.push {cls:=.type "tuple",data:=.seq (ps.map λk:Nat=>mK k).toArray}).get? S=aa m:=dF _ a;refine aQ (alp (s:={s with heap:=s.heap.push _,drawn:=d}) x c l (aQ ?_));unfold newFields;refine qD (bM #[_,rfl,"set_iterator",_,#[_,ji _ rfl,rfl],vC.lookup,?_]);have p:(s.heap.push {cls:=.type "tuple",data:=.seq (ps.map λk:Nat=>mK k).toArray}).objs.size=s.heap.objs.size+1:=yH ..;refine h _ _ d [_,S,s.heap.objs.size] _ _ (anq (ep:=ep) (t:=t) r ?_ ?_ pp) #[#[_,ji _ rfl,rfl,rfl],#[m,dF _ x,g,c,l,tb],#[_,0,dF _ (ji _ rfl),rfl]] ?_ (λb o e=>dF _ (dF _ e)) ?_ ?_
  .rw[p];exact fH (yC lt)
  .rw[p];exact fH (Nm _)
  .have e2:(gQ es.size).map (λk=>(es.getD k (0,vp)).2)=es.toList.map (·.2):=by
    refine Et cg λj h1 h2=>?_
    have G:j<es.size:=by simpa using h1
    simp[By,oJ G]
   rw[<-e2];exact pp.map _
  .rw[p];exact Ad _
  .intro b f;simp only[cB,nM,or_false] at f;rcases f with rfl|rfl|rfl
   .right;rw[p];exact Ad _
   .exact .inl rfl
   .exact .inr 046
 .rw[cC q];refine aQ (bM ?_);refine aQ (alp a c l ?_);refine aQ ?_;unfold newFields;refine qD (bM #[_,rfl,"set_iterator",_,#[_,ji _ rfl,rfl],vC.lookup,?_]);have n:∀b,b∈[s.heap.objs.size,S]->b=S\/s.heap.objs.size<=b:=λb f=>by
   simp only[cB,nM,or_false] at f;rcases f with rfl|rfl
   .exact .inr 046
   .exact .inl rfl
  refine hide λGG u=>?_
  cases hbt:bt w with
  |true=>
   rw[hbt] at q;have B:(!t.plain&&decide (es.size>1))=aR:=by simpa using q
   exact u (h _ _ s.drawn [_,S] _ _ (aoj (ep:=ep) r (fH lt) hbt B z tb.ris) #[#[_,ji _ rfl,rfl,rfl],#[m,dF _ a,g,c,l,tb]] (.refl _) (λb o e=>dF _ e) 046 n)
  |false=>
   exact u (h _ _ s.drawn [_,S] _ _ (aok (ep:=ep) (t:=t) r (fH lt) hbt) #[#[_,ji _ rfl,rfl,rfl],#[m,dF _ a,g,c,l,tb]] ((Xd _ es).map _) (λb o e=>dF _ e) 046 n)
end
end L2
namespace L2
open PySem PySem.Spec PySem.W PyProof.Rows
section
variable{prog:dY}{w:cW}{A:fB}{E:aL->bf->Prop}{s:bf}{S:aH}{es:Array (Int×aL)}{ep:Nat}{t:CQ}
theorem apw(a:s.TypeIs (.ref S) "set")(h:Q aR s):bH 09 A (ayq (.ref S)) Q E s:=by
 refine aQ (Cd a PySem.F.slot_set_len.lookup ?_);generalize hid:("set.__len__")=c;subst hid;refine aQ (Nj (T:="set") (b:=aq) a (rfl) (Vk (λz=>absurd z bh) λk=>Vk (λk=>?_) λz=>absurd rfl z));exact aQ (Ft a (bM h))
theorem aom{out:042}(h:ItemsOf (λi v=>out[i]?=aa v) bu out.length):bu=out.toArray:=by
 refine Array.ext (by simpa using h.1) λj h1 h2=>?_
 have this:=h.2 j _ (oJ h1)
 grind
theorem anr{R:Dk->bf->Prop}(X:045)(hs:pQ (bt w) s.heap S es ep t)(y:es.size<ug){L:aH}(ne:L≠S){c0:Nat}(B:s.heap.get? L=aa {cls:=.type "list",data:=.seq #v[] c0})(res:aL)
  (K:∀(h':cF)(d:Ds)(j:Nat)(us:042)(k:Nat),us.Perm (es.toList.map (·.2))->(∀b o,b≠L->s.heap.get? b=aa o->h'.get? b=aa o)->h'.get? L=aa {cls:=.type "list",dict:=aj,data:=.seq us.toArray k,slots:=#v[]}->
   R (.ok (.ret res)) {s with heap:=h',drawn:=d,toks:=j}):
  bH 09 A.in1 (aka (.ref L) (.ref S) res) (λn s'=>match n with|.done f=>R (.ok f) s'|.again k=>k.quiet=aq/\nQ 09 A k R s') (λe s'=>R (.error e) s') s:=by
 obtain⟨x,h,c,N,Y,tb⟩:=id hs
 have U:s.TypeIs (.ref S) "set":=#[x,h,c.1]
 have p:L<s.heap.objs.size:=dj B;unfold aka;refine aQ (Ft U ?_);rw[show(abP (.ref L) (.ref S)||Jv "set"==Jv "list"||Jv "set"==Jv "tuple")=aR by
  rw[show abP (.ref L) (.ref S)=aR by simp[abP,ne]];rfl]
 simp;refine aQ (apv (A:=A.in1) X hs y λI h1 d fp out St W st E i l m=>?_);have lo:out.length=es.size:=by rw[E.length_eq,bR,p6]
 have cD:L∉fp:=λz=>(m L z).elim ne λP=>absurd p (WM.mpr P)
 have run:∀(h2:cF)(q j:Nat),St 0 h2->(∀b o,b≠L->s.heap.get? b=aa o->h2.get? b=aa o)->h2.get? L=aa {cls:=.type "list",data:=.seq #v[] q}->
   nQ 09 A (.builtin "list.extend.loop" #[[.ref L,.ref I,res],[]]) R {s with heap:=h2,drawn:=d,toks:=j}:=λh2 q j u V Q=>by
  refine codeAny_extend_loopS W.toS (acp y) L cD res es.size 0 _ #v[] q rfl (lO _) u Q (ItemsOf.nil _) λF bu M G T D=>?_
  rw[<-lo] at D;have J:=aom D;subst J;rw[Moved.eq_with G];refine K F.heap d F.toks out M E (λb o a e=>G.heap b o (λz=>?_) (V b o a e)) T;rcases cB.mp z with z|z
  .exact a z
  .exact absurd (dj e) (by rw[jU.mp z];exact WM.mpr l)
 have r:=i L _ B;have O:Shared.TypeIs {s with heap:=h1,drawn:=d} (.ref S) "set":=#[x,i S _ h,c.1]
 refine aQ (m9 (apw O ?_));refine Vk (λ_=>aQ (wZ (aQ (show bH _ _ (Xe L (·.push .none) >>= λ_=>Xe L (·.pop)) _ _ _ from ?_)))) λ_=>bM #[vf akc _,run h1 c0 s.toks st (λb o _ e=>i b o e) r]
 refine aQ (Nq r rfl ?_);have C:=zY (rP (·.push vp)) r rfl;refine Nq (hz:=by seq_fits) C rfl ?_;have H:=zY (rP (·.pop)) C rfl;have g:∀b o,b≠L->h1.get? b=aa o->((h1.update L (rP (·.push vp))).update L (rP (·.pop))).get? b=aa o:=λb o a e=>
  (wO _ _ (jW a)).trans ((wO _ _ (jW a)).trans e)
 exact bM #[vf akc _,run _ _ s.toks (W.frame 0 _ _ st λb v o e=>g b o (λz=>cD (z▸v)) e) (λb o a e=>g b o a (i b o e)) H]
theorem amX(u:045)(hs:pQ (bt w) s.heap S es ep t)(p:es.size<ug)
  (h:∀(h':cF)(d:Ds)(a:Nat)(us:042),us.Perm (es.toList.map (·.2))->s.heap.objs.size<=h'.objs.size->(∀b o,s.heap.get? b=aa o->h'.get? b=aa o)->R us {s with heap:=h',drawn:=d,toks:=a}):
  bH 09 A (collect (.ref S)) R E s:=by
 have m:=let ⟨_,e,_⟩:=hs;dj e
 refine aQ (wpAny_runValue (wW entry_proto_collect' (aQ (qD (bM #[vf akk _,wW entry_list_iadd' ?_])))));have n:(s.heap.push _).get? _=aa {cls:=.type "list",data:=.seq #v[]}:=ji _ rfl;have l:=anr (prog:=prog)  (s:={s with heap:=s.heap.push _})
  (R:=λ(q:Dk)s'=>∃(h':cF)(d:Ds)(a:Nat)(us:042)(j:Nat),q=.ok _/\s'={s with heap:=h',drawn:=d,toks:=a}/\us.Perm _/\(∀b o,s.heap.get? b=aa o->h'.get? b=aa o)/\h'.get? _=aa {cls:=.type _,dict:=aj,data:=.seq us.toArray j,slots:=#v[]})
  u (hs.at λo e=>dF _ e) p (yJ m) n 048 (λh' d a us j i c g=>#[h',d,a,us,j,rfl,rfl,i,λb o e=>c b o (fH (dj e)) (dF _ e),g])
 refine vq l (λk s' x=>?_) λe s' x=>?_
 .cases k with
  |done f=>
   obtain⟨h',d,a,us,j,e,rfl,i,c,g⟩:=x
   cases e;exact aQ (Pn g (bM (h h' d a us i (wY (dj g)) c)))
  |again c1=>
   refine#[x.1,Og x.2 λq v y=>?_]
   obtain⟨h',d,a,us,j,rfl,rfl,i,c,g⟩:=y
   exact aQ (Pn g (bM (h h' d a us i (wY (dj g)) c)))
 .obtain⟨_,_,_,_,_,r,_⟩:=x
  cases r
end
section
variable{prog:dY}{w:cW}{A:fB}{E:aL->bf->Prop}{s:bf}{S:aH}{es:Array (Int×aL)}{ep:Nat}{t:CQ}
theorem ant{Ok:List aL->Prop}(r:045)(hs:pQ (bt w) s.heap S es ep t)(few:es.size<64)
  (f:∀us:List aL,us.Perm (es.toList.map (·.2))->∀(B:fB)(s1:bf)(a:aH)(n:Nat)(P:Fin->bf->Prop)(m:015),s1.heap.get? a=aa (seqObj "list" us.toArray n)->
   (∀out:Array aL,Ok out.toList->P (.done (.ret .none)) {s1 with heap:=sortedHeap s1.heap a us out})->bH (model prog w) B (qg.«list.sort» ⟨[.ref a],[]⟩) P m s1)
  (h:∀(D:aH)(h':cF)(d:Ds)(g c:Nat)(out:Array aL),Ok out.toList->s.heap.objs.size<=D->(∀b o,s.heap.get? b=aa o->h'.get? b=aa o)->h'.get? D=aa (seqObj "list" out c)->Q (.ref D) {s with heap:=h',drawn:=d,toks:=g}):
  bH 09 A (call (.builtin "sorted") [.ref S]) Q E s:=by
 refine Uu kind_sorted plain_sorted entry_sorted (args_sorted1 _) ?_;refine aQ (bM (aQ (amX r hs (by unfold ug;lia) λh1 d g us k p j=>?_)));have u:us.length=es.size:=by rw[k.length_eq,bR,p6]
 refine aQ (NQ ?_ (by rw[jV];lia));have i:(h1.push _).get? _=aa (seqObj "list" us.toArray 0):=ji _ rfl;refine aQ (m9 (pC slot_list_sort #[_,i,rfl] entry_list_sort (f us k _ _ _ 0 _ _ i λout ok=>#[_,rfl,?_]) (args_list_sort _)))
 obtain⟨c,q⟩:=sortedHeap_at i
 refine bM #[_,rfl,h _ _ d g c _ ok p (λb o e=>?_) q];have l:=dj (j b o e);rw[sortedHeap_old (fH l) (by rw[yH];exact yC l)];exact dF _ (j b o e)
end
theorem Inv.drew(d:Ds)(I:03):Inv X aC σ H {s with drawn:=d}:=
 I.call (ch:=[]) (Un.kept λk k e=>e) (I.hok.kept λk k e=>e) I.bare (λ_ z=>nomatch z)
section
variable{X:Cx}{T:Type}[DecidableEq T]{knd:Aa X.prog X.w T}{l:Expr}{tl:TE}{p1 p2 pos1 pos2:Pos}
end
theorem apx(h:mZ (adk prog w) es ks):(es.map (·.2)).map strOf=ks/\∀v,v∈es.map (·.2)->∃x t,v=.str x t:=by
 induction h with
 |nil=>simp
 |@cons e k es ks a _ ih=>
  obtain⟨t,ht⟩:=akN (a.1)
  refine#[by rw[dN,dN,ih.1,ht];rfl,λv b=>?_]
  grind
def au0(v:aL)(c:Nat):Obj:={cls:=.type "list",dict:=aj,data:=.seq #v[v,v] c,slots:=#v[]}
section
variable{prog:dY}{w:cW}{A:fB}{E:aL->bf->Prop}{s:bf}
theorem amA{id:String}{b:qg}{as:042}{c:List (Str×aL)}{Q:015}(j:builtinKind id=aj)(i:plainId id=aq)(h:Qx table id=aa b)(g:argsOk id #[as,c])
  (d:bH (model prog w) A.in1 (b ⟨as,c⟩) (λa s'=>match a with
   |.done f=>(match(Except.ok f:Dk) with|.ok (.ret v)=>Q v s'|.ok _=>False|.error e=>E e s')
   |.again c'=>c'.quiet=aq/\nQ (model prog w) A c' (λr s'=>match r with|.ok (.ret v)=>Q v s'|.ok _=>False|.error e=>E e s') s') E s):bH (model prog w) A (call (.builtin id) as c) Q E s:=by
 refine wpAny_call (codeAny_call_builtin i h ?_);simp only[checkBuiltinCall,j];cases hg:Manifest.signature? id with
 |none=>exact bM d
 |some sg=>
  simp only[argsOk,hg] at g;show bH _ _ (Bind.checkArgs id sg _) _ _ s;rw[g];exact bM d
end
end L2
namespace L2
open PySem PySem.Spec PyProof.Rows PySem.W
noncomputable def fO:az->Option Key
 |.int i=>aa (.inl i)
 |.str x=>aa (.inr x)
 |_=>aj
def keysOf:List az->Option (List Key)
 |[]=>aa []
 |d::r=>match fO d,keysOf r with
  |some k,some t=>aa (k::t)
  |_,_=>aj
def lq:az->Option TK
 |.tuple [.tuple ds,.bool b]=>(keysOf ds).map (·,aa b)
 |.tuple ds=>(keysOf ds).map (·,aj)
 |_=>aj
def cO{κ:Type}(f:az->Option κ):List (az×az)->Option (List κ)
 |[]=>aa []
 |p::r=>match f p.1,cO f r with
  |some k,some t=>aa (k::t)
  |_,_=>aj
def rE(H:Hp)(a:aH)(au:021)(vs:041):Prop:=
 (∃ks,cO fO au=aa ks/\∃ep,H a=aa (.dK (ks.zip vs) ep))\/∃ks,(au≠[]/\cO lq au=aa ks)/\∃ep,H a=aa (.dT (ks.zip vs) ep)
theorem Il(h:∃ep,H a=aa (.dK au ep)):uT H a au:=let ⟨ep,e⟩:=h;#[ep,.inl e]
theorem rdT(h:∃ep,H a=aa (.dT au ep)):Eb H a au:=let ⟨ep,e⟩:=h;#[ep,.inl e]
mutual
def RZ(H:Hp):az->V->Prop
 |.none,v=>v=.non
 |.bool b,v=>v=.bl b
 |.int i,v=>v=.int i
 |.str x,v=>v=.str x
 |.list ds,v=>∃a vs,v=.ref a/\H a=aa (.lst vs)/\cQ H ds vs
 |.tuple ds,v=>∃a vs,v=.ref a/\H a=aa 039/\cQ H ds vs
 |.dict au,v=>∃a vs,v=.ref a/\rE H a au vs/\jb H au vs
def cQ(H:Hp):List az->List V->Prop
 |[],vs=>vs=[]
 |d::ds,vs=>∃v r,vs=v::r/\RZ H d v/\cQ H ds r
def jb(H:Hp):List (az×az)->List V->Prop
 |[],vs=>vs=[]
 |p::r,vs=>∃v t,vs=v::t/\RZp H p v/\jb H r t
def RZp(H:Hp):az×az->V->Prop
 |(_,d),v=>RZ H d v
end
theorem rE.same(s:cI H H')(h:rE H a au vs):rE H' a au vs:=by
 rcases h with⟨ks,e,ep,h⟩|⟨ks,e,ep,h⟩
 .exact .inl #[ks,e,ep,s _ _ h]
 .exact .inr #[ks,e,ep,s _ _ h]
mutual
theorem RZ.same(s:cI H H'):∀{d:az}{v:V},RZ H d v->RZ H' d v
 |.none,_,h=>h
 |.bool _,_,h=>h
 |.int _,_,h=>h
 |.str _,_,h=>h
 |.list ds,_,h=>by
  obtain⟨a,vs,e,q,r⟩:=h
  exact#[a,vs,e,s _ _ q,cQ.same s r]
 |.tuple ds,_,h=>by
  obtain⟨a,vs,e,q,r⟩:=h
  exact#[a,vs,e,s _ _ q,cQ.same s r]
 |.dict _,_,h=>by
  obtain⟨a,vs,e,q,r⟩:=h
  exact#[a,vs,e,q.same s,jb.same s r]
theorem cQ.same(s:cI H H'):∀{ds:036}{vs:041},cQ H ds vs->cQ H' ds vs
 |[],_,h=>h
 |d::ds,vs,h=>by
  obtain⟨v,r,e,q,t⟩:=h
  exact#[v,r,e,RZ.same s q,cQ.same s t]
theorem jb.same(s:cI H H'):∀{au:021}{vs:041},jb H au vs->jb H' au vs
 |[],_,h=>h
 |(k,d)::ds,vs,h=>by
  obtain⟨v,r,e,q,t⟩:=h
  exact#[v,r,e,RZ.same s q,jb.same s t]
end
theorem lg:∀{ds:036}{vs:041},cQ H ds vs->vs.length=ds.length
 |[],_,h=>by cases h;rfl
 |e::ds,vs,h=>by
  obtain⟨u,r,e1,q,s⟩:=h
  subst e1;rw[eZ,eZ,lg s]
theorem Dd:∀{ds:021}{vs:041},jb H ds vs->vs.length=ds.length
 |[],_,h=>by cases h;rfl
 |e::ds,vs,h=>by
  obtain⟨u,r,e1,q,s⟩:=h
  subst e1;rw[eZ,eZ,Dd s]
theorem yW:∀{ds:036}{vs:041}{i:Nat}{d:az},cQ H ds vs->ds[i]?=aa d->∃v,vs[i]?=aa v/\RZ H d v
 |[],_,_,_,_,e=>by simp_all
 |x::ds,vs,i,d,h,e=>by
  obtain⟨u,r,e1,q,s⟩:=h
  subst e1;cases i with
  |zero=>simp_all
  |succ i=>
   obtain⟨v,e2,h2⟩:=yW s (by trivial)
   simp_all
theorem Gw:∀{ds es:036}{vs ws:041},cQ H ds vs->cQ H es ws->cQ H (ds++es) (vs++ws)
 |[],_,_,_,h,g=>by cases h;exact g
 |d::ds,_,_,_,h,g=>by
  obtain⟨u,r,e1,q,s⟩:=h
  subst e1
  exact#[u,_,rfl,q,Gw s g]
theorem afh:∀{ds:036}{vs:041}(n:Nat),cQ H ds vs->cQ H (ds.take n) (vs.take n)
 |_,_,0,_=>rfl
 |[],_,n+1,h=>by cases h;rfl
 |d::ds,_,n+1,h=>by
  obtain⟨u,r,e1,q,s⟩:=h
  subst e1
  exact#[u,_,rfl,q,afh n s]
theorem afi:∀{ds:036}{vs:041}(n:Nat),cQ H ds vs->cQ H (ds.drop n) (vs.drop n)
 |_,_,0,h=>h
 |[],_,n+1,h=>by cases h;rfl
 |d::ds,_,n+1,h=>by
  obtain⟨u,r,e1,q,s⟩:=h
  subst e1;exact afi n s
theorem agA(a:RZ H d v):∀{ds:036}{vs:041}(i:Nat),cQ H ds vs->cQ H (ds.set i d) (vs.set i v)
 |[],_,_,h=>by cases h;rfl
 |x::ds,_,i,h=>by
  obtain⟨u,r,e1,q,s⟩:=h
  subst e1;cases i with
  |zero=>exact#[v,r,rfl,a,s]
  |succ i=>exact#[u,_,rfl,q,agA a i s]
noncomputable def nA:az->Bool
 |.none=>aq
 |.bool _=>aq
 |.int _=>aq
 |.str _=>aq
 |_=>aR
noncomputable def toV:az->V
 |.none=>.non
 |.bool b=>.bl b
 |.int i=>.int i
 |.str x=>.str x
 |_=>.non
theorem aq8(f:nA d=aq)(h:RZ H d v):v=toV d:=by
 cases d<;>first|exact h|cases f
theorem aq9(f:nA d=aq):RZ H d (toV d):=by
 cases d<;>first|rfl|cases f
theorem XS:∀{ds:036}{vs:041},ds.all nA=aq->cQ H ds vs->vs=ds.map toV
 |[],_,_,h=>h
 |d::ds,vs,f,h=>by
  obtain⟨u,r,e1,q,s⟩:=h
  rw[Jh,lJ] at f;rw[e1,aq8 f.1 q,XS f.2 s];rfl
theorem afj(ns:028):cQ H (ns.map kZ) 050:=by
 induction ns with
 |nil=>rfl
 |cons n r ih=>exact#[_,_,rfl,rfl,ih]
theorem XX(ns:014):cQ H (ns.map gR) (ns.map V.str):=by
 induction ns with
 |nil=>rfl
 |cons n r ih=>exact#[_,_,rfl,rfl,ih]
mutual
def gb:az->Bool
 |.list _=>aR
 |.tuple ds=>gJ ds
 |.dict _=>aR
 |_=>aq
def gJ:List az->Bool
 |[]=>aq
 |d::r=>gb d&&gJ r
end
mutual
theorem RZ.gb(t:∀a vs,H a=aa 039->H' a=aa 039):∀{d:az}{v:V},gb d=aq->RZ H d v->RZ H' d v
 |.none,_,_,h=>h
 |.bool _,_,_,h=>h
 |.int _,_,_,h=>h
 |.str _,_,_,h=>h
 |.list ds,_,n,h=>nomatch n
 |.tuple ds,_,n,h=>by
  obtain⟨a,vs,e,q,r⟩:=h
  exact#[a,vs,e,t _ _ q,cQ.gb t n r]
 |.dict _,_,n,_=>nomatch n
theorem cQ.gb(t:∀a vs,H a=aa 039->H' a=aa 039):∀{ds:036}{vs:041},gJ ds=aq->cQ H ds vs->cQ H' ds vs
 |[],_,_,h=>h
 |d::ds,vs,n,h=>by
  obtain⟨v,r,e,q,w⟩:=h
  have b:L2.gb d=aq/\gJ ds=aq:=by rw[gJ,lJ] at n;exact n
  exact#[v,r,e,RZ.gb t b.1 q,cQ.gb t b.2 w]
end
mutual
def iK:az->Bool
 |.list ds=>jP ds
 |.tuple ds=>jP ds
 |.dict _=>aR
 |_=>aq
def jP:List az->Bool
 |[]=>aq
 |d::r=>iK d&&jP r
end
mutual
theorem RZ.rx:∀{d:az}{v:V},iK d=aq->RZ H d v->RX H d v
 |.none,_,_,h=>h
 |.bool _,_,_,h=>h
 |.int _,_,_,h=>h
 |.str _,_,_,h=>h
 |.list ds,_,n,h=>by
  obtain⟨a,vs,e,q,r⟩:=h
  exact#[a,vs,e,q,cQ.rx n r]
 |.tuple ds,_,n,h=>by
  obtain⟨a,vs,e,q,r⟩:=h
  exact#[a,vs,e,q,cQ.rx n r]
 |.dict _,_,n,_=>nomatch n
theorem cQ.rx:∀{ds:036}{vs:041},jP ds=aq->cQ H ds vs->zN H ds vs
 |[],_,_,h=>h
 |d::ds,vs,n,h=>by
  obtain⟨v,r,e,q,t⟩:=h
  have a:iK d=aq/\jP ds=aq:=by rw[jP,lJ] at n;exact n
  exact#[v,r,e,RZ.rx a.1 q,cQ.rx a.2 t]
end
inductive Vl where
 |im (d:az)
 |ow (d:az)
 |ce (n:Nat)
 |sc (ns:028)
 |ks (ds:036)
 |tp (p:036) (d:az) (q:036)
abbrev En:=List (Option Vl)
inductive Ci where
 |dat (d:az)
 |iM (m:Nat)
inductive Cl where
 |lst (xs:List Ci)
 |lG (au:List (az×Ci))
 |yp
abbrev Ce:=List Cl
def inC(ns:028):Cl:=.lst (ns.map λn=>.dat (.int n))
def own1:Option Vl->Option V->List aH
 |some (.ow _),some 043=>[a]
 |_,_=>[]
def cR:En->St->List aH
 |x::e,v::s=>own1 x v++cR e s
 |_,_=>[]
theorem oO:∀{ao:En}{σ:St},a∈cR ao σ↔∃(i:Nat)(d:az),ao[i]?=aa (aa (Vl.ow d))/\σ[i]?=aa (aa (V.ref a))
 |[],σ=>by
  constructor
  .intro h;trivial
  simp
 |x::e,[]=>by
  constructor
  .intro h;trivial
  simp
 |x::e,v::s=>by
  rw[cR,gP,oO ];constructor
  .rintro(h|⟨i,d,h1,h2⟩)
   .unfold own1 at h;split at h
    .rw[jU] at h;subst h
     exact#[0,_,rfl,rfl]
    trivial
   .exact#[i+1,d,‹_›,‹_›]
  .rintro⟨i,d,h1,h2⟩
   cases i with
   |zero=>
    simp at h1 h2;subst h1 h2;exact .inl (jU.mpr rfl)
   |succ i=>grind
theorem J3:∀{ao:En}{σ:St}{i j:Nat}{d e:az},(cR ao σ).Nodup->ao[i]?=aa (aa (Vl.ow d))->σ[i]?=aa (aa (V.ref a))->ao[j]?=aa (aa (Vl.ow e))->σ[j]?=aa (aa (V.ref a))->i=j
 |[],_,i,_,_,_,_,h,_,_,_=>by simp_all
 |_::_,[],i,_,_,_,_,_,h,_,_=>by simp_all
 |x::en,v::s,i,j,d,e,nd,h1,h2,h3,h4=>by
  rw[cR,qF] at nd;cases i with
  |zero=>
   cases j with
   |zero=>rfl
   |succ j=>
    simp at h1 h2;subst h1 h2;have:=oO.mpr #[j,e,by trivial,by trivial];exact absurd rfl (nd.2.2 a (jU.mpr rfl) a this)
  |succ i=>
   cases j with
   |zero=>
    simp at h3 h4;subst h3 h4;have:=oO.mpr #[i,d,by trivial,by trivial];exact absurd rfl (nd.2.2 a (jU.mpr rfl) a this)
   |succ j=>rw[J3 (i:=i) nd.2.1 (by trivial) (by trivial) (by trivial) 07]
def fz1(x y:032):Prop:=y=x\/∃d,x=aa (.ow d)/\y=aa (.im d)
def Fz:En->En->Prop
 |[],[]=>True
 |x::r,y::t=>fz1 x y/\Fz r t
 |_,_=>False
theorem Fz.refl:∀e:En,Fz e e
 |[]=>trivial
 |x::r=>#[.inl rfl,Fz.refl r]
theorem Fz.trans:∀{a b c:En},Fz a b->Fz b c->Fz a c
 |[],[],[],_,_=>trivial
 |x::r,y::t,z::w,h,g=>by
  refine#[?_,Fz.trans h.2 g.2]
  rcases h.1 with e|⟨d,e1,e2⟩
  .rw[<-e];exact g.1
  .rcases g.1 with e|⟨f,j,i⟩
   .exact .inr #[d,e1,e.trans e2]
   lia
 |[],[],_::_,_,g=>nomatch g
 |[],_::_,_,h,_=>nomatch h
 |_::_,[],_,h,_=>nomatch h
 |_::_,_::_,[],_,g=>nomatch g
theorem Fz.len:∀{a b:En},Fz a b->b.length=a.length
 |[],[],_=>rfl
 |_::_,_::_,h=>by rw[eZ,eZ,Fz.len h.2]
 |[],_::_,h=>nomatch h
 |_::_,[],h=>nomatch h
theorem Fz.at:∀{a b:En}{i:Nat}{y:Vl},Fz a b->b[i]?=aa (aa y)->a[i]?=aa (aa y)\/∃d,a[i]?=aa (aa (.ow d))/\y=.im d
 |[],[],i,y,_,e=>by trivial
 |x::r,z::t,0,y,h,e=>by
  rcases h.1 with q|⟨d,f,c⟩
  .grind
  grind
 |x::r,z::t,i+1,y,h,e=>by
  simpa using Fz.at h.2 07
 |[],_::_,_,_,h,_=>nomatch h
 |_::_,[],_,_,h,_=>nomatch h
theorem ara(h:fz1 x y)(v:Option V):adz (own1 y v) (own1 x v):=by
 rcases h with e|⟨d,e1,e2⟩
 .simp[*]
 .rw[e2];exact List.nil_sublist _
theorem Fz.own:∀{a b:En}{σ:St},Fz a b->adz (cR b σ) (cR a σ)
 |[],[],σ,_=>by simp
 |x::r,y::t,[],h=>IV _
 |x::r,y::t,v::s,h=>(Nb (ara h.1 v) (Fz.own h.2))
 |[],_::_,_,h=>nomatch h
 |_::_,[],_,h=>nomatch h
abbrev bQ(Z Θ:List aH)(ao:En)(σ:St):List aH:=Z++(Θ++cR ao σ)
def nG(E H:Hp)(a:aH):az->Prop
 |.list ds=>∃vs,H a=aa (.lst vs)/\cQ E ds vs
 |.dict au=>∃vs,rE H a au vs/\jb E au vs
 |_=>False
theorem nG.same(s:cI E E')(h:∀o,H a=aa o->H' a=aa o)(r:nG E H a d):nG E' H' a d:=by
 cases d<;>first|exact r.elim|skip
 .obtain⟨vs,e,q⟩:=r
  exact#[vs,h _ e,q.same s]
 .obtain⟨vs,e,q⟩:=r
  refine#[vs,?_,q.same s]
  rcases e with⟨ks,k,ep,e⟩|⟨ks,k,ep,e⟩
  .exact .inl #[ks,k,ep,h _ e]
  .exact .inr #[ks,k,ep,h _ e]
theorem nG.rz(h:∀o,H a=aa o->E a=aa o)(r:nG E H a d):RZ E d 043:=by
 cases d<;>first|exact r.elim|skip
 .obtain⟨vs,e,q⟩:=r
  exact#[a,vs,rfl,h _ e,q]
 .obtain⟨vs,e,q⟩:=r
  refine#[a,vs,rfl,?_,q]
  rcases e with⟨ks,k,ep,e⟩|⟨ks,k,ep,e⟩
  .exact .inl #[ks,k,ep,h _ e]
  .exact .inr #[ks,k,ep,h _ e]
structure bL(Θ:List aH)(H H':Hp):Prop where
 keep:∀a o,H a=aa o->a∉Θ->H' a=aa o
 dom:∀a,H a≠aj->H' a≠aj
theorem bL.refl(Θ:040)(H:Hp):bL Θ H H:=#[λk k e k=>e,λk e=>e]
theorem bL.trans(a:bL Θ H H1)(b:bL Θ H1 H2):bL Θ H H2:=#[λc o e n=>b.keep _ _ (a.keep _ _ e n) n,λc e=>b.dom _ (a.dom _ e)]
theorem bL.none(k:bL Θ H H')(h:H' a=aj):H a=aj:=by
 cases e:H a with
 |none=>rfl
 |some o=>exact absurd h (k.dom a 07)
theorem bL.of(s:cI H H'):bL Θ H H':=⟨λa o e k=>s _ _ e,λa h=>by
 cases e:H a with
 |none=>lia
 |some o=>rw[s _ _ e];simp⟩
theorem bL.upd(h:H p=ud):bL Θ H (L2.upd H p o):=bL.of (cI.upd h)
theorem nC(k:bL Θ H H')(ht:∀a∈Θ,a∈Z)(hz:∀a,a∈Z'->a∈Z\/H a=aj):cI (er Z H) (er Z' H'):=λb o h=>by
 unfold er at h⊢;split at h
 .lia
 .rename_i n;rw[cC,k.keep _ _ h (λm=>n (ht b m))]
  grind
def HR(K:bw)(E H:Hp)(Θ:040):Vl->V->Prop
 |.im d,v=>RZ E d v
 |.ow d,v=>∃a,v=.ref a/\nG E H a d
 |.ce n,v=>∃a,v=.ref a/\Θ[n]?=aa a
 |.sc ns,v=>∃a,v=.ref a/\cA K E a 050
 |.ks ns,v=>∃a,v=.ref a/\dW K E a (ns.map toV)
 |.tp _ _ _,_=>False
def NT(o:Option HO):Prop:=∃u,o=aa u/\∀vs,u≠.tup vs
theorem NT.ne(h:NT o):o≠aj:=by
 obtain⟨u,rfl,_⟩:=h
 simp
theorem nG.nt(r:nG E H a d):NT (H a):=by
 cases d<;>first|exact r.elim|skip
 .obtain⟨vs,e,q⟩:=r
  exact#[_,e,λj z=>nomatch z]
 .obtain⟨vs,e,q⟩:=r
  rcases e with⟨ks,k,ep,e⟩|⟨ks,k,ep,e⟩
  .exact#[_,e,λj z=>nomatch z]
  .exact#[_,e,λj z=>nomatch z]
def uM(Θ:040)(H:Hp):Ci->V->Prop
 |.dat d,v=>gb d=aq/\RZ H d v
 |.iM m,v=>∃b,v=.ref b/\Θ[m]?=aa b
def jo(Θ:040)(H:Hp):List Ci->List V->Prop
 |[],vs=>vs=[]
 |x::xs,vs=>∃v r,vs=v::r/\uM Θ H x v/\jo Θ H xs r
def rF(Θ:040)(H:Hp)(a:aH):Cl->Prop
 |.lst xs=>∃vs,H a=aa (.lst vs)/\jo Θ H xs vs
 |.lG au=>∃vs,rE H a (au.map λp=>(p.1,.none)) vs/\jo Θ H (au.map (·.2)) vs
 |.yp=>NT (H a)
theorem uM.keep(k:∀a vs,H a=aa 039->H' a=aa 039)(t:∀(m:Nat)(b:aH),Θ[m]?=aa b->A'[m]?=aa b)(h:uM Θ H x v):uM A' H' x v:=by
 cases x with
 |dat d=>exact#[h.1,RZ.gb k h.1 h.2]
 |iM m=>obtain⟨b,e,q⟩:=h;exact#[b,e,t m b q]
theorem jo.keep(k:∀a vs,H a=aa 039->H' a=aa 039)(t:∀(m:Nat)(b:aH),Θ[m]?=aa b->A'[m]?=aa b):∀{xs:List Ci}{vs:041},jo Θ H xs vs->jo A' H' xs vs
 |[],_,h=>h
 |x::xs,vs,h=>by
  obtain⟨v,r,e,q,s⟩:=h
  exact#[v,r,e,q.keep k t,s.keep k t]
theorem rF.keep(k:∀a vs,H a=aa 039->H' a=aa 039)(t:∀(m:Nat)(b:aH),Θ[m]?=aa b->A'[m]?=aa b)(e:∀o,H a=aa o->H' a=aa o)(h:rF Θ H a c):rF A' H' a c:=by
 cases c with
 |lst xs=>obtain⟨vs,h1,h2⟩:=h;exact#[vs,e _ h1,h2.keep k t]
 |lG au=>
  obtain⟨vs,h1,h2⟩:=h
  refine#[vs,?_,h2.keep k t]
  rcases h1 with⟨ks,q,ep,h1⟩|⟨ks,q,ep,h1⟩
  .exact .inl #[ks,q,ep,e _ h1]
  .exact .inr #[ks,q,ep,e _ h1]
 |yp=>obtain⟨u,d,n⟩:=h;exact#[u,e _ d,n]
theorem rF.nt(h:rF Θ H a c):NT (H a):=by
 cases c with
 |lst xs=>obtain⟨vs,h1,h2⟩:=h;exact#[_,h1,λk z=>nomatch z]
 |lG au=>
  obtain⟨vs,h1,h2⟩:=h
  rcases h1 with⟨ks,q,ep,h1⟩|⟨ks,q,ep,h1⟩
  .exact#[_,h1,λk z=>nomatch z]
  .exact#[_,h1,λk z=>nomatch z]
 |yp=>exact h
theorem Qy:∀{ns:028}{vs:041},jo Θ H (ns.map λn=>.dat (.int n)) vs↔vs=ns.map V.int
 |[],vs=>Iff.rfl
 |n::ns,vs=>by
  constructor
  .rintro⟨v,r,e,q,s⟩
   rw[e,Qy.mp s,q.2];rfl
  .rintro rfl
   exact#[_,_,rfl,#[rfl,rfl],Qy.mpr rfl]
theorem apy:rF Θ H a (inC ns)↔H a=aa (.lst 050):=by
 constructor
 .rintro⟨vs,h1,h2⟩
  rw[h1,Qy.mp h2]
 .exact λh=>#[_,h,Qy.mpr rfl]
structure jJ(Θ:List aH)(C:Ce)(H:Hp):Prop where
 len:C.length=Θ.length
 at_:∀(n:Nat)(a:aH)(c:Cl),Θ[n]?=aa a->C[n]?=aa c->rF Θ H a c
theorem jJ.keep(c:jJ Θ C H)(k:∀a vs,H a=aa 039->H' a=aa 039)(e:∀a∈Θ,∀o,H a=aa o->H' a=aa o):jJ Θ C H':=
 #[c.len,λn a x e1 e2=>(c.at_ n a x e1 e2).keep k (λ_ _ h=>h) (e a (pZ e1))]
theorem jJ.same(c:jJ Θ C H)(s:cI H H'):jJ Θ C H':=c.keep (λk k h=>s _ _ h) λk k k h=>s _ _ h
structure Sm(K:bw)(Z Θ:List aH)(ao:En)(C:Ce)(σ:St)(H:Hp):Prop where
 len:σ.length=ao.length
 nd:(025).Nodup
 dom:∀a∈Z,NT (H a)
 slot:∀(i:Nat)(x:Vl),ao[i]?=aa (aa x)->∃v,σ[i]?=aa (aa v)/\HR K (er 025 H) H Θ x v
 cell:jJ Θ C H
theorem cI.HS{K:bw}{a:aH}(e:cI H H')(h:dW K H a xs):dW K H' a xs:=by
 rcases h with(h|⟨o,h⟩)|h
 .exact .inl (.inl (e _ _ h))
 .exact .inl (.inr #[o,e _ _ h])
 .exact .inr h
theorem jJ.dom(c:jJ Θ C H):∀a∈Θ,NT (H a):=λa m=>by
 obtain⟨n,b,e⟩:=wQ m
 have e1:Θ[n]?=aa a:=by simp_all
 have h2:n<C.length:=by rwa [c.len]
 exact(c.at_ n a _ e1 (mH h2)).nt
section
variable{K:bw}{C C':Ce}{σ:St}{H H':Hp}
theorem Sm.sI(S:001):∀a∈bQ Z Θ ao σ,NT (H a):=λa m=>by
 rcases gP.mp m with m|m
 .exact S.dom a m
 .rcases gP.mp m with m|m
  .exact S.cell.dom a m
  .obtain⟨i,d,e1,e2⟩:=oO.mp m
   obtain⟨v,c,b,e,r⟩:=S.slot i _ e1
   rw[e2] at c;cases c;cases e;exact r.nt
theorem Sm.Li(S:001):∀a∈bQ Z Θ ao σ,H a≠aj:=λa m=>(S.sI a m).ne
theorem Sm.tV(S:001):∀a∈Θ,a∈bQ Z Θ ao σ:=λa m=>jH _ (pB _ m)
theorem HR.same(s:cI E E')(h:∀d a,x=.ow d->v=.ref a->∀o,H a=aa o->H' a=aa o)(r:HR K E H Θ x v):HR K E' H' Θ x v:=by
 cases x with
 |im d=>exact RZ.same s r
 |ow d=>obtain⟨a,e,q⟩:=r;exact#[a,e,q.same s (h d a rfl e)]
 |ce n=>exact r
 |sc ns=>obtain⟨a,e,q⟩:=r;exact#[a,e,s.seq q]
 |ks ns=>obtain⟨a,e,q⟩:=r;exact#[a,e,s.HS q]
 |tp=>exact r
theorem Sm.pI(S:001)(m:a∈cR ao σ):a∉Z/\a∉Θ:=by
 have h:=S.nd
 grind
theorem Sm.go(S:001)(k:bL Θ H H')(c:jJ Θ C' H'):Sm K Z Θ ao C' σ H' where
 len:=S.len
 nd:=S.nd
 dom:=λa m=>by
  obtain⟨u,e,n⟩:=S.dom a m
  have h:=S.nd;rw[qF] at h
  exact#[u,k.keep _ _ e λz=>h.2.2 a m a (pB _ z) rfl,n]
 slot:=λi x e=>by
  obtain⟨v,e1,r⟩:=S.slot i x e
  refine#[v,e1,r.same (nC k S.tV λa m=>.inl m) λd a ex b o f=>k.keep _ _ f ?_]
  subst ex b
  exact(S.pI (oO.mpr #[i,d,e,e1])).2
 cell:=c
theorem Sm.fz(S:001)(f:Fz ao bK):Sm K Z Θ bK C σ H:=by
 have sub:adz _ (bQ Z Θ _ σ):=Nb (IV _) (Nb (IV _) f.own);have sm:=nC (bL.refl [] H) (λz m=>nomatch m) λa m=>.inl (sub.subset m)
 refine#[by rw[f.len];exact S.len,sub.nodup S.nd,S.dom,λi x p=>?_,S.cell]
 rcases f.at p with e|⟨d,e,ex⟩
 .obtain⟨v,e1,r⟩:=S.slot i x e
  exact#[v,e1,r.same sm λz z z z z c=>c]
 .subst ex
  obtain⟨v,e1,a,q,r⟩:=S.slot i _ e
  subst q
  refine#[_,e1,nG.rz (λo c=>?_) (r.same sm λz c=>c)]
  unfold er;rw[cC]
  .trivial
  .intro m;have k:=oO.mpr #[i,d,e,e1];rcases gP.mp m with m|m
   .exact(S.pI k).1 m
   .rcases gP.mp m with m|m
    .exact(S.pI k).2 m
    .obtain⟨j,s,l,n⟩:=oO.mp m
     have g:=S.nd;rw[qF] at g;have b:=g.2.1;rw[qF] at b;rcases f.at l with h|⟨z,z,h⟩
     .have:=J3 b.2.1 e e1 h n
      lia
     lia
end
section
variable{K:bw}{Z Θ:List aH}{ao bK:En}{C C':Ce}{σ:St}{H H':Hp}{a p:aH}
theorem Sm.pop(S:Sm K (a::Z) Θ ao C σ H):Sm K Z Θ ao C σ H:=by
 have sm:cI (er (bQ (a::Z) Θ ao σ) H) _:=nC (bL.refl [] H) (λk m=>nomatch m) λb m=>.inl (fU _ m)
 exact#[S.len,(lM.mp S.nd).2,λb m=>S.dom b (fU _ m),λi x e=>let ⟨v,e1,r⟩:=S.slot i x e;#[v,e1,r.same sm λk k k k k h=>h],S.cell]
theorem Sm.push(S:001)(a:H p=aj)(o:HO)(f:∀vs,o≠.tup vs):Sm K (p::Z) Θ ao C σ (upd H p o):=by
 have k:bL Θ H (upd H p o):=bL.upd a;have sm:=nC k S.tV λb m=>by
  rcases cB.mp m with rfl|m
  .exact .inr a
  .exact .inl m
 have c:jJ Θ C (upd H p o):=S.cell.same (cI.upd a)
 refine#[S.len,lM.mpr #[λm=>S.Li p m a,S.nd],λb m=>?_,λi x e=>?_,c]
 .rcases cB.mp m with rfl|m
  .exact#[o,fj,f]
  .obtain⟨u,e,n⟩:=S.dom b m
   exact#[u,by rwa [di (ue e a)],n]
 .obtain⟨v,e1,r⟩:=S.slot i x e
  refine#[v,e1,r.same sm λd b ex g o' f=>?_]
  rwa [di (ue f a)]
theorem Sm.zf(S:001)(s:cI H H'):Sm K Z Θ ao C σ H':=
 S.go (bL.of s) (S.cell.same s)
def Res(K:bw)(Z Θ:040)(ao:En)(C:Ce)(σ:St)(H H':Hp):Vl->V->Prop
 |.im d,v=>Sm K Z Θ ao C σ H'/\RZ (er 025 H') d v
 |.ow d,v=>∃a,v=.ref a/\H a=aj/\Sm K (a::Z) Θ ao C σ H'/\nG (er (bQ (a::Z) Θ ao σ) H') H' a d
 |.ce n,v=>Sm K Z Θ ao C σ H'/\∃a,v=.ref a/\Θ[n]?=aa a
 |.sc ns,v=>Sm K Z Θ ao C σ H'/\∃a,v=.ref a/\cA K (er 025 H') a 050
 |.ks ns,v=>Sm K Z Θ ao C σ H'/\∃a,v=.ref a/\dW K (er 025 H') a (ns.map toV)
 |.tp _ _ _,_=>False
def Eg(E T:Hp):az->V->Prop
 |.list ds,v=>∃a vs,v=.ref a/\T a=aa (.lst vs)/\cQ E ds vs
 |.dict au,v=>∃a vs,v=.ref a/\rE T a au vs/\jb E au vs
 |d,v=>RZ E d v
theorem Eg.same(s:cI E E')(t:cI T T')(h:Eg E T d v):Eg E' T' d v:=by
 cases d<;>first|exact RZ.same s h|skip
 .obtain⟨a,vs,e,q,r⟩:=h
  exact#[a,vs,e,t _ _ q,r.same s]
 .obtain⟨a,vs,e,q,r⟩:=h
  exact#[a,vs,e,q.same t,r.same s]
theorem RZ.bor(t:cI E T)(h:RZ E d v):Eg E T d v:=by
 cases d<;>first|exact h|skip
 .obtain⟨a,vs,e,q,r⟩:=h
  exact#[a,vs,e,t _ _ q,r]
 .obtain⟨a,vs,e,q,r⟩:=h
  exact#[a,vs,e,q.same t,r]
abbrev gW(Z Θ:List aH)(ao:En)(σ:St)(H:Hp)(d:az)(v:V):Prop:=Eg (er (bQ Z Θ ao σ) H) (er Θ H) d v
theorem vG(h:∀a,a∈Z'->a∈Z):cI (er Z H) (er Z' H):=nC (bL.refl [] H) (λk m=>nomatch m) λb m=>.inl (h b m)
theorem aap:cI (er 025 H) (er Θ H):=vG λa m=>jH _ (pB _ m)
theorem Fz.sub(f:Fz ao bK):∀a,a∈bQ Z Θ bK σ->a∈bQ Z Θ ao σ:=λa m=>
 (Nb (IV _) (Nb (IV _) f.own)).subset m
theorem aaq(S:001)(k:bL Θ H H')(f:Fz ao bK):cI (er 025 H) (er (bQ Z Θ bK σ) H'):=nC k S.tV λa m=>.inl (f.sub a m)
theorem ahE(k:bL Θ H H'):cI (er Θ H) (er Θ H'):=nC k (λj m=>m) λa m=>.inl m
theorem gW.go(h:gW Z Θ ao σ H d v)(S:001)(k:bL Θ H H')(f:Fz ao bK):gW Z Θ bK σ H' d v:=Eg.same (aaq S k f) (ahE k) h
noncomputable def dat:Vl->Option az
 |.im d=>aa d
 |.ow d=>aa d
 |.ce _=>aj
 |.sc _=>aj
 |.ks _=>aj
 |.tp _ _ _=>aj
theorem Res.sm(h:Res K Z Θ ao C σ H H' r v):Sm K Z Θ ao C σ H':=by
 cases r with
 |im d=>exact h.1
 |ow d=>obtain⟨a,_,_,S,_⟩:=h;exact S.pop
 |ce n=>exact h.1
 |sc ns=>exact h.1
 |ks ns=>exact h.1
 |tp=>trivial
theorem Res.bor(h:Res K Z Θ ao C σ H H' r v)(e:dat r=aa d):gW Z Θ ao σ H' d v:=by
 cases r with
 |im d'=>cases e;exact RZ.bor aap h.2
 |ow d'=>
  cases(e)
  obtain⟨a,rfl,_,S,r⟩:=h
  have g:=λm=>(lM.mp S.nd).1 (jH _ (pB _ m))
  have sm:cI (er (bQ (a::Z) Θ ao σ) H') _:=vG λb m=>fU _ m
  have c:∀o,H' a=aa o->er Θ H' a=aa o:=λo f=>by unfold er;lia
  cases d<;>first|exact r.elim|skip
  .obtain⟨vs,e,q⟩:=r
   exact#[a,vs,rfl,c _ e,q.same sm]
  .obtain⟨vs,e,q⟩:=r
   refine#[a,vs,rfl,?_,q.same sm]
   rcases e with⟨ks,k,ep,e⟩|⟨ks,k,ep,e⟩
   .exact .inl #[ks,k,ep,c _ e]
   .exact .inr #[ks,k,ep,c _ e]
 |ce n=>cases e
 |sc ns=>cases e
 |ks ns=>cases e
 |tp=>cases e
noncomputable def still:Vl->Vl
 |.ow d=>.im d
 |r=>r
theorem Res.still(h:Res K Z Θ ao C σ H H' r v):Res K Z Θ ao C σ H H' (still r) v:=by
 cases r with
 |ow d=>
  obtain⟨a,rfl,e,S,r⟩:=h
  refine#[S.pop,nG.rz (λo c=>?_) (r.same (vG λb m=>fU _ m) λ_ h=>h)]
  unfold er
  rwa [cC (show ¬a∈bQ Z Θ _ σ from(lM.mp S.nd).1)]
 |im d=>exact h
 |ce n=>exact h
 |sc ns=>exact h
 |ks ns=>exact h
 |tp=>exact h
theorem Res.from(h:Res K Z Θ ao C σ H H' r v)(k:bL Θ H0 H):Res K Z Θ ao C σ H0 H' r v:=by
 cases r with
 |ow d=>
  obtain⟨a,e,b,S,r⟩:=h
  exact#[a,e,k.none b,S,r]
 |im d=>exact h
 |ce n=>exact h
 |sc ns=>exact h
 |ks ns=>exact h
 |tp=>exact h
theorem G7(S:001)(h:H a=aa 039):er 025 H a=aa 039:=by
 unfold er;rw[cC]
 .exact h
 .intro m
  obtain⟨u,e,n⟩:=S.sI a m
  grind
def rst(r:Vl)(ao bK:En):En:=match r with
 |.im d=>if gb d then ao else bK
 |_=>bK
theorem Res.rst(S:001)(k:bL Θ H H')(h:Res K Z Θ bK C' σ H H' r v):Res K Z Θ (rst r ao bK) C' σ H H' r v:=by
 cases r with
 |im d=>
  by_cases f:L2.gb d=aq
  .have:L2.rst (.im d) _ bK=ao:=bZ f;rw[this];have b:=S.go k h.1.cell
   exact#[b,h.2.gb (λa vs e=>G7 b (jB e)) f]
  .have:L2.rst (.im d) ao _=bK:=cC f
   lia
 |ow d=>exact h
 |ce n=>exact h
 |sc ns=>exact h
 |ks ns=>exact h
 |tp=>exact h
theorem Fz.rst(r:Vl)(f:Fz ao bK):Fz ao (rst r ao bK):=by
 cases r with
 |im d=>
  show Fz _ (if L2.gb d then ao else bK);split
  .exact Fz.refl _
  trivial
 |ow d=>exact f
 |ce n=>exact f
 |sc ns=>exact f
 |ks ns=>exact f
 |tp=>exact f
theorem j4(S:001)(f:nA d=aq)(a:v=toV d):Res K Z Θ ao C σ H H (.im d) v:=#[S,by rw[a];exact aq9 f]
theorem qN(S:001)(r:cQ (er 025 H) ds vs)(a:H p=aj):Res K Z Θ ao C σ H (upd H p (.lst vs)) (005 ds) (.ref p):=by
 refine#[p,rfl,a,S.push a _ (λ_ z=>nomatch z),vs,fj,r.same (nC (bL.upd a) S.tV λb m=>?_)]
 grind
theorem agB(S:001)(c:∀vs,o≠.tup vs)(d:rE (upd H p o) p au vs)(r:jb (er (bQ Z Θ ao σ) H) au vs)(a:H p=aj):Res K Z Θ ao C σ H (upd H p o) (.ow (.dict au)) (.ref p):=by
 refine#[p,rfl,a,S.push a _ c,vs,d,r.same (nC (bL.upd a) S.tV λb m=>?_)]
 grind
theorem Q6(S:001)(r:cQ (er 025 H) ds vs)(a:H p=aj):Res K Z Θ ao C σ H (upd H p 039) (.im (.tuple ds)) (.ref p):=by
 have c:=S.zf (cI.upd (o:=.tup vs) a)
 refine#[c,p,vs,rfl,?_,r.same (nC (bL.upd a) S.tV λb m=>.inl m)]
 unfold er;rw[cC (λm=>S.Li p m a),fj]
end
inductive aiY{α β:Type}(o:Option α)(g:α->Option β)(y:β):Prop
 |mk (x:α) (h1:o=aa x) (h2:g x=aa y):aiY o g y
theorem dB(h:o.bind g=aa y):aiY o g y:=by
 cases o with
 |none=>cases h
 |some x=>exact#[x,rfl,h]
def wF:Vl->Option az
 |.im y=>aa y
 |_=>aj
theorem G8(h:wF x=aa y):x=.im y:=by
 cases x<;>cases h;rfl
def Sw:az->Option Str
 |.str z=>aa z
 |_=>aj
theorem arb(h:Sw d=aa z):d=.str z:=by
 cases d<;>cases h;rfl
def intD:az->Option Int
 |.int k=>aa k
 |_=>aj
theorem agC(h:intD d=aa k):d=.int k:=by
 cases d<;>cases h;rfl
abbrev FE:=En->Ce->Option (Vl×En×Ce)
abbrev FB:=En->Ce->Option (az×En×Ce)
abbrev FT:=En->Ce->Option (Bool×Ce)
abbrev Bt:=En->Ce->Option (List az×En×Ce)
abbrev FA:=En->Ce->Option (List Vl×En×Ce)
inductive tE(K:bw)(f:FE)(σ:St)(H:Hp)(Q:VK):Prop
 |mk (Z Θ:040) (ao:En) (C:Ce) (r:Vl) (bK:En) (C':Ce) (S:001) (hf:f ao C=aa (r,bK,C')) (q:∀v H',bL Θ H H'->Fz ao bK->Res K Z Θ bK C' σ H H' r v->Q v H'):tE K f σ H Q
inductive eN(K:bw)(f:FB)(σ:St)(H:Hp)(Q:VK):Prop
 |mk (Z Θ:040) (ao:En) (C:Ce) (d:az) (bK:En) (C':Ce) (S:001) (hf:f ao C=aa (d,bK,C')) (q:∀v H',bL Θ H H'->Fz ao bK->Sm K Z Θ bK C' σ H'->gW Z Θ bK σ H' d v->Q v H'):eN K f σ H Q
inductive gY(K:bw)(f:FT)(σ:St)(H:Hp)(Q:Bool->Hp->Prop):Prop
 |mk (Z Θ:040) (ao:En) (C:Ce) (b:Bool) (C':Ce) (S:001) (hf:f ao C=aa (b,C')) (q:∀H',bL Θ H H'->Sm K Z Θ ao C' σ H'->Q b H'):gY K f σ H Q
inductive Sx(E T:Hp):List az->List V->Prop
 |nil:Sx E T [] []
 |cons {d:az} {v:V} {ds:036} {vs:041}:Eg E T d v->Sx E T ds vs->Sx E T (d::ds) (v::vs)
abbrev RQ(Z Θ:List aH)(ao:En)(σ:St)(H:Hp)(ds:List az)(vs:List V):Prop:=Sx (er (bQ Z Θ ao σ) H) (er Θ H) ds vs
inductive zO(K:bw)(f:Bt)(σ:St)(H:Hp)(Q:List V->Hp->Prop):Prop
 |mk (Z Θ:040) (ao:En) (C:Ce) (ds:036) (bK:En) (C':Ce) (S:001) (hf:f ao C=aa (ds,bK,C')) (q:∀vs H',bL Θ H H'->Fz ao bK->Sm K Z Θ bK C' σ H'->RQ Z Θ bK σ H' ds vs->Q vs H'):zO K f σ H Q
theorem PE.weak(h:PE X e t)(w:∀σ H Q,t' σ H Q->t σ H Q):PE X e t':=λaC s σ H Q I q=>h _ s σ H Q I (w σ H Q q)
theorem PT.weak(h:PT X e t)(w:∀σ H Q,t' σ H Q->t σ H Q):PT X e t':=λaC s σ H Q I q=>h _ s σ H Q I (w σ H Q q)
theorem PA.weak(h:PA X e t)(w:∀σ H Q,t' σ H Q->t σ H Q):PA X e t':=λp aC s σ H Q I q=>h p _ s σ H Q I (w σ H Q q)
theorem PS.weak(h:PS X e t)(w:∀D σ H,t' D σ H->t D σ H):PS X e t':=λaC s σ H D I q=>h _ s σ H D I (w D σ H q)
theorem jQ.weak(h:jQ X e t)(w:∀D σ H,t' D σ H->t D σ H):jQ X e t':=λaC s σ H D I q=>h _ s σ H D I (w D σ H q)
theorem PW.weak(h:PW X e t)(w:∀σ H Q,t' σ H Q->t σ H Q):PW X e t':=λwh aC s σ H Q I q=>h wh _ s σ H Q I (w σ H Q q)
def aO(i:Nat):FE:=λao C=>match ao[i]? with
 |some (some (.im d))=>aa (.im d,ao,C)
 |some (some (.ow d))=>aa (.im d,ao.set i (aa (.im d)),C)
 |some (some (.ce n))=>aa (.ce n,ao,C)
 |some (some (.sc ns))=>aa (.sc ns,ao,C)
 |some (some (.ks ns))=>aa (.ks ns,ao,C)
 |_=>aj
def aM(i:Nat):FB:=λao C=>match ao[i]? with
 |some (some x)=>(dat x).map λd=>(d,ao,C)
 |_=>aj
noncomputable def aW (d:az):FE:=λao C=>aa (.im d,ao,C)
def aG(f:FE):FB:=λao C=>match f ao C with
 |some (r,e',C')=>(dat r).map λd=>(d,e',C')
 |none=>aj
theorem ahF:∀{ao:En}{i:Nat}{d:az},ao[i]?=aa (aa (.ow d))->Fz ao (ao.set i (aa (.im d)))
 |[],i,d,e=>by simp_all
 |x::r,0,d,e=>by simp at e;subst e;exact#[.inr #[d,rfl,rfl],Fz.refl r]
 |x::r,i+1,d,e=>#[.inl rfl,ahF 07]
theorem atv(h:PE X e (lA i)):PE X e (tE X.K (aO i)):=h.weak λσ H Q bz=>by
 obtain⟨Z,Θ,ao,C,r,bK,C',S,b,q⟩:=bz
 unfold aO at b;split at b;all_goals ((rename_i a;cases(b)))
 .obtain⟨v,e1,r⟩:=S.slot i _ a
  exact#[v,e1,q v H 009 024 #[S,r]]
 .have f:=ahF a
  obtain⟨v,e1,r⟩:=S.slot i _ a
  have c:=S.fz f
  refine#[v,e1,q v H 009 f #[c,?_]]
  have hi:=by
   have:=lW.mp a;exact this.1
  obtain⟨d,e2,r'⟩:=c.slot i _ (by rw[List.getElem?_set,bZ rfl,bZ hi])
  rw[e1] at e2;cases e2;trivial
 .obtain⟨v,e1,r⟩:=S.slot i _ a
  exact#[v,e1,q v H 009 024 #[S,r]]
 .obtain⟨v,e1,r⟩:=S.slot i _ a
  exact#[v,e1,q v H 009 024 #[S,r]]
 .obtain⟨v,e1,r⟩:=S.slot i _ a
  exact#[v,e1,q v H 009 024 #[S,r]]
theorem atw(h:PE X e (lA i)):PE X e (eN X.K (aM i)):=h.weak λσ H Q bz=>by
 obtain⟨Z,Θ,ao,C,d,bK,C',S,c,q⟩:=bz
 unfold aM at c;split at c
 .rename_i x f
  obtain⟨v,e1,r⟩:=S.slot i _ f
  have ex:dat x=aa d/\ao=bK/\C=C':=by
   cases hd:dat x with
   |none=>simp_all
   |some d'=>simp_all
  obtain⟨ex,rfl,rfl⟩:=ex
  refine#[v,e1,q v H 009 024 S ?_]
  cases x with
  |im d'=>cases ex;exact RZ.bor aap r
  |ow d'=>
   cases(ex)
   obtain⟨a,rfl,r⟩:=r
   have j:=(S.pI (oO.mpr #[i,_,f,e1])).2;have b:∀o,H a=aa o->er Θ H a=aa o:=λo g=>by unfold er;lia
   cases d<;>first|exact r.elim|skip
   .obtain⟨vs,e,q⟩:=r
    exact#[a,vs,rfl,b _ e,q]
   .obtain⟨vs,e,q⟩:=r
    refine#[a,vs,rfl,?_,q]
    rcases e with⟨ks,k,ep,e⟩|⟨ks,k,ep,e⟩
    .exact .inl #[ks,k,ep,b _ e]
    .exact .inr #[ks,k,ep,b _ e]
  |ce n=>trivial
  |sc ns=>trivial
  |ks ns=>trivial
  |tp=>trivial
 lia
theorem iH(h:PE X e (tC v))(f:nA d=aq:=by rfl)(a:v=toV d:=by rfl):PE X e (tE X.K (aW d)):=h.weak λσ H Q bz=>by
 obtain⟨Z,Θ,ao,C,r,bK,C',S,b,q⟩:=bz
 cases(b);exact q v H 009 024 (j4 S f a)
theorem aZ(h:PE X e (tE X.K f)):PE X e (eN X.K (aG f)):=h.weak λσ H Q bz=>by
 obtain⟨Z,Θ,ao,C,d,bK,C',S,a,q⟩:=bz
 unfold aG at a;split at a
 .rename_i r c C1 b;cases hd:dat r with
  |none=>grind
  |some d'=>
   rw[hd] at a;cases(a)
   exact#[Z,Θ,_,C,r,_,C',S,b,λv H' k f R=>q v H' k f R.sm (R.bor hd)]
 lia
noncomputable def fG:Nat:=1000000
theorem sY(h:n<=fG):n<=cG:=by rw[jV];unfold fG at h;lia
def jt(K:bw)(r:R2)(op:az->az->Option Vl):Prop:=
 ∀(Z Θ:040)(ao:En)(C:Ce)(σ:St)(H:Hp)(x y:V)(dx dy:az)(res:Vl),Sm K Z Θ ao C σ H->gW Z Θ ao σ H dx x->gW Z Θ ao σ H dy y->op dx dy=aa res->
  ∀Q:VK,(∀v H',bL Θ H H'->Res K Z Θ ao C σ H H' res v->Q v H')->r x y H Q
def aX(op:az->az->Option Vl)(fa fb:FB):FE:=λao C=>match fa ao C with
 |some (x,e1,C1)=>match fb e1 C1 with
  |some (y,e2,C2)=>match op x y with
   |some r=>aa (r,rst r ao e2,C2)
   |none=>aj
  |none=>aj
 |none=>aj
theorem Qz{K:bw}{r:R2}(L:jt K r op):∀σ H Q,tE K (aX op fa fb) σ H Q->DX r (eN K fa) (eN K fb) σ H Q:=by
 rintro σ H Q ⟨Z,Θ,ao,C,res,bK,C',S,hf,q⟩;unfold aX at hf;refine hide λGG e=>?_
 split at hf
 .rename_i x e1 C1 h1;split at hf
  .rename_i y e2 C2 h2;split at hf
   .rename_i h;cases(hf);refine e (#[Z,Θ,_,C,x,e1,C1,S,h1,λv H1 b g d b1=>#[Z,Θ,e1,C1,y,e2,C',d,h2,λu H2 a c f b2=>(L Z Θ e2 C' σ H2 v u x y _ f (b1.go d a c) b2 h Q λz i k3 R=>?_)]]);have k:=(b.trans a).trans k3;exact q z i k ((g.trans c).rst _) ((R.from (b.trans a)).rst S k)
   lia
  lia
 lia
theorem iI(d:dX X (qL o) r)(L:jt X.K r op)(e:PE X a (eN X.K fa))(c:PE X b (eN X.K fb)):PE X (.BinOp a o b pos) (tE X.K (aX op fa fb)):=(aim d e c).weak (Qz L)
theorem pJ(e:dX X (iu o) r)(L:jt X.K r op)(f:PE X a (eN X.K fa))(c:PE X b (eN X.K fb))(d:Ff o b=aR):PE X (.Compare a [o] [b] pos) (tE X.K (aX op fa fb)):=(aqM e f c d).weak (Qz L)
theorem au1(d:uR X r)(L:jt X.K r op)(e:PE X a (eN X.K fa))(c:PE X b (eN X.K fb))(hs:JX b):PE X (.Subscript a b pos) (tE X.K (aX op fa fb)):=(aai d e c hs).weak (Qz L)
theorem gW.int(h:gW Z Θ ao σ H (.int i) x):x=.int i:=h
theorem gW.str(h:gW Z Θ ao σ H (.str i) x):x=.str i:=h
theorem gW.tup(h:gW Z Θ ao σ H (.tuple ds) x):∃a vs,x=.ref a/\H a=aa 039/\cQ (er 025 H) ds vs:=by
 obtain⟨a,vs,e,q,r⟩:=h
 exact#[a,vs,e,jB q,r]
theorem gW.lst(h:gW Z Θ ao σ H (.list ds) x):∃a vs,x=.ref a/\H a=aa (.lst vs)/\cQ (er 025 H) ds vs:=by
 obtain⟨a,vs,e,q,r⟩:=h
 exact#[a,vs,e,jB q,r]
theorem gW.dct(h:gW Z Θ ao σ H (.dict au) x):∃a vs,x=.ref a/\rE H a au vs/\jb (er 025 H) au vs:=by
 obtain⟨a,vs,e,q,r⟩:=h
 exact#[a,vs,e,q.same (vN _ _),r]
theorem gW.flat(f:nA d=aq)(h:gW Z Θ ao σ H d x):x=toV d:=by
 cases d<;>first|exact h|cases f
theorem gW.rx(n:iK d=aq)(h:gW Z Θ ao σ H d x):RX H d x:=by
 cases d<;>first|exact h|skip
 .obtain⟨a,vs,e,q,r⟩:=h
  exact#[a,vs,e,jB q,(r.same (vN _ _)).rx n]
 .obtain⟨a,vs,e,q,r⟩:=h
  exact#[a,vs,e,jB q,(r.same (vN _ _)).rx n]
 trivial
section
variable{X:Cx}
def cZ:az->az->Option Vl
 |.int i,.int j=>aa (00 (i+j))
 |.str x,.str y=>if x.length+y.length<=fG then aa (000 (x++y)) else aj
 |.list xs,.list ys=>if xs.length+ys.length<=fG then aa (005 (xs++ys)) else aj
 |.tuple xs,.tuple ys=>if xs.isEmpty then aa (.im (.tuple ys)) else if xs.length+ys.length<=fG then aa (.im (.tuple (xs++ys))) else aj
 |_,_=>aj
def aiq(K:bw):R2:=λx y H Q=>∃a b ys,x=.ref a/\y=.ref b/\dW K H a []/\dW K H b ys/\Q (.ref b) H
theorem arc:dX X (qL .Add) (aiq X.K):=by
 intro aC s σ H x y v u Q I rx m h;refine hide λGG p=>?_
 obtain⟨a,b,ys,rfl,rfl,t,r,q⟩:=h
 cases rx;cases m
 obtain⟨B,w,p1,_⟩:=I.tuple t
 obtain⟨i,C,p2,_⟩:=I.tuple r
 obtain⟨⟨cls,o,data,sl⟩,l,j,n,k⟩:=id p1
 obtain⟨⟨g,z,f,A⟩,c,d,n2,e⟩:=id p2
 simp only at j k d e;subst j k d e;exact p (adt ⟨_,l,rfl⟩ ⟨_,c,rfl⟩ acs ade abT abQ (abO _ _)
  (tuple_addW0 a b _ _ n n2 o _ sl _ (by cases w;rfl)) ⟨l,c,⟨.ref b,H,I,rfl,q⟩⟩)
def air(K:bw):R2:=λx y H Q=>(((tU λi j=>.int (i+j)) x y H Q\/∃i j,x=.str i/\y=.str j/\i.length+j.length<=cG/\Q (.str (i++j)) H)\/aaN x y H Q)\/aiq K x y H Q\/ain K x y H Q
theorem ard:dX X (qL .Add) (air X.K):=((as5.or anb).or ahv).or (arc.or aqS)
theorem atx{K:bw}:jt K (air K) cZ:=by
 intro Z Θ ao C σ H x y dx s res S f d e Q q;unfold cZ at e;split at e
 .cases e;cases f.int;cases d.int;exact .inl (.inl (.inl #[_,_,rfl,rfl,q _ _ 009 030]))
 .split at e
  .rename_i hl;cases e;cases f.str;cases d.str;exact .inl (.inl (.inr #[_,_,rfl,rfl,sY hl,q _ _ 009 030]))
  lia
 .split at e
  .rename_i hl;cases e
   obtain⟨a,vs,rfl,i,c⟩:=f.lst
   obtain⟨b,ws,rfl,h,g⟩:=d.lst
   exact .inl (.inr #[a,b,vs,ws,rfl,rfl,i,h,by rw[lg c,lg g];exact sY hl,λp j=>q _ _ (bL.upd j) (qN S (Gw c g) j)])
  lia
 .split at e
  .rename_i l;cases e;have:=List.isEmpty_iff.mp l;subst this;have k:=d
   obtain⟨a,vs,rfl,i,c⟩:=f.tup
   obtain⟨b,ws,rfl,h,g⟩:=d.tup
   cases c
   exact .inr (.inl #[a,b,ws,rfl,rfl,dW.of i,dW.of h,q _ _ 009 #[S,k]])
  split at e
  .rename_i ys l hl;cases e;refine hide λGG r=>?_
   obtain⟨a,vs,rfl,i,c⟩:=f.tup
   obtain⟨b,ws,rfl,h,g⟩:=d.tup
   have n:=lg c;have m:=lg g;have o:vs≠[]:=λz=>c8
   refine r (.inr (.inr #[a,b,vs,ws,rfl,rfl,dW.of i,dW.of h,o,by rw[n,m];exact sY hl,λz=>?_,λw p j=>q _ _ (bL.upd j) (Q6 S (Gw c g) j)]));subst z;have:=List.eq_nil_of_length_eq_zero m.symm;subst this;rw[jg] at q;exact q _ _ 009 #[S,f]
  lia
 lia
def Az:az->az->Option Vl
 |.int i,.int j=>aa (00 (i-j))
 |_,_=>aj
theorem YG{K:bw}(h:∀dx a res,op dx a=aa res->∃i j d,dx=.int i/\a=.int j/\res=.im d/\nA d=aq/\g i j=toV d):jt K (tU g) op:=by
 intro Z Θ ao C σ H x y dx a res S k c e Q q
 obtain⟨i,j,d,rfl,rfl,rfl,f,b⟩:=h _ _ _ e
 cases k.int;cases c.int
 exact#[_,_,rfl,rfl,q _ _ 009 (j4 S f b)]
theorem Rq{K:bw}(h:∀dx a res,op dx a=aa res->∃i j d,dx=.int i/\a=.int j/\res=.im d/\nA d=aq/\g i j=toV d/\Cn i j):jt K (rI Cn g) op:=by
 intro Z Θ ao C σ H x y dx a res S l k e Q q
 obtain⟨i,j,d,rfl,rfl,rfl,f,b,c⟩:=h _ _ _ e
 cases l.int;cases k.int
 exact#[_,_,rfl,rfl,c,q _ _ 009 (j4 S f b)]
theorem Kl{K:bw}:jt K (tU λi j=>.int (i-j)) Az:=YG λdx a res e=>by
 unfold Az at e;split at e<;>cases e
 exact#[_,_,_,rfl,rfl,rfl,rfl,rfl]
def nZ:az->az->Option Vl
 |.int i,.int j=>if 0<j then aa (00 (i%j)) else aj
 |_,_=>aj
theorem xJ{K:bw}:jt K (rI (λ_ j=>0<j) λi j=>.int (i%j)) nZ:=Rq λdx a res e=>by
 unfold nZ at e;split at e
 .split at e
  .rename_i h;cases e;exact#[_,_,_,rfl,rfl,rfl,rfl,rfl,h]
  lia
 lia
def vH:az->az->Option Vl
 |.int i,.int j=>if 0<j/\j<1073741824 then aa (00 (i / j)) else aj
 |_,_=>aj
theorem J4{K:bw}:jt K (rI aiM λi j=>.int (i / j)) vH:=Rq λdx a res e=>by
 unfold vH at e;split at e
 .split at e
  .rename_i h;cases e;exact#[_,_,_,rfl,rfl,rfl,rfl,rfl,h]
  lia
 lia
def uE:az->az->Option Vl
 |.int i,.int j=>if 0<=j/\j<=1000000/\i.natAbs<2^64 then aa (00 (i^j.toNat)) else aj
 |_,_=>aj
theorem Rr{K:bw}:jt K (rI aiN λi j=>.int (i^j.toNat)) uE:=Rq λdx a res e=>by
 unfold uE at e;split at e
 .split at e
  .rename_i h;cases e;exact#[_,_,_,rfl,rfl,rfl,rfl,rfl,h]
  lia
 lia
def mO:az->az->Option Vl
 |.int i,.int j=>if(-(2^64)<i/\i<2^64)\/(-(2^64)<j/\j<2^64) then aa (00 (i*j)) else aj
 |_,_=>aj
theorem uA{K:bw}:jt K (rI Lg λi j=>.int (i*j)) mO:=Rq λdx a res e=>by
 unfold mO at e;split at e
 .split at e
  .rename_i h;cases e;exact#[_,_,_,rfl,rfl,rfl,rfl,rfl,h]
  lia
 lia
end
section
variable{X:Cx}
noncomputable def uV:az->az->Option Bool
 |.int i,.int j=>aa (i==j)
 |.str x,.str y=>aa (x==y)
 |.bool a,.bool b=>aa (a==b)
 |d,e=>if iK d&&iK e&&(jk d&&jk e) then aa (xq d e) else aj
def j5(d e:az):Option Vl:=(uV d e).map λb=>.im (.bool b)
def j6(d e:az):Option Vl:=(uV d e).map λb=>.im (.bool (!b))
theorem anu(hu:X.A.units+64<fJ):dX X (iu .Eq) (λx y H Q=>∃d e,RX H d x/\RX H e y/\jk d=aq/\jk e=aq/\Q (.bl (xq d e)) H):=by
 intro aC s σ H x y v u Q I rx a h;refine hide λGG c=>?_
 obtain⟨d,e,g,f,h1,h2,q⟩:=h
 obtain⟨as,i⟩:=RD.reads I (g.rd ) rx
 obtain⟨bs,b⟩:=RD.reads I (f.rd ) a
 exact c (PySem.SeqAt.compareEq_shaped i b h1 h2 hu #[.bl _,H,I,rfl,q])
def aiZ:R2:=λx y H Q=>rEq x y H Q\/∃d e,RX H d x/\RX H e y/\jk d=aq/\jk e=aq/\Q (.bl (xq d e)) H
def ai0:R2:=λx y H Q=>rNe x y H Q\/∃d e,RX H d x/\RX H e y/\jk d=aq/\jk e=aq/\Q (.bl (!PyData.eqv d e)) H
theorem uB(hu:X.A.units+64<fJ):dX X (iu .Eq) aiZ:=auN.or (anu hu)
theorem vI(hu:X.A.units+64<fJ):dX X (iu .NotEq) ai0:=auO.or (ank hu)
theorem aew(h:uV d e=aa b):(nA d=aq/\nA e=aq/\aaJ (toV d) (toV e)=aq/\b=decide (toV d=toV e))\/(iK d=aq/\iK e=aq/\jk d=aq/\jk e=aq/\b=xq d e):=by
 unfold uV at h;split at h
 .cases h;exact .inl #[rfl,rfl,rfl,Yv.symm]
 .cases h;exact .inl #[rfl,rfl,rfl,Yw.symm]
 .cases h;exact .inl #[rfl,rfl,rfl,Zu.symm]
 simp_all
theorem uF{K:bw}:jt K aiZ j5:=by
 intro Z Θ ao C σ H x y dx c res S d f e Q q;unfold j5 at e;cases h:uV dx c with
 |none=>grind
 |some b=>
  rw[h] at e;cases e;have a:=q _ H 009 030;rcases aew h with⟨f1,f2,sc,eb⟩|⟨n1,n2,s1,s2,eb⟩
  .rw[d.flat f1,f.flat f2];rw[eb] at a;exact .inl #[sc,a]
  .rw[eb] at a;exact .inr #[dx,c,d.rx n1,f.rx n2,s1,s2,a]
theorem vO{K:bw}:jt K ai0 j6:=by
 intro Z Θ ao C σ H x y dx c res S d f e Q q;unfold j6 at e;cases h:uV dx c with
 |none=>grind
 |some b=>
  rw[h] at e;cases e;have a:=q _ H 009 030;rcases aew h with⟨f1,f2,sc,eb⟩|⟨n1,n2,s1,s2,eb⟩
  .rw[d.flat f1,f.flat f2];rw[eb] at a;exact .inl #[sc,a]
  .rw[eb] at a;exact .inr #[dx,c,d.rx n1,f.rx n2,s1,s2,a]
def strLt(x y:Str):Bool:=decide (x.cps.toList<y.cps.toList)
def ais(xs ys:036):Option Bool:=match keysOf xs,keysOf ys with
 |some ks,some js=>if ks.map cL=js.map cL then aa (iJ ks js) else aj
 |_,_=>aj
def zG:az->az->Option Vl
 |.int i,.int j=>aa (.im (.bool (decide (i<j))))
 |.str x,.str y=>aa (.im (.bool (strLt x y)))
 |.tuple xs,.tuple ys=>(ais xs ys).map λb=>.im (.bool b)
 |_,_=>aj
theorem Ae:∀{ds:036}{ks:List Key}{vs:041},keysOf ds=aa ks->cQ E ds vs->vs=ks.map kV
 |[],ks,vs,h,r=>by cases h;exact r
 |d::ds,ks,vs,h,r=>by
  unfold keysOf at h;split at h
  .rename_i k t h1 h2
   obtain⟨u,w,e1,q,s⟩:=r
   rw[e1,Ae h2 s];have:u=kV k:=by
    cases d<;>first|(cases h1;exact q)|trivial
   grind
  lia
theorem arf(h:lq d=aa k)(r:RZ (er Z H) d v):∃b,v=.ref b/\kO H b k:=by
 have up:∀{c:aH}{xs:041},er Z H c=aa (.tup xs)->H c=aa _:=λq=>by
  unfold er at q;split at q
  .lia
  trivial
 unfold lq at h;refine hide λGG g=>?_
 split at h
 .obtain⟨ks,h1,rfl⟩:=pY.mp h
  obtain⟨a,vs,rfl,e,w,t,rfl,⟨c,us,rfl,i,f⟩,x,y,rfl,rx,j⟩:=r
  cases rx;cases j
  rw[Ae h1 f] at i;exact g (#[a,rfl,c,up e,up i])
 .obtain⟨ks,h1,rfl⟩:=pY.mp h
  obtain⟨a,vs,rfl,e,f⟩:=r
  rw[Ae h1 f] at e;exact g (#[a,rfl,up e])
 trivial
theorem X3(h:lq d=aa k)(r:gW Z Θ ao σ H d v):∃b,kO H b k/\v=.ref b:=by
 have r':RZ (er (bQ Z Θ ao σ) H) d v:=by
  cases d<;>first|exact r|cases h
 obtain⟨b,e,a⟩:=arf h r'
 simp_all
def av6:R2:=λx y H Q=>(∃a b,x=kV a/\y=kV b/\cL a=cL b/\Q (.bl (kLt a b)) H)\/∃a b ks js,x=.ref a/\y=.ref b/\H a=aa (.tup (ks.map kV))/\H b=aa (.tup (js.map kV))/\ks.map cL=js.map cL/\Q (.bl (iJ ks js)) H
theorem RT{K:bw}:jt K av6 zG:=by
 intro Z Θ ao C σ H x y dx j res S d c e Q q;unfold zG at e;split at e
 .cases e;cases d.int;cases c.int;exact .inl #[.inl _,.inl _,rfl,rfl,rfl,q _ _ 009 030]
 .cases e;cases d.str;cases c.str;exact .inl #[.inr _,.inr _,rfl,rfl,rfl,q _ _ 009 030]
 .unfold ais at e;split at e
  .rename_i ks js h1 h2;split at e
   .rename_i ht;cases e
    obtain⟨a,vs,rfl,g,h⟩:=d.tup
    obtain⟨b,ws,rfl,f,i⟩:=c.tup
    rw[Ae h1 h] at g;rw[Ae h2 i] at f;exact .inr #[a,b,ks,js,rfl,rfl,g,f,ht,q _ _ 009 030]
   trivial
  trivial
 trivial
def tL:az->az->Option Vl
 |.int i,.int j=>aa (.im (.bool (decide (i<=j))))
 |.str x,.str y=>aa (.im (.bool (!strLt y x)))
 |_,_=>aj
def ai1:R2:=λx y H Q=>(tU λi j=>.bl (decide (i<=j))) x y H Q\/∃i j,x=.str i/\y=.str j/\Q (.bl (!(decide (j.cps.toList<i.cps.toList)))) H
theorem G9:dX X (iu .LtE) ai1:=auP.or aob
theorem Hu{K:bw}:jt K ai1 tL:=by
 intro Z Θ ao C σ H x y dx c res S a b e Q q;unfold tL at e;split at e
 .cases e;cases a.int;cases b.int;exact .inl #[_,_,rfl,rfl,q _ _ 009 030]
 .cases e;cases a.str;cases b.str;exact .inr #[_,_,rfl,rfl,q _ _ 009 030]
 lia
def zH:az->az->Option Vl
 |.int i,.int j=>aa (.im (.bool (decide (j<i))))
 |_,_=>aj
def Sy:az->az->Option Vl
 |.int i,.int j=>aa (.im (.bool (decide (j<=i))))
 |_,_=>aj
theorem KH{K:bw}:jt K (tU λi j=>.bl (decide (j<i))) zH:=YG λdx a res e=>by
 unfold zH at e;split at e<;>cases e
 exact#[_,_,_,rfl,rfl,rfl,rfl,rfl]
theorem au2{K:bw}:jt K (tU λi j=>.bl (decide (j<=i))) Sy:=YG λdx a res e=>by
 unfold Sy at e;split at e<;>cases e
 exact#[_,_,_,rfl,rfl,rfl,rfl,rfl]
def isNone:az->Bool
 |.none=>aq
 |_=>aR
def qR(d e:az):Option Vl:=if isNone e then aa (.im (.bool (isNone d))) else aj
def yX(d e:az):Option Vl:=if isNone e then aa (.im (.bool (!isNone d))) else aj
theorem QB(h:gW Z Θ ao σ H d x):decide (x=V.non)=isNone d:=by
 cases d<;>first
  |(cases h;rfl)
  |(obtain⟨a,vs,e,_⟩:=h;subst e;rfl)
theorem Rt{K:bw}:jt K (λx y H Q=>y=.non/\Q (.bl (decide (x=.non))) H) qR:=by
 intro Z Θ ao C σ H x y dx f res S c d e Q q;unfold qR at e;split at e
 .rename_i a;cases e;have b:=of_decide_eq_true ((QB d).trans a)
  exact#[b,by rw[QB c];exact q _ _ 009 030]
 lia
theorem agD{K:bw}:jt K (λx y H Q=>y=.non/\Q (.bl (!decide (x=.non))) H) yX:=by
 intro Z Θ ao C σ H x y dx f res S c d e Q q;unfold yX at e;split at e
 .rename_i a;cases e;have b:=of_decide_eq_true ((QB d).trans a)
  exact#[b,by rw[QB c];exact q _ _ 009 030]
 lia
end
def sJ(H:Hp)(a:aH)(y:V)(r:Option V):Prop:=pP H a y r\/((∃ep,H a=aa (.dK [] ep))/\(∃(b:aH)(ks:TK),y=.ref b/\kO H b ks)/\r=aj)
section
variable{X:Cx}{σ:St}{H:Hp}{s:bf}{a:aH}{y v:V}{u r:aL}{A:fB}
theorem sJ.re(f:H a=aa (.dK [] Ef))(d:kO H b ks):pP (upd H a (.dT [] Ef)) a (.ref b) aj:=by
 have:kO (upd H a (.dT [] Ef)) b ks:=d.mono λc xs e=>by rwa [di (Dr e f 012)]
 exact pP.t fj this
theorem au3(hu:A.units+2<fJ)(I:03)(g:sJ H a y o)(d:RelV y u)(h:∀s',Inv X aC σ H s'->Q (.bool o.isSome) s'):bH 02 A (iu .In u 043) Q E s:=by
 refine hide λGG e=>?_
 rcases g with g|⟨⟨ep,c⟩,⟨b,ks,rfl,f⟩,rfl⟩
 .exact e (aiT hu I g d h)
 .exact e (aiT hu (I.Ed c) (sJ.re c f) d λs' i=>h s' (i.TJ c))
theorem apz(hu:A.units+2<fJ)(I:03)(g:sJ H a y o)(d:RelV y u)(h:∀s',Inv X aC σ H s'->Q (.bool (!o.isSome)) s'):bH 02 A (iu .NotIn u 043) Q E s:=by
 refine hide λGG e=>?_
 rcases g with g|⟨⟨ep,c⟩,⟨b,ks,rfl,f⟩,rfl⟩
 .exact e (agm hu I g d h)
 .exact e (agm hu (I.Ed c) (sJ.re c f) d λs' i=>h s' (i.TJ c))
theorem aty(hu:033):dX X (iu .In) (λy x H Q=>∃a o,x=.ref a/\sJ H a y o/\Q (.bl o.isSome) H):=by
 intro aC s σ H x y v u Q I rx b h
 obtain⟨a,o,rfl,g,q⟩:=h
 cases b;exact au3 hu I g rx λs' c=>#[.bl _,H,c,rfl,q]
theorem aon(hu:033):dX X (iu .NotIn) (λy x H Q=>∃a o,x=.ref a/\sJ H a y o/\Q (.bl (!o.isSome)) H):=by
 intro aC s σ H x y v u Q I rx b h
 obtain⟨a,o,rfl,g,q⟩:=h
 cases b;exact apz hu I g rx λs' c=>#[.bl _,H,c,rfl,q]
theorem arh(hu:033):uR X (λx y H Q=>∃a v,x=.ref a/\pP H a y (aa v)/\Q v H):=by
 intro c b aC s σ H x y v u Q I rx e h hs
 obtain⟨a,z,rfl,g,q⟩:=h
 cases rx;have f:=amT I g;have h2:bH _ _ _ (EP X _ σ Q) X.xe s:=an4 hu I g e λj s' i r'=>#[z,H,i,r',q]
 refine aQ (aQ (Cd f PySem.F.slot_dict_getitem.lookup ?_));have d:bH (model X.prog X.w) X.A (adL b aR (.ref a) u) (λr s₃=>bH 02 X.A (letTemporaryGo c 043 r >>= λk=>pure r) (EP X aC σ Q) X.xe s₃) X.xe s:=by
  rw[hs];exact wpAny_operating (vq h2 (λr s₃ h₃=>aQ (wpAny_letTemporaryGo (bM h₃))) λk k x=>x)
 (exact bM (aQ d))
end
def pM{κ:Type}[DecidableEq κ](f:az->Option κ)(k:κ):List (az×az)->Option az
 |[]=>aj
 |p::r=>if f p.1=aa k then aa p.2 else pM f k r
def n6(au:021)(d:az):Option (Option az):=match fO d with
 |some k=>if(cO fO au).isSome then aa (pM fO k au) else aj
 |none=>match lq d with
  |some ks=>if(cO lq au).isSome then aa (pM lq ks au) else aj
  |none=>aj
theorem QC[DecidableEq κ]:∀{au:021}{ks:List κ}{vs:041},cO f au=aa ks->jb E au vs->
  (∃d v,pM f k au=aa d/\lR (ks.zip vs) k=aa v/\RZ E d v)\/(pM f k au=aj/\lR (ks.zip vs) k=aj)
 |[],ks,vs,h,r=>by
  cases h;exact .inr #[rfl,rfl]
 |(p,d)::au,ks,vs,h,r=>by
  unfold cO at h;split at h
  .rename_i a t h1 h2;cases h
   obtain⟨v,w,rfl,q,s⟩:=r
   by_cases e:a=k
   .subst e;refine .inl #[d,v,?_,?_,q]
    .unfold pM;simp[*]
    .exact Qq rfl
   .have e1:pM f k ((p,d)::au)=pM f k au:=by
     show(if f p=aa k then aa d else pM f k _)=_
     lia
    have e2:lR ((a::t).zip (v::w)) k=lR _ k:=Qs e;rw[e1,e2];exact QC h2 s
  trivial
theorem vA:∀{au:021}{ks:List κ},cO f au=aa ks->ks.length=au.length
 |[],ks,h=>by cases h;rfl
 |p::au,ks,h=>by
  unfold cO at h;split at h
  .rename_i h1 h2;cases h;rw[eZ,eZ,vA h2]
  trivial
theorem ahG(h:fO d=aa k)(r:RZ E d v):v=kV k:=by
 cases d<;>first|(cases h;exact r)|cases h
theorem ahH(h:fO d=aa k)(g:lq d=aa ks):False:=by
 cases d<;>(trivial)
theorem xu(h:cO fO au=aa ks)(g:cO lq au=aa js):au=[]:=by
 cases au with
 |nil=>rfl
 |cons p r=>
  unfold cO at h g;split at h
  .rename_i h1 h2;split at g
   .rename_i a b
    exact(ahH h1 a).elim
   lia
  trivial
theorem gW.get(h:gW Z Θ ao σ H (.dict au) x)(l:gW Z Θ ao σ H d y)(e:n6 au d=aa o):
  ∃a r,x=.ref a/\sJ H a y r/\((∃v,r=aa v/\∃c,o=aa c/\RZ (er 025 H) c v/\pP H a y (aa v))\/(r=aj/\o=aj)):=by
 refine hide λGG f=>?_
 obtain⟨a,vs,rfl,n,rd⟩:=h.dct
 unfold n6 at e;split at e
 .rename_i k m;split at e
  .rename_i hs;cases e;have t:y=kV k:=by
    cases d<;>first|(cases m;exact l)|cases m
   have dk:∃ks,cO fO au=aa ks/\∃ep,H a=aa (.dK (ks.zip vs) ep):=by
    rcases n with h|⟨ks,⟨ne,h2⟩,z⟩
    .exact h
    .obtain⟨q,h1⟩:=wN.mp hs
     exact absurd (xu h1 h2) ne
   obtain⟨ks,h1,ep,i⟩:=dk
   have g:=pP.k (k:=k) i;rw[<-t] at g;rcases QC h1 rd with⟨c,v,e1,e2,r⟩|⟨e1,e2⟩
   .rw[e2] at g;exact f (#[a,_,rfl,.inl g,.inl #[v,rfl,c,e1,r,g]])
   .rw[e2] at g;exact f (#[a,_,rfl,.inl g,.inr #[rfl,e1]])
  .cases e
 .split at e
  .rename_i ks j;split at e
   .rename_i hs;cases e
    obtain⟨b,p,rfl⟩:=X3 j l
    rcases n with⟨js,h1,i⟩|⟨js,⟨ne,h1⟩,ep,i⟩
    .obtain⟨s,h2⟩:=wN.mp hs
     have:=xu h1 h2;subst this;cases h1;exact f (#[a,_,rfl,.inr #[i,#[b,ks,rfl,p],rfl],.inr #[rfl,rfl]])
    .have g:=pP.t i p;rcases QC h1 rd with⟨c,v,e1,e2,r⟩|⟨e1,e2⟩
     .rw[e2] at g;exact f (#[a,_,rfl,.inl g,.inl #[v,rfl,c,e1,r,g]])
     .rw[e2] at g;exact f (#[a,_,rfl,.inl g,.inr #[rfl,e1]])
   .cases e
  .cases e
noncomputable def inD (d:az) (ds:036):Bool:=ds.any λe=>wA (toV e) (toV d)
def inB(d:az):az->Option Bool
 |.list ds=>if nA d&&ds.all nA then aa (inD d ds) else aj
 |.tuple ds=>if nA d&&ds.all nA then aa (inD d ds) else aj
 |.dict au=>(n6 au d).map (·.isSome)
 |_=>aj
def lC(d e:az):Option Vl:=(inB d e).map λb=>.im (.bool b)
def pH(d e:az):Option Vl:=(inB d e).map λb=>.im (.bool (!b))
def ai2(K:bw):R2:=λx y H Q=>Tt K aR x y H Q\/∃a o,y=.ref a/\sJ H a x o/\Q (.bl o.isSome) H
def agE(K:bw):R2:=λx y H Q=>Tt K aq x y H Q\/∃a o,y=.ref a/\sJ H a x o/\Q (.bl (!o.isSome)) H
theorem uC(hu:033):dX X (iu .In) (ai2 X.K):=an3.or (aty hu)
theorem Gi(hu:033):dX X (iu .NotIn) (agE X.K):=amv.or (aon hu)
theorem Xf(f:nA d=aq):tG (toV d)=aq:=by
 cases d<;>(rfl)
theorem ait:inV (toV d) (ds.map toV)=inD d ds:=by
 unfold inV inD
 grind
theorem agF{ds:036}(f:ds.all nA=aq):(ds.map toV).all tG=aq:=by
 rw[List.all_map,u6];intro d a;exact Xf (u6.mp f d a)
theorem afk{K:bw}{ao:En}{σ:St}{H:Hp}{x y:V}{b:Bool}(h:gW Z Θ ao σ H dx x)(f:gW Z Θ ao σ H dy y)(e:inB dx dy=aa b):
  (∃p xs,y=.ref p/\(cA K H p xs\/dW K H p xs)/\tG x=aq/\xs.all tG=aq/\inV x xs=b)\/∃a o,y=.ref a/\sJ H a x o/\o.isSome=b:=by
 unfold inB at e;split at e
 .split at e
  .rename_i c;rw[lJ] at c;cases e
   obtain⟨a,vs,rfl,d,r⟩:=f.lst
   rw[XS c.2 r] at d;rw[h.flat c.1];exact .inl #[a,_,rfl,.inl (cA.of d),Xf c.1,agF c.2,ait]
  lia
 .split at e
  .rename_i c;rw[lJ] at c;cases e
   obtain⟨a,vs,rfl,d,r⟩:=f.tup
   rw[XS c.2 r] at d;rw[h.flat c.1];exact .inl #[a,_,rfl,.inr (dW.of d),Xf c.1,agF c.2,ait]
  lia
 .cases hl:n6 _ dx with
  |none=>rw[hl] at e;cases e
  |some o=>
   rw[hl] at e;obtain⟨a,r,rfl,g,q⟩:=f.get h hl
   exact c8
 lia
theorem uG{K:bw}:jt K (ai2 K) lC:=by
 intro Z Θ ao C σ H x y dx i res S g f e Q q;unfold lC at e;refine hide λGG d=>?_
 cases h:inB dx i with
 |none=>grind
 |some b=>
  rw[h] at e;cases e;have c:=q _ H 009 030;rcases afk g f h with⟨p,xs,e1,e2,e3,e4,e5⟩|⟨a,o,e1,e2,e3⟩
  .rw[<-e5] at c;exact d (.inl #[p,xs,e1,e2,e3,e4,c])
  .rw[<-e3] at c;exact d (.inr #[a,o,e1,e2,c])
theorem Gn{K:bw}:jt K (agE K) pH:=by
 intro Z Θ ao C σ H x y dx i res S g f e Q q;unfold pH at e;refine hide λGG d=>?_
 cases h:inB dx i with
 |none=>grind
 |some b=>
  rw[h] at e;cases e;have c:=q _ H 009 030;rcases afk g f h with⟨p,xs,e1,e2,e3,e4,e5⟩|⟨a,o,e1,e2,e3⟩
  .rw[<-e5] at c;exact d (.inl #[p,xs,e1,e2,e3,e4,c])
  .rw[<-e3] at c;exact d (.inr #[a,o,e1,e2,c])
def wG:az->az->Option az
 |.list ds,.int i=>eX ds i
 |.tuple ds,.int i=>eX ds i
 |.str z,.int i=>if z.length<=fG then(eX z.cps.toList i).map λc=>.str #[#v[c]] else aj
 |.dict au,d=>match n6 au d with
  |some (some e)=>aa e
  |_=>aj
 |_,_=>aj
def bW(d e:az):Option Vl:=(wG d e).map .im
def ai3(K:bw):R2:=λx y H Q=>rIx K x y H Q\/∃a v,x=.ref a/\pP H a y (aa v)/\Q v H
theorem atz(hu:033):uR X (ai3 X.K):=atd.or (arh hu)
theorem agG(r:cQ E ds vs)(e:eX ds i=aa d):∃v,eX vs i=aa v/\RZ E d v:=by
 unfold eX at e⊢;rw[lg r];cases h:qt _ i with
 |none=>simp_all
 |some j=>
  rw[h] at e;exact yW r e
theorem au4{K:bw}:jt K (ai3 K) bW:=by
 intro Z Θ ao C σ H x y dx n res S k j e Q q;unfold bW at e;refine hide λGG f=>?_
 cases h:wG dx n with
 |none=>simp_all
 |some d=>
  rw[h] at e;cases e;unfold wG at h;split at h
  .obtain⟨a,vs,rfl,l,r⟩:=k.lst
   cases j.int
   obtain⟨v,e1,b⟩:=agG r h
   exact f (.inl (.inl #[a,vs,_,v,rfl,rfl,cA.of l,e1,q _ _ 009 #[S,b]]))
  .obtain⟨a,vs,rfl,l,r⟩:=k.tup
   cases j.int
   obtain⟨v,e1,b⟩:=agG r h
   exact f (.inl (.inr (.inl #[a,vs,_,v,rfl,rfl,dW.of l,e1,q _ _ 009 #[S,b]])))
  .split at h
   .rename_i z i m;cases k.str;cases j.int;cases hc:eX _ i with
    |none=>rw[hc] at h;cases h
    |some c=>
     rw[hc] at h;cases h;exact f (.inl (.inr (.inr #[z,i,c,rfl,rfl,sY m,hc,q _ _ 009 030])))
   lia
  .split at h
   .rename_i hl;cases h
    obtain⟨a,r,rfl,g,o⟩:=k.get j hl
    rcases o with⟨v,rfl,d',e1,b,g1⟩|⟨w,e1⟩
    .cases e1;exact f (.inr #[a,v,rfl,g1,q _ _ 009 #[S,b]])
    lia
   lia
  lia
def Lj:az->Option Bool
 |.none=>aa aR
 |.bool b=>aa b
 |.int i=>aa (i != 0)
 |.str x=>if x.length<=fG then aa ((x.length:Int) != 0) else aj
 |.list ds=>aa (!ds.isEmpty)
 |.tuple ds=>aa (!ds.isEmpty)
 |.dict au=>if(cO fO au).isSome then aa (!au.isEmpty) else aj
def lD(f:FB):FT:=λao C=>match f ao C with
 |some (d,_,C')=>match Lj d with
  |some b=>aa (b,C')
  |none=>aj
 |none=>aj
def dR(f:FE):FT:=λao C=>match f ao C with
 |some (.im (.bool b),_,C')=>aa (b,C')
 |_=>aj
def su(f:FT):FT:=λao C=>match f ao C with
 |some (b,C')=>aa (!b,C')
 |none=>aj
def qT(f g:FT):FT:=λao C=>match f ao C with
 |some (true,C')=>g ao C'
 |some (false,C')=>aa (aR,C')
 |none=>aj
def sE(f g:FT):FT:=λao C=>match f ao C with
 |some (true,C')=>aa (aq,C')
 |some (false,C')=>g ao C'
 |none=>aj
theorem atA{K:bw}{ao:En}{σ:St}{H:Hp}{x:V}{b:Bool}(h:gW Z Θ ao σ H d x)(e:Lj d=aa b):aaK K x H b:=by
 cases d with
 |none=>cases e;cases h;rfl
 |bool c=>cases e;cases h;rfl
 |int i=>cases e;cases h;rfl
 |str z=>
  simp only[Lj] at e;split at e
  .rename_i g;cases e;cases h;exact#[sY g,rfl]
  lia
 |list ds=>
  cases e
  obtain⟨a,vs,rfl,f,r⟩:=h.lst
  refine .inl #[vs,cA.of f,?_];have:=lg r
  grind
 |tuple ds=>
  cases e
  obtain⟨a,vs,rfl,f,r⟩:=h.tup
  refine .inr (.inl #[vs,dW.of f,?_]);have:=lg r
  grind
 |dict au=>
  simp only[Lj] at e;split at e
  .rename_i hs;cases e
   obtain⟨a,vs,rfl,k,r⟩:=h.dct
   rcases k with⟨ks,h1,ep,f⟩|⟨ks,⟨ne,h2⟩,f⟩
   .refine .inr (.inr #[_,ep,f,?_]);have m:=vA h1;have l:=Dd r;cases au<;>cases ks<;>cases vs<;>first|rfl|trivial|rfl
   .obtain⟨j,h1⟩:=wN.mp hs
    exact absurd (xu h1 h2) ne
  lia
section
variable{a b:Expr}
theorem mL(h:PE X a (eN X.K f))(he:∀c,isTrue a X.env c=(do let v <-c;xx a.pos;rR [v] (truthy v)):=by intro _;rfl):PT X a (gY X.K (lD f)):=
 (ape h he).weak λσ H Q bz=>by
  refine hide λGG g=>?_
  obtain⟨Z,Θ,ao,C,b,C',S,e,q⟩:=bz
  unfold lD at e;split at e
  .rename_i d e1 C1 h1;split at e
   .rename_i i;cases(e);exact g (#[Z,Θ,_,C,d,e1,C',S,h1,λv H' k f l j=>#[b,atA j i,q H' k (S.go k l.cell)]])
   lia
  lia
theorem afl{K:bw}(w:∀σ H Q,tE K f σ H Q->t σ H Q):∀σ H Q,gY K (dR f) σ H Q->RN t σ H Q:=by
 rintro σ H Q ⟨Z,Θ,ao,C,b,C',S,hf,q⟩;unfold dR at hf;split at hf
 .rename_i e1 C1 h1;cases(hf);refine w _ _ _ #[Z,Θ,_,C,_,e1,C',S,h1,λv H' k f R=>?_]
  obtain⟨a,r⟩:=R
  exact#[b,r,q H' k (S.go k a.cell)]
 trivial
theorem gA(e:dX X (iu o) r)(L:jt X.K r op)(f:PE X a (eN X.K fa))(c:PE X b (eN X.K fb))(d:Ff o b=aR):
  PT X (.Compare a [o] [b] pos) (gY X.K (dR (aX op fa fb))):=(agg e f c d).weak (afl (Qz L))
theorem xK(h:PT X a (gY X.K f)):PT X (.UnaryOp .Not a pos) (gY X.K (su f)):=(asT h).weak λσ H Q bz=>by
 refine hide λGG e=>?_
 obtain⟨Z,Θ,ao,C,b,C',S,c,q⟩:=bz
 unfold su at c;split at c
 .rename_i d C1 h1;cases(c);exact e (#[Z,Θ,_,C,d,C',S,h1,q])
 trivial
theorem apA{K:bw}:∀σ H Q,gY K (qT f g) σ H Q->aiI (gY K f) (gY K g) σ H Q:=by
 rintro σ H Q ⟨Z,Θ,ao,C,b,C',S,hf,q⟩;unfold qT at hf;split at hf
 .rename_i C1 h1
  exact#[Z,Θ,_,C,_,C1,S,h1,λH1 c a=>ye #[Z,Θ,_,C1,b,C',a,hf,λH2 d e=>q H2 (c.trans d) e]]
 .rename_i h1;cases(hf)
  exact#[Z,Θ,_,C,_,C',S,h1,λH1 c a=>yc (q H1 c a)]
 lia
theorem ari{K:bw}:∀σ H Q,gY K (sE f g) σ H Q->tOr (gY K f) (gY K g) σ H Q:=by
 rintro σ H Q ⟨Z,Θ,ao,C,b,C',S,hf,q⟩;unfold sE at hf;split at hf
 .rename_i h1;cases(hf)
  exact#[Z,Θ,_,C,_,C',S,h1,λH1 c a=>ye (q H1 c a)]
 .rename_i C1 h1
  exact#[Z,Θ,_,C,_,C1,S,h1,λH1 c a=>yc #[Z,Θ,_,C1,b,C',a,hf,λH2 d e=>q H2 (c.trans d) e]]
 trivial
variable{rest:List Expr}
theorem J5(h:PT X a (gY X.K f)):PW X (.BoolOp .And [a] pos) (gY X.K f):=pw_and1 h
theorem Dl(h:PT X a (gY X.K f)):PW X (.BoolOp .Or [a] pos) (gY X.K f):=pw_or1 h
theorem yZ(h:PT X a (gY X.K f))(c:PW X (.BoolOp .And (b::rest) pos) (gY X.K g)):PW X (.BoolOp .And (a::b::rest) pos) (gY X.K (qT f g)):=(pw_and h c).weak apA
theorem zg(h:PT X a (gY X.K f))(c:PW X (.BoolOp .Or (b::rest) pos) (gY X.K g)):PW X (.BoolOp .Or (a::b::rest) pos) (gY X.K (sE f g)):=(pw_or h c).weak ari
end
def Bm(op op':az->az->Option Vl)(fa fb fc:FB):FE:=λao C=>match fa ao C with
 |some (x,e1,C1)=>match fb e1 C1 with
  |some (y,e2,C2)=>match op x y with
   |some (.im (.bool true))=>match fc e2 C2 with
    |some (z,e3,C3)=>match op' y z with
     |some (.im (.bool b))=>aa (.im (.bool b),ao,C3)
     |_=>aj
    |none=>aj
   |some (.im (.bool false))=>aa (.im (.bool aR),ao,C2)
   |_=>aj
  |none=>aj
 |none=>aj
theorem afm{K:bw}{r r':R2}(L:jt K r op)(B:jt K r' op'):∀σ H Q,tE K (Bm op op' fa fb fc) σ H Q->Zv r r' (eN K fa) (eN K fb) (eN K fc) σ H Q:=by
 rintro σ H Q ⟨Z,Θ,ao,C,res,bK,C',S,hf,q⟩;unfold Bm at hf;refine hide λGG a=>?_
 split at hf
 .rename_i x e1 C1 h1;split at hf
  .rename_i y e2 C2 h2;refine a (#[Z,Θ,_,C,x,e1,C1,S,h1,λv H1 j G e b1=>#[Z,Θ,e1,C1,y,e2,C2,e,h2,λu H2 b l c b2=>(hide λGG a=>?_)]]);split at hf
   .rename_i d;split at hf
    .rename_i z g I p;split at hf
     .rename_i F;cases(hf);refine a (L Z Θ e2 C2 σ H2 v u x y _ c (b1.go e b l) b2 d _ λw h k3 R=>#[_,R.2,ye #[Z,Θ,e2,C2,z,g,C',R.1,p,λt A i m D E=>(B Z Θ g C' σ A u t y z _ D ((b2.go c k3 024).go R.1 i m) E F Q λo n s f=>?_)]]);have k:=(((j.trans b).trans k3).trans i).trans s;exact q o n k 024 #[S.go k f.1.cell,f.2]
     lia
    lia
   .rename_i d;cases(hf);refine a (L Z Θ e2 C' σ H2 v u x y _ c (b1.go e b l) b2 d _ λw h k3 R=>#[_,R.2,yc ?_]);have k:=(j.trans b).trans k3;exact q _ h k 024 #[S.go k R.1.cell,rfl]
   lia
  lia
 lia
theorem atB(h:dX X (iu o) r)(L:jt X.K r op)(d:dX X (iu o') r')(j:jt X.K r' op')(i:PE X a (eN X.K fa))(e:PE X b (eN X.K fb))(g:PE X c (eN X.K fc))
  (f:W6 [o,o'] [b,c]=aR:=by with_unfolding_all rfl):PE X (.Compare a [o,o'] [b,c] pos) (tE X.K (Bm op op' fa fb fc)):=(apc h d i e g f).weak (afm L j)
theorem atD(h:dX X (iu o) r)(L:jt X.K r op)(d:dX X (iu o') r')(j:jt X.K r' op')(i:PE X a (eN X.K fa))(e:PE X b (eN X.K fb))(g:PE X c (eN X.K fc))
  (f:W6 [o,o'] [b,c]=aR:=by with_unfolding_all rfl):PT X (.Compare a [o,o'] [b,c] pos) (gY X.K (dR (Bm op op' fa fb fc))):=(apd h d i e g f).weak (afl (afm L j))
def oY(f g:FE):FE:=λao C=>match f ao C with
 |some (.im (.bool true),_,C')=>g ao C'
 |some (.im (.bool false),_,C')=>aa (.im (.bool aR),ao,C')
 |_=>aj
def Hv(f:FE):FE:=λao C=>match f ao C with
 |some (.im (.bool b),_,C')=>aa (.im (.bool (!b)),ao,C')
 |_=>aj
def q9(c:FT)(f g:FE):FE:=λao C=>match c ao C with
 |some (true,C')=>f ao C'
 |some (false,C')=>g ao C'
 |none=>aj
def DG(f:FB):FE:=λao C=>match f ao C with
 |some (.int i,_,C')=>aa (.im (.int (-i)),ao,C')
 |_=>aj
section
variable{X:Cx}{rest:List Expr}
theorem Dm{o}(h:PE X a (tE X.K f)):PE X (.BoolOp o [a] pos) (tE X.K f):=asU h
theorem Ar(k:PE X a (tE X.K f))(i:PE X (.BoolOp .And (b::rest) pos) (tE X.K g)):PE X (.BoolOp .And (a::b::rest) pos) (tE X.K (oY f g)):=(asV k i).weak λσ H Q bz=>by
 refine hide λGG h=>?_
 obtain⟨Z,Θ,ao,C,r,bK,C',S,e,q⟩:=bz
 unfold oY at e;split at e
 .rename_i e1 C1 h1;refine h (#[Z,Θ,_,C,_,e1,C1,S,h1,λv H1 c j d=>#[_,d.2,ye #[Z,Θ,_,C1,r,_,C',S.go c d.1.cell,e,λw H2 m l R2=>q w H2 (c.trans m) l (R2.from c)]]])
 .rename_i e1 C1 h1;cases(e);exact h (#[Z,Θ,_,C,_,e1,C',S,h1,λv H1 c j d=>#[_,d.2,yc (q _ H1 c 024 #[S.go c d.1.cell,rfl])]])
 lia
theorem ahI(h:PE X a (tE X.K f)):PE X (.UnaryOp .Not a pos) (tE X.K (Hv f)):=(asW h).weak λσ H Q bz=>by
 refine hide λGG g=>?_
 obtain⟨Z,Θ,ao,C,r,bK,C',S,c,q⟩:=bz
 unfold Hv at c;split at c
 .rename_i b e1 C1 h1;cases(c);exact g (#[Z,Θ,_,C,_,e1,C',S,h1,λv H1 d i e=>#[b,e.2,q _ H1 d 024 #[S.go d e.1.cell,rfl]]])
 trivial
theorem KJ(m:PT X c (gY X.K t))(l:PE X a (tE X.K f))(k:PE X b (tE X.K g)):PE X (.IfExp c a b pos) (tE X.K (q9 t f g)):=(ao8 m l k).weak λσ H Q bz=>by
 obtain⟨Z,Θ,ao,C,r,bK,C',S,e,q⟩:=bz
 unfold q9 at e;split at e
 .rename_i C1 h1
  exact#[Z,Θ,_,C,_,C1,S,h1,λH1 d i=>ye #[Z,Θ,_,C1,r,_,C',i,e,λw H2 j h R2=>q w H2 (d.trans j) h (R2.from d)]]
 .rename_i C1 h1
  exact#[Z,Θ,_,C,_,C1,S,h1,λH1 d i=>yc #[Z,Θ,_,C1,r,_,C',i,e,λw H2 j h R2=>q w H2 (d.trans j) h (R2.from d)]]
 lia
theorem ahJ(e:PE X a (eN X.K f)):PE X (.UnaryOp .USub a pos) (tE X.K (DG f)):=(auM as6 e).weak λσ H Q bz=>by
 refine hide λGG d=>?_
 obtain⟨Z,Θ,ao,C,r,bK,C',S,b,q⟩:=bz
 unfold DG at b;split at b
 .rename_i i e1 C1 h1;cases(b);exact d (#[Z,Θ,_,C,_,e1,C',S,h1,λv H1 c h g b1=>#[i,b1,q _ H1 c 024 #[S.go c g.cell,rfl]]])
 trivial
end
def zj(K:bw)(E:Hp)(Θ:040):Vl->V->Prop
 |.im d,v=>RZ E d v
 |.ow _,_=>False
 |.ce n,v=>∃a,v=.ref a/\Θ[n]?=aa a
 |.sc ns,v=>∃a,v=.ref a/\cA K E a 050
 |.ks ns,v=>∃a,v=.ref a/\dW K E a (ns.map toV)
 |.tp _ _ _,_=>False
inductive xM(K:bw)(E:Hp)(Θ:List aH):List Vl->List V->Prop
 |nil:xM K E Θ [] []
 |cons {x:Vl} {v:V} {xs:List Vl} {vs:041}:zj K E Θ x v->xM K E Θ xs vs->xM K E Θ (x::xs) (v::vs)
theorem zj.same{K:bw}(s:cI E E'){x:Vl}{v:V}(h:zj K E Θ x v):zj K E' Θ x v:=by
 cases x with
 |im d=>exact RZ.same s h
 |ow d=>exact h
 |ce n=>exact h
 |sc ns=>obtain⟨a,e,q⟩:=h;exact#[a,e,s.seq q]
 |ks ns=>obtain⟨a,e,q⟩:=h;exact#[a,e,s.HS q]
 |tp=>exact h
inductive wH(K:bw)(f:FA)(σ:St)(H:Hp)(Q:List V->Hp->Prop):Prop
 |mk (Z Θ:040) (ao:En) (C:Ce) (xs:List Vl) (bK:En) (C':Ce) (S:001) (hf:f ao C=aa (xs,bK,C')) (q:∀vs H',bL Θ H H'->Fz ao bK->Sm K Z Θ bK C' σ H'->xM K (er (bQ Z Θ bK σ) H') Θ xs vs->Q vs H'):wH K f σ H Q
noncomputable def bD:FA:=λao C=>aa ([],ao,C)
def aD(f:FE)(g:FA):FA:=λao C=>match f ao C with
 |some (r,e1,C1)=>match g e1 C1 with
  |some (xs,e2,C2)=>aa (still r::xs,e2,C2)
  |none=>aj
 |none=>aj
noncomputable def dw:Bt:=λao C=>aa ([],ao,C)
def cM(f:FB)(g:Bt):Bt:=λao C=>match f ao C with
 |some (d,e1,C1)=>match g e1 C1 with
  |some (ds,e2,C2)=>aa (d::ds,e2,C2)
  |none=>aj
 |none=>aj
theorem Res.arg{K:bw}{ao:En}{C:Ce}{σ:St}{r:Vl}{v:V}(h:Res K Z Θ ao C σ H H' r v):Sm K Z Θ ao C σ H'/\zj K (er 025 H') Θ (L2.still r) v:=by
 have g:=h.still;cases r with
 |im d=>exact g
 |ow d=>exact g
 |ce n=>exact g
 |sc ns=>exact g
 |ks ns=>exact g
 |tp=>trivial
theorem bJ:PA X [] (wH X.K bD):=rZ.weak λσ H Q bz=>by
 obtain⟨Z,Θ,ao,C,xs,bK,C',S,a,q⟩:=bz
 cases(a);exact q [] H 009 024 S .nil
theorem aJ(h:PE X e (tE X.K f))(n:PA X es (wH X.K g))(hs:bV (e::es) X.env=(010 e)::bV es X.env:=by rfl):PA X (e::es) (wH X.K (aD f g)):=(oU h n hs).weak λσ H Q bz=>by
 refine hide λGG j=>?_
 obtain⟨Z,Θ,ao,C,xs,bK,C',S,a,q⟩:=bz
 unfold aD at a;split at a
 .rename_i r e1 C1 h1;split at a
  .rename_i ys e2 C2 h2;cases(a);refine j (#[Z,Θ,_,C,r,e1,C1,S,h1,λv H1 m l o=>?_])
   obtain⟨c,a1⟩:=o.arg
   exact#[Z,Θ,e1,C1,ys,_,C',c,h2,λvs H2 d b k i=>q _ H2 (m.trans d) (l.trans b) k (.cons (a1.same (aaq c d b)) i)]
  trivial
 trivial
theorem dZ:PA X [] (zO X.K dw):=rZ.weak λσ H Q bz=>by
 obtain⟨Z,Θ,ao,C,xs,bK,C',S,a,q⟩:=bz
 cases(a);exact q [] H 009 024 S .nil
theorem dg(h:PE X e (eN X.K f))(n:PA X es (zO X.K g))(hs:bV (e::es) X.env=(010 e)::bV es X.env:=by rfl):PA X (e::es) (zO X.K (cM f g)):=(oU h n hs).weak λσ H Q bz=>by
 refine hide λGG j=>?_
 obtain⟨Z,Θ,ao,C,xs,bK,C',S,a,q⟩:=bz
 unfold cM at a;split at a
 .rename_i d e1 C1 h1;split at a
  .rename_i ys e2 C2 h2;cases(a);exact j (#[Z,Θ,_,C,d,e1,C1,S,h1,λv H1 m l c b1=>#[Z,Θ,e1,C1,ys,_,C',c,h2,λvs H2 i b k b2=>q _ H2 (m.trans i) (l.trans b) k (.cons (b1.go c i b) b2)]])
  lia
 lia
noncomputable def Hw:List Vl->Option (List az)
 |[]=>aa []
 |.im d::r=>match Hw r with
  |some ds=>aa (d::ds)
  |none=>aj
 |_=>aj
theorem X4{K:bw}:∀{xs:List Vl}{ds:036}{vs:041},Hw xs=aa ds->xM K E Θ xs vs->cQ E ds vs
 |[],ds,vs,h,a=>by cases h;cases a;rfl
 |.im d::r,ds,vs,h,a=>by
  unfold Hw at h;split at h
  .rename_i ht;cases h;cases a with
   |cons a1 a2=>exact#[_,_,rfl,a1,X4 ht a2]
  trivial
 |.ow _::r,ds,vs,h,a=>by cases h
 |.ce _::r,ds,vs,h,a=>by cases h
 |.sc _::r,ds,vs,h,a=>by cases h
 |.ks _::r,ds,vs,h,a=>by cases h
 |.tp _ _ _::r,ds,vs,h,a=>by cases h
def iD(g:FA):FE:=λao C=>match g ao C with
 |some (xs,e',C')=>match Hw xs with
  |some ds=>if ds.length<=fG then aa (.ow (.list ds),e',C') else aj
  |none=>aj
 |none=>aj
def j7(g:FA):FE:=λao C=>match g ao C with
 |some (xs,e',C')=>match Hw xs with
  |some ds=>if ds.length<=fG then aa (.im (.tuple ds),e',C') else aj
  |none=>aj
 |none=>aj
theorem jD(h:PA X es (wH X.K g)):PE X (.List es pos) (tE X.K (iD g)):=(Zx h).weak λσ H Q bz=>by
 refine hide λGG d=>?_
 obtain⟨Z,Θ,ao,C,r,bK,C',S,a,q⟩:=bz
 unfold iD at a;split at a
 .rename_i xs e1 C1 h1;split at a
  .rename_i f;split at a
   .rename_i hl;cases(a);refine d (#[Z,Θ,_,C,xs,_,C',S,h1,λvs H1 b e i a1=>?_]);have r:=X4 f a1
    exact#[by rw[lg r];exact sY hl,λp c=>q _ _ (b.trans (bL.upd c)) e ((qN i r c).from b)]
   trivial
  trivial
 trivial
theorem lZ{x1}(h:PA X es (wH X.K g)):PE X (.Tuple es x1 pos) (tE X.K (j7 g)):=(Zw h).weak λσ H Q bz=>by
 refine hide λGG d=>?_
 obtain⟨Z,Θ,ao,C,r,bK,C',S,a,q⟩:=bz
 unfold j7 at a;split at a
 .rename_i xs e1 C1 h1;split at a
  .rename_i f;split at a
   .rename_i hl;cases(a);refine d (#[Z,Θ,_,C,xs,_,C',S,h1,λvs H1 b e i a1=>?_]);have r:=X4 f a1
    exact#[by rw[lg r];exact sY hl,λp c=>q _ _ (b.trans (bL.upd c)) e ((Q6 i r c).from b)]
   trivial
  trivial
 trivial
def vJ:FE:=λao C=>aa (.ow (.dict []),ao,C)
theorem QD:PE X (.Dict [] [] pos) (tE X.K vJ):=api.weak λσ H Q bz=>by
 obtain⟨Z,Θ,ao,C,r,bK,C',S,b,q⟩:=bz
 cases(b);exact λp a=>q _ _ (bL.upd a) 024 (agB S (λ_ z=>nomatch z) (.inl #[[],rfl,0,fj]) rfl a)
def mD(K:bw)(r:List V->Hp->VK->Prop)(op:List az->Option Vl):Prop:=
 ∀(Z Θ:040)(ao:En)(C:Ce)(σ:St)(H:Hp)(xs:041)(ds:036)(res:Vl),Sm K Z Θ ao C σ H->RQ Z Θ ao σ H ds xs->op ds=aa res->
  ∀Q:VK,(∀v H',bL Θ H H'->Res K Z Θ ao C σ H H' res v->Q v H')->r xs H Q
def dz(op:List az->Option Vl)(g:Bt):FE:=λao C=>match g ao C with
 |some (ds,e',C')=>match op ds with
  |some r=>aa (r,rst r ao e',C')
  |none=>aj
 |none=>aj
theorem afn{K:bw}(L:mD K r op){g:Bt}:∀σ H Q,tE K (dz op g) σ H Q->Tr r (zO K g) σ H Q:=by
 rintro σ H Q ⟨Z,Θ,ao,C,res,bK,C',S,hf,q⟩;unfold dz at hf;refine hide λGG c=>?_
 split at hf
 .rename_i ds e1 C1 h1;split at hf
  .rename_i h2;cases(hf);exact c (#[Z,Θ,_,C,ds,e1,C',S,h1,λvs H1 a d e b1=>L Z Θ e1 C' σ H1 vs ds _ e b1 h2 Q λz H2 b R=>(q z H2 (a.trans b) (d.rst _) ((R.from a).rst S (a.trans b)))])
  lia
 lia
section
variable{X:Cx}{x:Str}{p pos:Pos}{e:Expr}{g:Bt}{id T:String}
theorem apB(d:jh X (.builtin id) r)(L:mD X.K r op)(hg:Gl X x)(c:X.mg x=aj)(f:uc x=aa (.builtin id))(h:PA X (e::es) (zO X.K g))(i:x≠"__name__":=by decide)(a:017=aR:=by decide)
  (he:bV (e::es) X.env=(010 e)::bV es X.env:=by rfl)(b:(jx pos (bV es X.env)).any (·.1)=aR:=by rfl):PE X (.Call (.Name x p) (e::es) [] pos) (tE X.K (dz op g)):=(Jz d hg c f h i a he b).weak (afn L)
theorem uo(d:jh X (.type T) r)(L:mD X.K r op)(hg:Gl X x)(c:X.mg x=aj)(f:uc x=aa (.type T))(h:PA X (e::es) (zO X.K g))(i:x≠"__name__":=by decide)(a:017=aR:=by decide)
  (he:bV (e::es) X.env=(010 e)::bV es X.env:=by rfl)(b:(jx pos (bV es X.env)).any (·.1)=aR:=by rfl):PE X (.Call (.Name x p) (e::es) [] pos) (tE X.K (dz op g)):=(an2 d hg c f h i a he b).weak (afn L)
end
abbrev FN:=List Vl->Ce->Option (Vl×Ce)
def HW:Vl->Bool
 |.tp _ _ _=>aq
 |_=>aR
def SJ(K:bw)(Z Θ:040)(C:Ce)(H H':Hp):Vl->V->Prop
 |.tp p d q,v=>∃t a vs us,v=.ref t/\H' t=aa (.tup (vs++.ref a::us))/\H a=aj/\Sm K (a::Z) Θ [] C [] H'/\nG (er (bQ (a::Z) Θ [] []) H') H' a d/\cQ (er (bQ (a::Z) Θ [] []) H') p vs/\cQ (er (bQ (a::Z) Θ [] []) H') q us
 |r,v=>Res K Z Θ [] C [] H H' r v
theorem SJ.res{K:bw}{C:Ce}{r:Vl}{v:V}(n:HW r=aR)(h:SJ K Z Θ C H H' r v):Res K Z Θ [] C [] H H' r v:=by
 cases r<;>first|exact h|cases n
def spT(K:bw)(f:FN):Sp:=λvs H Q _=>∃Z Θ C xs r C',Sm K Z Θ [] C [] H/\xM K (er (bQ Z Θ [] []) H) Θ xs vs/\f xs C=aa (r,C')/\
 ∀v H',bL Θ H H'->SJ K Z Θ C' H H' r v->Q v H'
def bO(f:FN)(g:FA):FE:=λao C=>match g ao C with
 |some (xs,e',C1)=>match f xs C1 with
  |some (r,C2)=>if HW r then aj else aa (r,rst r ao e',C2)
  |none=>aj
 |none=>aj
theorem uD(h:∀a,a∈P↔a∈P'):er P H=er P' H:=by
 unfold er;simp[*]
theorem Q7(a:aH):a∈bQ (Z++cR ao σ) Θ [] []↔a∈bQ Z Θ ao σ:=by
 simp only[cR,gP,jg]
 lia
section
variable{K:bw}{ao:En}{σ:St}{H H':Hp}{a:aH}
theorem Sm.zm(S:001)(f:H a=aj)(k:bL Θ H H')(h':NT (H' a))(c:jJ Θ C' H'):Sm K (a::Z) Θ ao C' σ H':=by
 have sm:=nC k S.tV λb m=>by
  rcases cB.mp m with rfl|m
  .exact .inr f
  .exact .inl m
 refine#[S.len,lM.mpr #[λm=>S.Li a m f,S.nd],λb m=>?_,λi x e=>?_,c]
 .rcases cB.mp m with rfl|m
  .trivial
  .obtain⟨u,e,n⟩:=S.dom b m
   exact⟨u,k.keep _ _ e λz=>by
    have h:=S.nd
    grind,n⟩
 .obtain⟨v,e1,r⟩:=S.slot i x e
  refine#[v,e1,r.same sm λd b ex g o' j=>k.keep _ _ j ?_]
  subst ex g
  exact(S.pI (oO.mpr #[i,d,e,e1])).2
theorem Sm.bare(S:001):Sm K (Z++cR ao σ) Θ [] C [] H:=by
 refine#[rfl,?_,λb m=>?_,λi x e=>(nomatch e),S.cell]
 .have h:=S.nd
  show((Z++cR _ σ)++(Θ++[])).Nodup
  rw[jg]
  exact(List.Perm.nodup_iff ((List.append_assoc ..▸(List.Perm.append_left Z List.perm_append_comm)))).mp h
 .rcases gP.mp m with m|m
  .exact S.dom b m
  .exact S.sI b (jH _ (jH _ m))
theorem Res.back(S:001)(k:bL Θ H H')(h:Res K (Z++cR ao σ) Θ [] C' [] H H' r v):Res K Z Θ ao C' σ H H' r v:=by
 have e1:er _ H'=er 025 H':=uD Q7;cases r with
 |im d=>
  obtain⟨c,r⟩:=h
  rw[e1] at r
  exact#[S.go k c.cell,r]
 |ow d=>
  obtain⟨a,rfl,e,c,r⟩:=h
  have e2:er (bQ (a::(Z++cR _ σ)) Θ [] []) H'=er _ H':=uD λb=>by
   show b∈a::bQ _ Θ [] []↔b∈a::bQ Z Θ ao σ;rw[cB,cB,Q7]
  rw[e2] at r
  exact#[a,rfl,e,S.zm e k (c.dom a fV) c.cell,r]
 |ce n=>exact#[S.go k h.1.cell,h.2]
 |sc ns=>
  obtain⟨c,a,rfl,q⟩:=h
  rw[e1] at q
  exact#[S.go k c.cell,a,rfl,q]
 |ks ns=>
  obtain⟨c,a,rfl,q⟩:=h
  rw[e1] at q
  exact#[S.go k c.cell,a,rfl,q]
 |tp=>exact h
end
section
variable{X:Cx}{x:Str}{k:Nat}{p pos:Pos}{e:Expr}{f:FN}{g:FA}
theorem apC{K:bw}:∀σ H Q,tE K (bO f g) σ H Q->RP (spT K f) [] E0 (wH K g) σ H Q:=by
 rintro σ H Q ⟨Z,Θ,ao,C,res,bK,C',S,hf,q⟩;unfold bO at hf;refine hide λGG d=>?_
 split at hf
 .rename_i xs e1 C1 h1;split at hf
  .rename_i h2;split at hf
   .lia
   rename_i nt;cases(hf);refine d (#[Z,Θ,_,C,xs,e1,C1,S,h1,λvs H1 a e c a1=>?_]);rw[jg];have e2:er _ H1=er (bQ Z Θ e1 σ) H1:=uD Q7;rw[<-e2] at a1
   exact#[_,Θ,C1,xs,_,C',c.bare,a1,h2,λv H2 b R=>q v H2 (a.trans b) (e.rst _) (((Res.back c b (R.res (alq.mpr nt))).from a).rst S (a.trans b))]
  lia
 lia
theorem aiu(F:cX X.prog X.w X.K X.mg X.base x k ps (spT X.K f))(c:jZ k X.A)(hg:Gl X x)(d:PA X (e::es) (wH X.K g))(a:017=aR:=by decide)
  (he:bV (e::es) X.env=(010 e)::bV es X.env:=by rfl)(b:(jx pos (bV es X.env)).any (·.1)=aR:=by rfl):PE X (.Call (.Name x p) (e::es) [] pos) (tE X.K (bO f g)):=(aip F c hg d a he b).weak apC
end
theorem Xg:∀{ao:En}{σ:St},(∀(i j:Nat)(d e:az)(a:aH),ao[i]?=aa (aa (Vl.ow d))->σ[i]?=aa (aa (V.ref a))->ao[j]?=aa (aa (Vl.ow e))->σ[j]?=aa (aa (V.ref a))->i=j)->(cR ao σ).Nodup
 |[],σ,_=>by cases σ<;>exact qG
 |_::_,[],_=>qG
 |x::en,v::s,h=>by
  rw[cR,qF]
  refine#[?_,Xg λi j d e a h1 h2 g k=>?_,λa c b f e=>?_]
  .unfold own1
   grind
  .have:=h (i+1) (j+1) d e a 07 07 07 07;lia
  .unfold own1 at c;split at c
   .rw[jU] at c;subst c
    obtain⟨j,d,h1,h2⟩:=oO.mp f
    have:=h 0 (j+1) _ d a rfl rfl 07 07;lia
   trivial
theorem get_set{α:Type}{l:List α}{x y:α}(h:(l.set i x)[j]?=aa y):(j=i/\y=x/\i<l.length)\/(j≠i/\l[j]?=aa y):=c8
theorem agH{α:Type}{l:List α}{x:α}(h:i<l.length):(l.set i x)[i]?=aa x:=by simp_all
theorem uw(h:a∈cR (ao.set i (aa x)) (σ.set i (aa v))):a∈cR ao σ\/(∃d,x=.ow d)/\v=.ref a:=by
 refine hide λGG b=>?_
 obtain⟨j,d,h1,h2⟩:=oO.mp h
 rcases get_set h1 with⟨rfl,e,_⟩|⟨n,h1⟩
 .grind
 .rcases get_set h2 with⟨e,_,_⟩|⟨_,h2⟩
  .trivial
  .exact b (.inl (oO.mpr #[j,d,h1,h2]))
section
variable{K:bw}{Z Θ:List aH}{C:Ce}{σ:St}{H:Hp}{a:aH}{i:Nat}{v:V}
theorem Sm.gh(S:001):Z.Nodup/\Θ.Nodup/\(cR ao σ).Nodup/\(∀b∈Z,b∉Θ):=by
 have h:=S.nd
 grind
theorem Eh(h1:Z.Nodup)(h2:Θ.Nodup)(a:O.Nodup)(c:∀b∈Z,b∉Θ)(d:∀b∈O,b∉Z/\b∉Θ):(Z++(Θ++O)).Nodup:=c8
theorem Sm.sG(S:001){x:Vl}(f:∀d,x≠.ow d)(r:HR K (er (bQ Z Θ ao σ) H) H Θ x v):Sm K Z Θ (ao.set i (aa x)) C (σ.set i (aa v)) H:=by
 have sub:∀b,b∈cR _ (σ.set i (aa v))->b∈cR ao σ:=λb m=>by
  rcases uw m with m|⟨⟨d,e⟩,k⟩
  .exact m
  .exact absurd e (f d)
 have gh:=S.gh;have sm:cI (er (bQ Z Θ _ σ) H) _:=vG λb m=>by
  rcases gP.mp m with m|m
  .exact pB _ m
  .rcases gP.mp m with m|m
   .exact jH _ (pB _ m)
   .exact jH _ (jH _ (sub b m))
 refine#[by rw[Ex,Ex];exact S.len,?_,S.dom,λj y e=>?_,S.cell]
 .refine Eh gh.1 gh.2.1 (Xg λp q d e b h1 h2 c a=>?_) gh.2.2.2 λb m=>S.pI (sub b m)
  rcases get_set h1 with⟨rfl,e1,k⟩|⟨n1,h1⟩
  .grind
  .rcases get_set c with⟨rfl,e1,k⟩|⟨n2,c⟩
   .grind
   .rcases get_set h2 with⟨e2,k,k⟩|⟨k,h2⟩
    .lia
    .rcases get_set a with⟨e4,k,k⟩|⟨k,a⟩
     .lia
     .exact J3 gh.2.2.1 h1 h2 c a
 .rcases get_set e with⟨rfl,e1,hl⟩|⟨n,e⟩
  .cases e1
   exact#[v,agH (by rwa [S.len]),r.same sm λd b ex k=>absurd ex (f d)]
  .obtain⟨u,e1,g⟩:=S.slot j y e
   exact#[u,by grind,g.same sm λk k k k k h=>h]
theorem Sm.ai4(S:Sm K (a::Z) Θ ao C σ H){d:az}(r:nG (er (bQ (a::Z) Θ ao σ) H) H a d):Sm K Z Θ (ao.set i (aa (.ow d))) C (σ.set i (aa 043)) H:=by
 have sub:∀b,b∈cR (ao.set i (aa (.ow d))) (σ.set i (aa (.ref a)))->b∈cR _ σ\/b=a:=λb m=>by
  rcases uw m with m|⟨w,e⟩
  .exact .inl m
  .cases e;exact .inr rfl
 have gh:=S.gh;have k:=lM.mp gh.1;have sm:cI (er (bQ (a::Z) Θ ao σ) H) _:=vG λb m=>by
  rcases gP.mp m with m|m
  .exact pB _ (fU _ m)
  .rcases gP.mp m with m|m
   .exact jH _ (pB _ m)
   .rcases sub b m with m|rfl
    .exact jH _ (jH _ m)
    .exact pB _ fV
 have g:=λm=>(S.pI m).1 fV
 refine#[by rw[Ex,Ex];exact S.len,?_,λb m=>S.dom b (fU _ m),λj y e=>?_,S.cell]
 .refine Eh k.2 gh.2.1 (Xg λp q l e b h1 h2 f c=>?_) (λb m=>gh.2.2.2 b (fU _ m)) λb m=>?_
  .rcases get_set h1 with⟨rfl,e1,w⟩|⟨n1,h1⟩
   .rcases get_set f with⟨e3,w,w⟩|⟨n2,f⟩
    .exact e3.symm
    .rcases get_set h2 with⟨w,e2,w⟩|⟨n,w⟩
     .cases e2;rcases get_set c with⟨e4,w,w⟩|⟨w,c⟩
      .exact e4.symm
      .exact absurd (oO.mpr #[q,e,f,c]) g
     .exact absurd rfl n
   .rcases get_set h2 with⟨e2,w,w⟩|⟨w,h2'⟩
    .exact absurd e2 n1
    .have s:=oO.mpr #[p,l,h1,h2'];rcases get_set f with⟨rfl,e3,w⟩|⟨n2,f⟩
     .grind
     .rcases get_set c with⟨e4,w,w⟩|⟨w,c⟩
      .exact absurd e4 n2
      .exact J3 gh.2.2.1 h1 h2' f c
  .rcases sub b m with m|rfl
   .obtain⟨p,q⟩:=S.pI m
    exact#[λz=>p (fU _ z),q]
   .exact#[k.1,gh.2.2.2 b fV]
 .rcases get_set e with⟨rfl,e1,hl⟩|⟨n,e⟩
  .cases e1
   exact#[_,agH (by rwa [S.len]),a,rfl,r.same sm λw h=>h]
  .obtain⟨u,e1,o⟩:=S.slot j y e
   exact#[u,by rwa [yx (jW n)],o.same sm λw w w w w h=>h]
theorem Res.set(h:Res K Z Θ ao C σ H0 H r v):Sm K Z Θ (ao.set i (aa r)) C (σ.set i (aa v)) H:=by
 cases r with
 |im d=>exact h.1.sG (λk e=>nomatch e) h.2
 |ow d=>obtain⟨a,rfl,k,S,r⟩:=h;exact S.ai4 r
 |ce n=>exact h.1.sG (λk e=>nomatch e) h.2
 |sc ns=>exact h.1.sG (λk e=>nomatch e) h.2
 |ks ns=>exact h.1.sG (λk e=>nomatch e) h.2
 |tp=>trivial
end
inductive Fl where
 |nx|rt (r:Vl)|bk|ct
abbrev FS:=En->Ce->Option (Fl×En×Ce)
structure jT(Θ A':List aH)(H:Hp):Prop where
 ex:∃Δ,A'=Θ++Δ/\∀a∈Δ,H a=aj
theorem jT.refl(Θ:040)(H:Hp):jT Θ Θ H:=#[[],by simp,λk m=>nomatch m]
structure gj(K:bw)(Z Θ:List aH)(ao:En)(σ:St)(H:Hp)(A':List aH)(bK:En)(C':Ce)(F':St)(H':Hp):Prop where
 th:jT Θ A' H
 kp:bL (Θ++cR ao σ) H H'
 own:∀a∈cR bK F',a∈cR ao σ\/H a=aj
 sm:Sm K Z A' bK C' F' H'
def RV(K:bw)(Z Θ:040)(C:Ce)(own:040)(H H':Hp):Vl->V->Prop
 |.im d,v=>Sm K Z Θ [] C [] H'/\RZ (er (bQ Z Θ [] []) H') d v
 |.ow d,v=>∃a,v=.ref a/\(a∈own\/H a=aj)/\Sm K (a::Z) Θ [] C [] H'/\nG (er (bQ (a::Z) Θ [] []) H') H' a d
 |.ce n,v=>Sm K Z Θ [] C [] H'/\∃a,v=.ref a/\Θ[n]?=aa a
 |.sc ns,v=>Sm K Z Θ [] C [] H'/\∃a,v=.ref a/\cA K (er (bQ Z Θ [] []) H') a 050
 |.ks ns,v=>Sm K Z Θ [] C [] H'/\∃a,v=.ref a/\dW K (er (bQ Z Θ [] []) H') a (ns.map toV)
 |.tp p d q,v=>∃t a vs us,v=.ref t/\H' t=aa (.tup (vs++.ref a::us))/\(a∈own\/H a=aj)/\Sm K (a::Z) Θ [] C [] H'/\nG (er (bQ (a::Z) Θ [] []) H') H' a d/\cQ (er (bQ (a::Z) Θ [] []) H') p vs/\cQ (er (bQ (a::Z) Θ [] []) H') q us
structure RtP(K:bw)(Z Θ:List aH)(ao:En)(σ:St)(H:Hp)(A':List aH)(C':Ce)(r:Vl)(v:V)(H':Hp):Prop where
 th:jT Θ A' H
 kp:bL (Θ++cR ao σ) H H'
 ok:RV K Z A' C' (cR ao σ) H H' r v
def SM(K:bw)(Z Θ:040)(ao:En)(σ:St)(H:Hp)(bK:En)(C':Ce)(D:Ends):Fl->Prop
 |.nx=>∀A' F' H',gj K Z Θ ao σ H A' bK C' F' H'->D.nx F' H'
 |.bk=>∀A' F' H',gj K Z Θ ao σ H A' bK C' F' H'->D.bk F' H'
 |.ct=>∀A' F' H',gj K Z Θ ao σ H A' bK C' F' H'->D.ct F' H'
 |.rt r=>∀A' v H',RtP K Z Θ ao σ H A' C' r v H'->D.rt v H'
inductive tS(K:bw)(f:FS)(D:Ends)(σ:St)(H:Hp):Prop
 |mk (Z Θ:040) (ao:En) (C:Ce) (fl:Fl) (bK:En) (C':Ce) (S:001) (hf:f ao C=aa (fl,bK,C')) (q:SM K Z Θ ao σ H bK C' D fl):tS K f D σ H
section
variable{K:bw}{C C1 C2:Ce}{σ F1 F2:St}{H H1 H2:Hp}
theorem jT.trans(h:jT Θ A1 H)(k:∀a,H a≠aj->H1 a≠aj)(g:jT A1 A2 H1):jT Θ A2 H:=by
 obtain⟨Δ,e,n⟩:=h.ex
 obtain⟨U',b,c⟩:=g.ex
 refine#[_,by rw[b,e,ie],λa m=>?_]
 grind
theorem afo(d:jT Θ A1 H)(b:bL (Θ++cR ao σ) H H1)(h:∀a∈cR e1 F1,a∈cR ao σ\/H a=aj)(c:bL (A1++cR e1 F1) H1 H2):bL (Θ++cR ao σ) H H2:=by
 refine#[λa o e n=>c.keep a o (b.keep a o e n) λm=>n ?_,λa e=>c.dom a (b.dom a e)]
 rcases gP.mp m with m|m
 .obtain⟨Δ,f,g⟩:=d.ex
  grind
 grind
theorem gj.trans(p:gj K Z Θ ao σ H A1 e1 C1 F1 H1)(q:gj K Z A1 e1 F1 H1 A2 e2 C2 F2 H2):gj K Z Θ ao σ H A2 e2 C2 F2 H2 where
 th:=p.th.trans p.kp.dom q.th
 kp:=afo p.th p.kp p.own q.kp
 own:=λa m=>by
  rcases q.own a m with m|m
  .exact p.own a m
  .exact .inr (p.kp.none m)
 sm:=q.sm
theorem gj.ret(p:gj K Z Θ ao σ H A1 e1 C1 F1 H1)(q:RtP K Z A1 e1 F1 H1 A2 C2 r v H2):RtP K Z Θ ao σ H A2 C2 r v H2 where
 th:=p.th.trans p.kp.dom q.th
 kp:=afo p.th p.kp p.own q.kp
 ok:=by
  have h:=q.ok;cases r with
  |im d=>exact h
  |ow d=>
   obtain⟨a,e,m,S,r⟩:=h
   refine#[a,e,?_,S,r]
   rcases m with m|m
   .exact p.own a m
   .exact .inr (p.kp.none m)
  |ce n=>exact h
  |sc ns=>exact h
  |ks ns=>exact h
  |tp=>
   obtain⟨t,a,vs,us,e,b,m,R⟩:=h
   exact#[t,a,vs,us,e,b,m.elim (p.own a) λm=>.inr (p.kp.none m),R]
theorem SM.trans(p:gj K Z Θ ao σ H A1 e1 C1 F1 H1)(h:SM K Z Θ ao σ H e2 C2 D fl):SM K Z A1 e1 F1 H1 e2 C2 D fl:=by
 cases fl with
 |nx=>exact λA' F' H' q=>h A' F' H' (p.trans q)
 |bk=>exact λA' F' H' q=>h A' F' H' (p.trans q)
 |ct=>exact λA' F' H' q=>h A' F' H' (p.trans q)
 |rt r=>exact λA' v H' q=>h A' v H' (p.ret q)
theorem rT(k:bL Θ H H1):bL (Θ++O) H H1:=#[λa o e n=>k.keep a o e λm=>n (pB _ m),k.dom]
theorem gj.uW(k:bL Θ H H1)(f:Fz ao e1)(S:Sm K Z Θ e1 C1 σ H1):gj K Z Θ ao σ H Θ e1 C1 σ H1:=
 #[jT.refl _ _,rT k,λa m=>.inl (f.own.subset m),S]
end
def jm:FS:=λao C=>aa (.nx,ao,C)
noncomputable def bN (f g:FS):FS:=λao C=>match f ao C with
 |some (.nx,e1,C1)=>g e1 C1
 |r=>r
def jn(c:FT)(f g:FS):FS:=λao C=>match c ao C with
 |some (true,C1)=>f ao C1
 |some (false,C1)=>g ao C1
 |none=>aj
noncomputable def eU (f:FE):FS:=λao C=>match f ao C with
 |some (r,e1,C1)=>aa (.rt r,e1,C1)
 |none=>aj
def oh(i:Nat):FS:=λao C=>match ao[i]? with
 |some (some x)=>aa (.rt x,ao,C)
 |_=>aj
noncomputable def cP (i:Nat) (f:FE):FS:=λao C=>match f ao C with
 |some (r,e1,C1)=>aa (.nx,e1.set i (aa r),C1)
 |none=>aj
section
variable{X:Cx}{st:dH}{rest:List dH}{pos:Pos}
theorem gj.same{K:bw}{C:Ce}{σ:St}{H:Hp}(S:001):gj K Z Θ ao σ H Θ ao C σ H:=gj.uW 009 024 S
theorem jK:jQ X [] (tS X.K jm):=aqK.weak λD σ H bz=>by
 obtain⟨Z,Θ,ao,C,b,bK,C',S,a,q⟩:=bz
 cases(a);exact q Θ σ H (gj.same S)
theorem gB(h:PS X st (tS X.K f)):jQ X [st] (tS X.K f):=aqL h
theorem apD{K:bw}:∀D σ H,tS K (bN f g) D σ H->aiJ (tS K f) (tS K g) D σ H:=by
 rintro D σ H ⟨Z,Θ,ao,C,fl,bK,C',S,hf,q⟩;unfold bN at hf;split at hf
 .rename_i e1 C1 h1
  exact#[Z,Θ,_,C,_,e1,C1,S,h1,λA1 F1 H1 p=>#[Z,A1,e1,C1,fl,_,C',p.sm,hf,q.trans p]]
 .refine#[Z,Θ,_,C,fl,_,C',S,hf,?_]
  cases fl with
  |nx=>lia
  |bk=>exact q
  |ct=>exact q
  |rt r=>exact q
theorem bT(h:PS X st (tS X.K f))(a:jQ X rest (tS X.K g)):jQ X (st::rest) (tS X.K (bN f g)):=(ao9 h a).weak apD
theorem jO(k:PT X c (gY X.K t))(l:jQ X a (tS X.K f))(j:jQ X b (tS X.K g)):PS X (.If c a b pos) (tS X.K (jn t f g)):=(ail k l j).weak λD σ H bz=>by
 obtain⟨Z,Θ,ao,C,i,bK,C',S,e,q⟩:=bz
 unfold jn at e;split at e
 .rename_i C1 h1
  exact#[Z,Θ,_,C,_,C1,S,h1,λH1 h d=>ye #[Z,Θ,_,C1,i,_,C',d,e,q.trans (gj.uW h 024 d)]]
 .rename_i C1 h1
  exact#[Z,Θ,_,C,_,C1,S,h1,λH1 h d=>yc #[Z,Θ,_,C1,i,_,C',d,e,q.trans (gj.uW h 024 d)]]
 lia
theorem Sm.none{K:bw}{C:Ce}{σ:St}{H:Hp}(S:001):Sm K Z Θ [] C [] H:=by
 have gh:=S.gh
 exact#[rfl,Eh gh.1 gh.2.1 qG gh.2.2.2 (λk m=>nomatch m),S.dom,λi x e=>by simp_all,S.cell]
theorem CT:cI (er 025 H) (er (bQ Z Θ [] []) H):=vG λb m=>by
 rcases gP.mp m with m|m
 .grind
 .rcases gP.mp m with m|m
  .grind
  trivial
theorem Res.ret{K:bw}{ao:En}{C:Ce}{σ:St}{H H':Hp}{r:Vl}{v:V}(h:Res K Z Θ ao C σ H H' r v):RV K Z Θ C O H H' r v:=by
 cases r with
 |im d=>exact#[h.1.none,h.2.same CT]
 |ow d=>obtain⟨a,e,n,S,r⟩:=h;exact#[a,e,.inr n,S.none,r.same CT λ_ h=>h]
 |ce n=>exact#[h.1.none,h.2]
 |sc ns=>obtain⟨S,a,e,q⟩:=h;exact#[S.none,a,e,CT.seq q]
 |ks ns=>obtain⟨S,a,e,q⟩:=h;exact#[S.none,a,e,CT.HS q]
 |tp=>trivial
theorem atE(h:PE X e (tE X.K f)):PS X (.Return (aa e) pos) (tS X.K (eU f)):=(ahr h).weak λD σ H bz=>by
 refine hide λGG b=>?_
 obtain⟨Z,Θ,ao,C,c,bK,C',S,a,q⟩:=bz
 unfold eU at a;split at a
 .rename_i r e1 C1 h1;cases(a);exact b (#[Z,Θ,_,C,r,_,C',S,h1,λv H1 k f R=>q Θ v H1 #[jT.refl _ _,rT k,R.ret]])
 trivial
theorem rW(h:PE X e (lA i)):PS X (.Return (aa e) pos) (tS X.K (oh i)):=(ahr h).weak λD σ H bz=>by
 refine hide λGG g=>?_
 obtain⟨Z,Θ,ao,C,j,bK,C',S,c,q⟩:=bz
 unfold oh at c;split at c
 .rename_i x f;cases(c)
  obtain⟨v,e1,r⟩:=S.slot i x f
  refine g (#[v,e1,q Θ v H #[jT.refl _ _,bL.refl _ _,?_]]);cases x with
  |im d=>exact#[S.none,RZ.same CT r]
  |ow d=>
   obtain⟨a,rfl,r⟩:=r
   have m:=oO.mpr #[i,d,f,e1];have sm:cI (er (bQ Z Θ _ σ) H) (er (bQ _ Θ [] []) H):=vG λb mb=>by
    rcases gP.mp mb with mb|mb
    .rcases cB.mp mb with rfl|mb
     .exact jH _ (jH _ m)
     .exact pB _ mb
    .rcases gP.mp mb with mb|mb
     .grind
     .nomatch mb
   have gh:=S.gh
   refine#[a,rfl,.inl m,#[rfl,Eh (lM.mpr #[(S.pI m).1,gh.1]) gh.2.1 qG (λb mb=>?_) (λk m=>nomatch m),λb mb=>?_,λi x e=>by grind,S.cell],r.same sm λk h=>h]
   .rcases cB.mp mb with rfl|mb
    .exact(S.pI m).2
    simp_all
   .rcases cB.mp mb with rfl|mb
    .exact r.nt
    .exact S.dom b mb
  |ce n=>exact#[S.none,r]
  |sc ns=>obtain⟨a,e,q⟩:=r;exact#[S.none,a,e,CT.seq q]
  |ks ns=>obtain⟨a,e,q⟩:=r;exact#[S.none,a,e,CT.HS q]
  |tp=>trivial
 trivial
theorem QF{K:bw}{f:FE}(w:∀σ H Q,tE K f σ H Q->t σ H Q):∀D σ H,tS K (cP i f) D σ H->vV t (qQ i) D σ H:=by
 rintro D σ H ⟨Z,Θ,ao,C,fl,bK,C',S,hf,q⟩;unfold cP at hf;refine hide λGG c=>?_
 split at hf
 .rename_i r e1 C1 h1;cases(hf);refine c (w _ _ _ #[Z,Θ,_,C,r,e1,C',S,h1,λv H1 k f R=>q Θ _ H1 #[jT.refl _ _,rT k,λa m=>?_,R.set]]);rcases uw m with m|⟨⟨d,e⟩,e2⟩
  .exact .inl (f.own.subset m)
  .subst e
   obtain⟨b,g,n,j⟩:=R
   lia
 trivial
theorem atF(hN:049)(hi:X.N[i]?=aa x)(a:044)(he:PE X e (tE X.K f))(hs:p7 e (aa (.Name x pos')) pos.line X.env=pure aR:=by rfl)(b:X.fn x=aq\/X.env.scope.names.lookup x=aa .local:=by first|exact .inl rfl|exact .inr rfl|assumption):
  PS X (.Assign [.Name x pos'] e pos) (tS X.K (cP i f)):=(G5 hN hi a he hs b).weak (QF λk k k h=>h)
end
abbrev FG:=az->En->Option En
abbrev Mr:=List az->En->Option En
def Im(K:bw)(g:TG)(fg:FG):Prop:=∀(Z Θ:040)(ao:En)(C:Ce)(σ:St)(H:Hp)(v:V)(d:az)(bK:En),Sm K Z Θ ao C σ H->RZ (er 025 H) d v->fg d ao=aa bK->
 ∀Q:St->Hp->Prop,(∀F',Sm K Z Θ bK C F' H->(∀a∈cR bK F',a∈cR ao σ)->Q F' H)->g v σ H Q
def SN(K:bw)(g:zL)(fg:Mr):Prop:=∀(Z Θ:040)(ao:En)(C:Ce)(σ:St)(H:Hp)(vs:041)(ds:036)(bK:En),Sm K Z Θ ao C σ H->cQ (er 025 H) ds vs->fg ds ao=aa bK->
 ∀Q:St->Hp->Prop,(∀F',Sm K Z Θ bK C F' H->(∀a∈cR bK F',a∈cR ao σ)->Q F' H)->g vs σ H Q
noncomputable def dM (i:Nat):FG:=λd ao=>aa (ao.set i (aa (.im d)))
def xP:Mr:=λds ao=>match ds with
 |[]=>aa ao
 |_=>aj
def nj(g:FG)(u:Mr):Mr:=λds ao=>match ds with
 |d::r=>match g d ao with
  |some e1=>u r e1
  |none=>aj
 |[]=>aj
def yq(n:Nat)(u:Mr):FG:=λd ao=>match d with
 |.tuple ds=>if ds.length=n then u ds ao else aj
 |_=>aj
theorem ahK(h:∀a∈cR e1 F1,a∈cR ao σ):cI (er (bQ Z Θ ao σ) H) (er (bQ Z Θ e1 F1) H):=vG λb m=>c8
section
variable{K:bw}
theorem jC:Im K (qQ i) (dM i):=by
 intro Z Θ ao C σ H v d bK S r e Q q;cases e;refine q _ (S.sG (λ_ z=>nomatch z) r) λa m=>?_
 rcases uw m with m|⟨⟨_,z⟩,_⟩
 .exact m
 trivial
theorem Gx:SN K aaE xP:=by
 intro Z Θ ao C σ H vs ds bK S r e Q q;unfold xP at e;split at e
 .cases e
  exact#[r,q _ S λk m=>m]
 lia
theorem qM(h:Im K g fg)(hu:SN K u fu):SN K (aag g u) (nj fg fu):=by
 intro Z Θ ao C σ H vs ds bK S r e Q q;unfold nj at e;refine hide λGG b=>?_
 split at e
 .rename_i d r'
  obtain⟨v,ws,rfl,c,f⟩:=r
  split at e
  .rename_i e1 h1;exact b (#[v,ws,rfl,h Z Θ _ C σ H v d e1 S c h1 _ λF1 S1 o1=>(hu Z Θ e1 C F1 H ws r' _ S1 (f.same (ahK o1)) e Q λF2 S2 o2=>q F2 S2 λa m=>o1 a (o2 a m))])
  lia
 lia
theorem Hf(hu:SN K u fu):Im K (aaF K n u) (yq n fu):=by
 intro Z Θ ao C σ H v d bK S r e Q q;unfold yq at e;split at e
 .rename_i ds;split at e
  .rename_i hl
   obtain⟨a,vs,rfl,b,r⟩:=r
   exact#[a,vs,rfl,dW.of (jB b),(lg r).trans hl,hu Z Θ _ C σ H vs ds _ S r e Q q]
  lia
 lia
end
def Bo(f:FE)(g:FG):FS:=λao C=>match f ao C with
 |some (r,e1,C1)=>match still r with
  |.im d=>match g d e1 with
   |some e2=>aa (.nx,e2,C1)
   |none=>aj
  |_=>aj
 |none=>aj
theorem Res.xQ{K:bw}{ao:En}{C:Ce}{σ:St}{H H':Hp}{r:Vl}{v:V}(h:Res K Z Θ ao C σ H H' r v)(e:L2.still r=.im d):Sm K Z Θ ao C σ H'/\RZ (er 025 H') d v:=by
 have g:=h.still
 rwa [e] at g
section
variable{pos:Pos}
theorem Km{tg e:Expr}{g:TG}(he:PE X e (tE X.K f))(hg:PG X tg g)(L:Im X.K g fg)(hs:Cp [tg] e pos.line X.env=pure aR:=by rfl)(c:Cq [tg] e X.env=pure aj:=by rfl)(h1:(xj [tg] X.env).map (·.2)=[assign tg X.env]:=by rfl):
  PS X (.Assign [tg] e pos) (tS X.K (Bo f fg)):=(Zq he hg hs c h1).weak λD σ H bz=>by
 refine hide λGG h=>?_
 obtain⟨Z,Θ,ao,C,n,bK,C',S,b,q⟩:=bz
 unfold Bo at b;split at b
 .rename_i r e1 C1 h1;split at b
  .rename_i d j;split at b
   .rename_i h2;cases(b);refine h (#[Z,Θ,_,C,r,e1,C',S,h1,λv H1 k f R=>?_])
    obtain⟨l,i⟩:=R.xQ j
    exact L Z Θ e1 C' σ H1 v d _ l i h2 _ λF' S' o=>q Θ F' H1 #[jT.refl _ _,rT k,λa m=>.inl (f.own.subset (o a m)),S']
   lia
  lia
 lia
end
inductive uH(K:bw)(E H:Hp)(Θ:List aH):List aH->List Vl->List V->Prop
 |nil:uH K E H Θ [] [] []
 |cons {as:040} {x:Vl} {v:V} {xs:List Vl} {vs:041}:zj K E Θ x v->uH K E H Θ as xs vs->uH K E H Θ as (x::xs) (v::vs)
 |own {as:040} {a:aH} {d:az} {xs:List Vl} {vs:041}:nG E H a d->uH K E H Θ as xs vs->uH K E H Θ (as++[a]) (.ow d::xs) (.ref a::vs)
theorem uH.heap{K:bw}{E H H':Hp}{vs:041}(s:cI H H')(h:uH K E H Θ as xs vs):uH K E H' Θ as xs vs:=by
 induction h with
 |nil=>exact .nil
 |cons a _ ih=>exact .cons a ih
 |own r _ ih=>exact .own (r.same (cI.refl _) λo b=>s _ _ b) ih
inductive Bu(K:bw)(f:FA)(σ:St)(H:Hp)(Q:List V->Hp->Prop):Prop
 |mk (Z Θ:040) (ao:En) (C:Ce) (xs:List Vl) (bK:En) (C':Ce) (S:001) (hf:f ao C=aa (xs,bK,C')) (q:∀vs as H',bL Θ H H'->Fz ao bK->(∀a∈as,H a=aj)->Sm K (as++Z) Θ bK C' σ H'->uH K (er (bQ (as++Z) Θ bK σ) H') H' Θ as xs vs->Q vs H'):Bu K f σ H Q
def jX(f:FE)(g:FA):FA:=λao C=>match f ao C with
 |some (r,e1,C1)=>match g e1 C1 with
  |some (xs,e2,C2)=>aa (r::xs,e2,C2)
  |none=>aj
 |none=>aj
section
variable{K:bw}{C:Ce}{σ:St}{H:Hp}
theorem oR:a∈bQ Z Θ ao σ↔a∈Z\/a∈Θ\/a∈cR ao σ:=by simp
theorem Sm.perm(S:001)(p:Z.Perm Z'):Sm K Z' Θ ao C σ H:=by
 have e:er (bQ Z Θ _ σ) H=er (bQ Z' Θ ao σ) H:=uD λa=>by rw[oR,oR,p.mem_iff]
 refine#[S.len,(List.Perm.append_right _ p).nodup S.nd,λa m=>S.dom a (p.mem_iff.mpr m),λi x h=>?_,S.cell]
 rw[<-e];exact S.slot i x h
end
theorem xN:PA X [] (Bu X.K bD):=rZ.weak λσ H Q bz=>by
 obtain⟨Z,Θ,ao,C,xs,bK,C',S,a,q⟩:=bz
 cases(a);exact q [] [] H 009 024 (λk m=>nomatch m) S .nil
theorem lY(h:PE X e (tE X.K f))(A:PA X es (Bu X.K g))(hs:bV (e::es) X.env=(010 e)::bV es X.env:=by rfl):PA X (e::es) (Bu X.K (jX f g)):=(oU h A hs).weak λσ H Q bz=>by
 refine hide λGG w=>?_
 obtain⟨Z,Θ,ao,C,xs,bK,C',S,i,q⟩:=bz
 unfold jX at i;split at i
 .rename_i r e1 C1 h1;split at i
  .rename_i ys e2 C2 h2;cases(i);refine w (#[Z,Θ,_,C,r,e1,C1,S,h1,λv H1 t u c=>?_]);have plain:∀{x:Vl},Sm X.K Z Θ e1 C1 σ H1->zj _ _ Θ x v->r=x->Bu _ g σ H1 λxs H2=>Q (v::xs) H2:=λ{x} j a1 ex=>by
    subst ex
    refine#[Z,Θ,e1,C1,ys,_,C',j,h2,λvs as H2 k l n2 s p=>q _ as H2 (t.trans k) (u.trans l) (λa m=>t.none (n2 a m)) s (.cons (a1.same (nC k j.tV λa m=>?_)) p)]
    rcases gP.mp m with m|m
    .grind
    .exact .inl (l.sub a (jH _ m))
   cases r with
   |im d=>exact plain (x:=.im d) c.1 c.2 rfl
   |ce n=>exact plain (x:=.ce n) c.1 c.2 rfl
   |sc ns=>exact plain (x:=.sc ns) c.1 c.2 rfl
   |ks ns=>exact plain (x:=.ks ns) c.1 c.2 rfl
   |tp=>exact c.elim
   |ow d=>
    obtain⟨a,rfl,E,j,y⟩:=c
    refine#[_,Θ,e1,C1,ys,_,C',j,h2,λvs as H2 k l n2 s p=>?_]
    have z:as++a::Z=(as++[a])++Z:=by rw[ie];rfl
    rw[z] at s p;have D:=λm=>(j.gh.2.2.2 a fV) m
    refine q _ _ H2 (t.trans k) (u.trans l) (λb m=>?_) s (.own (y.same (nC k j.tV λb m=>?_) λo B=>k.keep _ _ B D) p)
    .rcases gP.mp m with m|m
     .exact t.none (n2 b m)
     .rwa [jU.mp m]
    .rcases gP.mp m with m|m
     .grind
     .exact .inl (l.sub b (jH _ m))
  .cases i
 .cases i
noncomputable def setM {α:Type}:List Nat->List α->List (Option α)->List (Option α)
 |i::is,x::xs,e=>setM is xs (e.set i (aa x))
 |_,_,e=>e
theorem YH{K:bw}{H:Hp}{E:Hp}:∀{as:040}{xs:List Vl}{vs:041},uH K E H Θ as xs vs->∀{is:051}{ao:En}{σ:St},is.length=xs.length->cI E (er (bQ (as++Z) Θ ao σ) H)->Sm K (as++Z) Θ ao C σ H->
  Sm K Z Θ (setM is xs ao) C (setM is vs σ) H/\∀a∈cR (setM is xs ao) (setM is vs σ),a∈cR ao σ\/a∈as:=by
 intro as xs vs h;induction h with
 |nil=>
  intro is ao σ hl y S;cases is with
  |nil=>exact#[S,λa m=>.inl m]
  |cons _ _=>cases hl
 |@cons as x v xs vs a1 _ ih=>
  intro is ao σ hl sm S;cases is with
  |nil=>cases hl
  |cons i is=>
   have g:∀d,x≠.ow d:=λd z=>by subst z;exact a1
   have sl:HR K (er (bQ (as++Z) Θ ao σ) H) H Θ x v:=by
    have c:=a1.same sm;cases x with
    |im d=>exact c
    |ow d=>exact absurd rfl (g d)
    |ce n=>exact c
    |sc ns=>exact c
    |ks ns=>exact c
    |tp=>exact c
   have k:Sm K _ Θ _ C (σ.set i _) H:=S.sG g sl;have j:∀b∈cR _ (σ.set i (aa v)),b∈cR ao σ:=λb m=>by
    rcases uw m with m|⟨⟨d,z⟩,y⟩
    .exact m
    .exact absurd z (g d)
   obtain⟨f,e⟩:=ih (by simpa using hl) (sm.trans (ahK j)) k
   refine#[f,λb m=>?_]
   rcases e b m with m|m
   .exact .inl (j b m)
   .exact .inr m
 |@own as a d xs vs r _ ih=>
  intro is ao σ hl sm S;cases is with
  |nil=>cases hl
  |cons i is=>
   have l:((as++[a])++Z).Perm (a::(as++Z)):=by
    rw[ie];exact List.perm_middle
   have p:=S.perm l;have o:er (bQ ((as++[a])++Z) Θ ao σ) H=er (bQ (a::(as++Z)) Θ _ σ) H:=uD λb=>by rw[oR,oR,l.mem_iff]
   rw[o] at sm;have k:Sm K _ Θ _ C (σ.set i _) H:=p.ai4 (r.same sm λy h=>h);have j:∀b∈cR (ao.set i (aa (.ow d))) (σ.set i (aa (.ref a))),b∈cR _ σ\/b=a:=λb m=>by
    rcases uw m with m|⟨y,z⟩
    .exact .inl m
    simp_all
   obtain⟨f,e⟩:=ih (by simpa using hl) (sm.trans (vG λb m=>c8)) k
   refine#[f,λb m=>?_]
   rcases e b m with m|m
   .grind
   .exact .inr (pB _ m)
theorem Q8{K:bw}{E H:Hp}{vs:041}(h:uH K E H Θ as xs vs):vs.length=xs.length:=by
 induction h with
 |nil=>rfl
 |cons _ _ ih=>simp[*]
 |own _ _ ih=>simp_all
def o7(is:051)(g:FA):FS:=λao C=>match g ao C with
 |some (xs,e1,C1)=>if is.length=xs.length/\xs.length<=fG then aa (.nx,setM is xs e1,C1) else aj
 |none=>aj
def gsM(is:051):zL:=match is with
 |[]=>aaE
 |i::r=>aag (qQ i) (gsM r)
theorem agI:∀{is:051}{vs:041}{σ:St}{H:Hp}{Q:St->Hp->Prop},is.length=vs.length->Q (setM is vs σ) H->gsM is vs σ H Q
 |[],[],σ,H,Q,_,q=>#[rfl,q]
 |i::is,v::vs,σ,H,Q,h,q=>#[v,vs,rfl,agI 07 q]
 |[],_::_,_,_,_,h,_=>by cases h
 |_::_,[],_,_,_,h,_=>by cases h
section
variable{pos:Pos}
theorem Hg{kt k2 rD}(t:035)(hN:049)(hi:X.N[i]?=aa x)(o:X.N[j]?=aa y)(d:i≠j)
  (n:X.env.scope.names.lookup x=aa .local)(h:023)(r:PA X [a,b] (Bu X.K g))
  (e:Cq [.Tuple [.Name x px,.Name y py] kt pt] (.Tuple [a,b] k2 rD) X.env=pure (aa [x,y]))
  (hs:Cp [.Tuple [.Name x px,.Name y py] kt pt] (.Tuple [a,b] k2 rD) pos.line X.env=pure aR:=by rfl):
  PS X (.Assign [.Tuple [.Name x px,.Name y py] kt pt] (.Tuple [a,b] k2 rD) pos) (tS X.K (o7 [i,j] g)):=(asZ t hN hi o d n h r e hs).weak λD σ H bz=>by
 refine hide λGG f=>?_
 obtain⟨Z,Θ,ao,C,z,bK,C',S,c,q⟩:=bz
 unfold o7 at c;split at c
 .rename_i xs e1 C1 h1;split at c
  .rename_i hl;cases(c);refine f (#[Z,Θ,_,C,xs,e1,C',S,h1,λvs as H1 s p n1 u a1=>?_]);have A:=Q8 a1
   obtain⟨l,k⟩:=YH a1 hl.1 (cI.refl _) u
   have e2:∃v w,vs=[v,w]:=by
    have:vs.length=2:=by simp_all
    match vs,this with
    |[v,w],_=>lia
   obtain⟨v,w,rfl⟩:=e2
   refine#[v,w,rfl,q Θ _ H1 #[jT.refl _ _,rT s,λb m=>?_,l]]
   rcases k b m with m|m
   .exact .inl (p.own.subset m)
   simp[*]
  lia
 lia
theorem arj{es:057}{g:FA}{n:Nat}{x1 pt}(s:PA X es (Bu X.K g))(hg:PG X tg (aaF X.K n (gsM is)))(x:n=is.length:=by rfl)
  (hs:Cp [tg] (.Tuple es x1 pt) pos.line X.env=pure aR:=by rfl)(i:Cq [tg] (.Tuple es x1 pt) X.env=pure aj:=by rfl)(h1:(xj [tg] X.env).map (·.2)=[assign tg X.env]:=by rfl):
  PS X (.Assign [tg] (.Tuple es x1 pt) pos) (tS X.K (o7 is g)):=(Zq (Zw s) hg hs i h1).weak λD σ H bz=>by
 refine hide λGG j=>?_
 obtain⟨Z,Θ,ao,C,v,bK,C',S,a,q⟩:=bz
 unfold o7 at a;split at a
 .rename_i xs e1 C1 h1;split at a
  .rename_i hl;cases(a);refine j (#[Z,Θ,_,C,xs,e1,C',S,h1,λvs as H1 t r n1 h a1=>#[by rw[Q8 a1];exact sY hl.2,λp d=>?_]]);have w:=Q8 a1
   refine#[p,vs,rfl,dW.of fj,by lia,agI 07 ?_]
   have f:bL Θ H1 (upd H1 p (.tup vs)):=bL.upd d;have e:=h.zf (cI.upd (o:=.tup vs) d);have c:uH _ _ (upd H1 p (.tup vs)) Θ as xs vs:=a1.heap λb o u=>by rwa [di (ue u d)]
   obtain⟨l,k⟩:=YH c hl.1 (nC f h.tV λb m=>.inl m) e
   refine q Θ _ _ #[jT.refl _ _,rT (t.trans f),λb m=>?_,l];rcases k b m with m|m
   .exact .inl (r.own.subset m)
   simp[*]
  lia
 lia
end
theorem X5:∀{ao:En}{σ:St}{i:Nat}{d a:az},ao[i]?=aa (aa (.ow d))->cR (ao.set i (aa (.ow a))) σ=cR ao σ
 |[],σ,i,d,a,h=>rfl
 |x::e,[],i,d,a,h=>by cases i<;>rfl
 |x::e,v::s,0,d,a,h=>by
  simp at h;subst h;rcases v with _|v
  .rfl
  .cases v<;>rfl
 |x::e,v::s,i+1,d,a,h=>by
  show own1 x v++cR _ s=own1 x v++cR e s;rw[X5 (by trivial)]
section
variable{K:bw}{ao:En}{C:Ce}{σ:St}{H:Hp}{a:aH}{i:Nat}{o:HO}
theorem ZF(h:a∈P):er P (upd H a o)=er P H:=by
 funext b;unfold er;by_cases c:b=a
 .lia
 .rw[di c]
theorem Sm.write(S:001)(e1:ao[i]?=aa (aa (.ow d)))(e2:σ[i]?=aa (aa 043))(r:nG (er 025 H) (upd H a o) a d'):gj K Z Θ ao σ H Θ (ao.set i (aa (.ow d'))) C σ (upd H a o):=by
 have m:=oO.mpr #[i,d,e1,e2];have h:=S.pI m;have q:cR (ao.set i (aa (.ow d'))) σ=cR _ σ:=X5 e1;have g:a∈bQ Z Θ _ σ:=jH _ (jH _ m);have ep:bQ Z Θ (ao.set i (aa (.ow d'))) σ=bQ Z Θ ao σ:=c3
 refine#[jT.refl _ _,#[λb u e n=>?_,λb e=>?_],λb mb=>.inl 07,#[by rw[Ex];exact S.len,by rw[ep];exact S.nd,λb mb=>?_,λj y c=>?_,S.cell.keep (λb vs e=>?_) λb mb u e=>?_]]
 .rwa [di (λz=>n (jH _ (c3)))]
 .by_cases z:b=a
  .subst z;rw[fj];simp
  .rwa [di z]
 .rw[di (λz=>h.1 07)];exact S.dom b mb
 .rw[ep,ZF g];rcases get_set c with⟨rfl,ex,hl⟩|⟨n,c⟩
  .cases ex
   exact#[_,e2,a,rfl,r]
  .obtain⟨v,f,k⟩:=S.slot j y c
   refine#[v,f,k.same (cI.refl _) λs b ex l u p=>?_]
   subst ex l;rw[di]
   .trivial
   .intro z;subst z;exact n (J3 S.gh.2.2.1 c f e1 e2)
 .rw[di]
  .trivial
  .intro z;subst z
   obtain⟨u,p,nt⟩:=S.sI b g
   simp_all
 .rwa [di (λz=>h.2 07)]
end
def vP:Option (Option Vl)->Bool
 |some (some (005 _))=>aq
 |_=>aR
def pR(i:Nat)(f:FE):FS:=λao C=>if vP ao[i]? then match f ao C with
  |some (r,e1,C1)=>match still r,e1[i]? with
   |.im d,some (some (005 ds))=>if ds.length<fG then aa (.nx,e1.set i (aa (005 (ds++[d]))),C1) else aj
   |_,_=>aj
  |none=>aj
 else aj
theorem apE(h:vP x=aq):∃ds,x=aa (aa (005 ds)):=by
 unfold vP at h
 grind
section
variable{X:Cx}{pos:Pos}
theorem Hh(G:PE X o (lA i))(he:PE X e (tE X.K f))
  (l:p7 (.Call (.Attribute o "append" apos) [e] [] cpos) aj pos.line X.env=pure aR:=by rfl)
  (b:Fg o "append" X.env (eval o X.env)=eval o X.env:=by rfl)
  (j:((jx cpos (bV [e] X.env)).all (λx=>!x.1)&&(Qp cpos (O3 [] X.env)).all (λx=>x.1.isSome)
   &&decide (([e]:List Expr).length+([]:List yP).length+(if([]:List yP).isEmpty then 0 else 1)<30))=aq:=by rfl)
  (c:(apos.endLine==cpos.line)=aq:=by rfl)(hs:bV [e] X.env=(010 e)::bV [] X.env:=by rfl)(hplain:(jx cpos (bV [] X.env)).any (·.1)=aR:=by rfl):
  PS X (.Expr (.Call (.Attribute o "append" apos) [e] [] cpos) pos) (tS X.K (pR i f)):=
 (agc (aak akm ab8 akh (Ea.r W8) G (oU he rZ hs) b j c hs hplain) l).weak λD σ H bz=>by
  refine hide λGG m=>?_
  obtain⟨Z,Θ,ao,C,I,bK,C',S,g,q⟩:=bz
  unfold pR at g;split at g
  .rename_i t
   obtain⟨A,t⟩:=apE t
   obtain⟨v0,n,a,rfl,F,y,J⟩:=S.slot i _ t
   split at g
   .rename_i r e1 C1 h1;split at g
    .rename_i d ds E hi;split at g
     .rename_i hl;cases(g);refine m (#[_,n,.inl #[rfl,F,cA.of y],Z,Θ,ao,C,r,e1,C',S,h1,λv H1 k f R=>(hide λGG m=>?_)])
      obtain⟨u,B⟩:=R.xQ E
      obtain⟨v1,h,a1,p,vs,s,z⟩:=u.slot i _ hi
      subst p;rw[n] at h;cases h;refine m (#[a,vs,v,rfl,rfl,s,by rw[lg z,jV];unfold fG at hl;lia,?_]);have w:gj _ Z Θ e1 σ H1 Θ (e1.set i (aa (.ow (.list (ds++[d]))))) C' σ _:=u.write hi n #[_,fj,Gw z #[v,[],rfl,B,rfl]];exact q Θ σ _ ((gj.uW k f u).trans w)
     lia
    lia
   lia
  lia
def pU{κ:Type}[DecidableEq κ](f:az->Option κ)(k:κ)(dk d:az)(au:021):List (az×az):=
 if(au.any λp=>decide (f p.1=aa k))=aq then au.map (λp=>if f p.1=aa k then(p.1,d) else p) else au++[(dk,d)]
def putD(au:021)(dk d:az):Option (List (az×az)):=match fO dk with
 |some k=>if(cO fO au).isSome then aa (pU fO k dk d au) else aj
 |none=>match lq dk with
  |some ks=>if(cO lq au).isSome then aa (pU lq ks dk d au) else aj
  |none=>aj
theorem YJ[DecidableEq κ]:∀{au:021}{ks:List κ}{vs:041},cO f au=aa ks->jb E au vs->(au.any λp=>decide (f p.1=aa k))=((ks.zip vs).any λa=>decide (a.1=k))
 |[],ks,vs,h,r=>by
  cases h;rfl
 |(p,d)::au,ks,vs,h,r=>by
  unfold cO at h;split at h
  .rename_i h1 h2;cases h
   obtain⟨v,w,rfl,q,s⟩:=r
   show(decide _||_)=(decide _||_)
   rw[YJ h2 s];congr 1;simp[*]
  lia
theorem agJ[DecidableEq κ](g:RZ E d v):∀{au:021}{ks:List κ}{vs:041},cO f au=aa ks->jb E au vs->
  ∃a,cO f (au.map λp=>if f p.1=aa k then(p.1,d) else p)=aa ks/\jb E (au.map λp=>if f p.1=aa k then(p.1,d) else p) a/\ks.zip a=(ks.zip vs).map λc=>if c.1=k then(c.1,v) else c
 |[],ks,vs,h,r=>by
  cases h
  exact#[[],rfl,rfl,rfl]
 |(p,e)::au,ks,vs,h,r=>by
  unfold cO at h;split at h
  .rename_i l t h1 h2;cases h
   obtain⟨u,w,rfl,q,s⟩:=r
   obtain⟨a,m,j,n⟩:=agJ (k:=k) g h2 s
   have b:=h1;by_cases i:l=k
   .subst i
    refine#[v::a,?_,?_,?_]
    .rw[dN];rw[bZ b];unfold cO
     exact c4
    .rw[dN];rw[bZ b]
     exact#[v,_,rfl,g,j]
    simp[*]
   .have ne:=λz=>i (nO (b.symm.trans z))
    refine#[u::a,?_,?_,?_]
    .rw[dN];rw[cC ne];unfold cO
     exact c4
    .rw[dN];rw[cC ne]
     exact#[u,_,rfl,q,j]
    simp[*]
  trivial
theorem afp{f:az->Option κ}{k:κ}{E:Hp}{v:V}(b:f dk=aa k)(a:RZ E d v):∀{au:021}{ks:List κ}{vs:041},cO f au=aa ks->jb E au vs->
  cO f (au++[(dk,d)])=aa (ks++[k])/\jb E (au++[(dk,d)]) (vs++[v])/\(ks++[k]).zip (vs++[v])=ks.zip vs++[(k,v)]
 |[],ks,vs,h,r=>by
  cases h
  cases r
  refine#[?_,#[v,[],rfl,a,rfl],rfl]
  unfold cO cO
  simp_all
 |(p,e)::au,ks,vs,h,r=>by
  unfold cO at h;split at h
  .rename_i h1 h2;cases h
   obtain⟨u,w,rfl,q,s⟩:=r
   obtain⟨g,c,i⟩:=afp b a h2 s
   refine#[?_,#[u,_,rfl,q,c],?_]
   .unfold cO;simp[*]
   simp[*]
  trivial
theorem Gy{κ:Type}[DecidableEq κ]{f:az->Option κ}{k:κ}{E:Hp}{dk d:az}{v:V}(j:f dk=aa k)(c:RZ E d v){au:021}{ks:List κ}{vs:041}(h:cO f au=aa ks)(r:jb E au vs):
  ∃b a,cO f (pU f k dk d au)=aa b/\jb E (pU f k dk d au) a/\b.zip a=putK (ks.zip vs) k v:=by
 unfold pU putK;rw[YJ h r];split
 .obtain⟨a,g,e,i⟩:=agJ c h r
  exact#[ks,_,g,e,i]
 .obtain⟨g,e,i⟩:=afp j c h r
  exact c8
theorem set_dict(hu:033):zE X (λo i v H Q=>∃a H',o=.ref a/\vW H a i v H'/\∀e,Q (H' e)):=by
 intro aC s σ H o i v j k u Q I b c d h
 obtain⟨a,H',rfl,g,q⟩:=h
 cases b;exact aer hu I g c d λe s' f=>#[_,f,q e]
theorem aoo(hu:033):zE X (λo i v H Q=>∃(a b:aH)(ks:TK),o=.ref a/\(∃ep,H a=aa (.dK [] ep))/\i=.ref b/\kO H b ks/\∀e,Q (upd H a (.dT [(ks,v)] e))):=by
 intro aC s σ H o i v p r u Q I k l m h;refine hide λGG g=>?_
 obtain⟨a,b,ks,rfl,⟨ep,f⟩,rfl,j,q⟩:=h
 cases k;have d:kO (upd H a (.dT [] ep)) b ks:=j.mono λc xs e=>by rwa [di (Dr e f 012)]
 refine g (aer hu (I.Ed f) (vW.t fj d bh) l m λe s' n=>#[_,n,?_]);rw[QZ];exact q e
theorem zE.or(h:zE X t)(h':zE X t'):zE X (λo i v H Q=>t o i v H Q\/t' o i v H Q):=by
 intro aC s σ H o i v e d u Q I b a c q;rcases q with q|q
 .exact h _ s σ H o i v e d u Q I b a c q
 .exact h' _ s σ H o i v e d u Q I b a c q
theorem ark(hu:033):zE X (λo i v H Q=>(aaj o i v H Q\/∃a H',o=.ref a/\vW H a i v H'/\∀e,Q (H' e))\/∃(a b:aH)(ks:TK),o=.ref a/\(∃ep,H a=aa (.dK [] ep))/\i=.ref b/\kO H b ks/\∀e,Q (upd H a (.dT [(ks,v)] e))):=
 (set_list.or (set_dict hu)).or (aoo hu)
def uI:Option (Option Vl)->Bool
 |some (some _)=>aq
 |_=>aR
theorem arl(h:uI x=aq):∃y,x=aa (aa y):=by
 unfold uI at h
 grind
def o8:Option Cl->Option (List Ci)
 |some (.lst xs)=>aa xs
 |_=>aj
def HX(i:Nat)(d dk:az)(e:En)(C:Ce):Option Vl->Option (Fl×En×Ce)
 |some (005 ds)=>(intD dk).bind λz=>(qt ds.length z).bind λj=>aa (.nx,e.set i (aa (005 (ds.set j d))),C)
 |some (.ow (.dict au))=>(putD au dk d).bind λkvs'=>bif decide (au.length<fG) then aa (.nx,e.set i (aa (.ow (.dict kvs'))),C) else aj
 |some (.ce n)=>(intD dk).bind λz=>(o8 C[n]?).bind λxs=>(qt xs.length z).bind λj=>if gb d=aq then aa (.nx,e,C.set n (.lst (xs.set j (.dat d)))) else aj
 |_=>aj
def qm(i:Nat)(fk:FB)(fe:FE):FS:=λao C=>(fe ao C).bind λp=>(wF (still p.1)).bind λd=>(fk p.2.1 p.2.2).bind λk=>bif uI p.2.1[i]? then(k.2.1[i]?).bind (HX i d k.1 k.2.1 k.2.2) else aj
def KN(o i v:V)(H:Hp)(Q:Hp->Prop):Prop:=(aaj o i v H Q\/∃a H',o=.ref a/\vW H a i v H'/\∀e,Q (H' e))\/∃(a b:aH)(ks:TK),o=.ref a/\(∃ep,H a=aa (.dK [] ep))/\i=.ref b/\kO H b ks/\∀e,Q (upd H a (.dT [(ks,v)] e))
section
variable{K:bw}{e2:En}{C2:Ce}{σ:St}{H2:Hp}{i:Nat}{d dk:az}{v w:V}{a:aH}{R:Hp->Prop}
theorem apF(m:Sm K Z Θ e2 C2 σ H2)(l:σ[i]?=aa (aa 043))(hi:e2[i]?=aa (aa (005 ds)))(rt:nG (er (bQ Z Θ e2 σ) H2) H2 a (.list ds))(k:RZ (er (bQ Z Θ e2 σ) H2) d v)(b2:gW Z Θ e2 σ H2 dk w)(b:HX i d dk e2 C2 (aa (005 ds))=aa p):
  p.1=.nx/\((∀e,gj K Z Θ e2 σ H2 Θ p.2.1 p.2.2 σ e->R e)->KN 043 w v H2 R):=by
 refine hide λGG h=>?_
 obtain⟨z,c,b⟩:=dB b
 obtain⟨j,n,b⟩:=dB b
 cases b;have c:=agC c;subst c
 obtain⟨vs,g,f⟩:=rt
 subst b2;exact h (#[rfl,λq=>.inl (.inl #[a,vs,z,j,rfl,rfl,g,by rwa [lg f],q _ (m.write hi l #[_,fj,agA k j f])])])
theorem agK(au:021):pU lq ks0 dk d au≠[]:=λz=>by
 unfold pU at z;split at z
 .simp_all
 simp_all
theorem apG{au:021}(x:Sm K Z Θ e2 C2 σ H2)(C:σ[i]?=aa (aa 043))(hi:e2[i]?=aa (aa (.ow (.dict au))))(rt:nG (er (bQ Z Θ e2 σ) H2) H2 a (.dict au))(B:RZ (er (bQ Z Θ e2 σ) H2) d v)(b2:gW Z Θ e2 σ H2 dk w)(j:HX i d dk e2 C2 (aa (.ow (.dict au)))=aa p):
  p.1=.nx/\((∀D,gj K Z Θ e2 σ H2 Θ p.2.1 p.2.2 σ D->R D)->KN 043 w v H2 R):=by
 refine hide λGG t=>?_
 obtain⟨G,f,j⟩:=dB j
 cases hl:decide (au.length<fG) with
 |false=>simp_all
 |true=>
 rw[hl] at j;cases j;have hl:=of_decide_eq_true hl;have n:∀{κ:Type}(ks:List κ)(vs:041),ks.length=au.length->(ks.zip vs).length<cG:=λks vs e=>by
  rw[Jb,jV];unfold fG at hl;lia
 obtain⟨vs,E,y⟩:=rt
 unfold putD at f;split at f
 .rename_i k u;split at f
  case isFalse=>lia
  rename_i g;cases f;have I:w=kV k:=by
   cases dk<;>first|(cases u;trivial)|cases u
  rcases E with⟨ks,c,ep,ha⟩|⟨ks,⟨ne,A⟩,ha⟩
  .obtain⟨l,r,s,o,m⟩:=Gy u B c y
   subst I;exact t #[rfl,λq=>.inl (.inr #[a,_,rfl,vW.k ha (n ks vs (vA c)),λe=>q _ (x.write hi C #[_,.inl #[_,s,e,by rw[m];exact fj],o])])]
  .obtain⟨z,c⟩:=wN.mp g
   exact absurd (xu c A) ne
 .split at f
  case h_2=>lia
  rename_i h;split at f
  case isFalse=>lia
  rename_i g;cases f
  obtain⟨b,F,rfl⟩:=X3 h b2
  rcases E with⟨ks,c,ha⟩|⟨ks,⟨ne,c⟩,ep,ha⟩
  .obtain⟨z,A⟩:=wN.mp g
   have H:=xu c A;subst H;cases c;obtain⟨l,r,s,o,m⟩:=Gy (au:=[]) h B rfl rfl
   exact t #[rfl,λq=>.inr #[a,b,_,rfl,ha,rfl,F,λe=>q _ (x.write hi C #[_,.inr #[_,#[agK [],s],e,by rw[m];exact fj],o])]]
  .obtain⟨l,r,s,o,m⟩:=Gy h B c y
   exact t #[rfl,λq=>.inl (.inr #[a,_,rfl,vW.t ha F (n ks vs (vA c)),λe=>q _ (x.write hi C #[_,.inr #[_,#[agK _,s],e,by rw[m];exact fj],o])])]
theorem jo.len:∀{xs:List Ci}{vs:041},jo Θ H xs vs->vs.length=xs.length
 |[],vs,h=>by rw[h];rfl
 |x::xs,vs,h=>by
  obtain⟨v,r,rfl,_,s⟩:=h
  rw[eZ,eZ,s.len]
theorem jo.at:∀{xs:List Ci}{vs:041}{j:Nat}{x:Ci},jo Θ H xs vs->xs[j]?=aa x->∃v,vs[j]?=aa v/\uM Θ H x v
 |[],_,j,x,_,e=>by simp_all
 |y::xs,vs,j,x,h,e=>by
  obtain⟨v,r,rfl,q,s⟩:=h
  cases j with
  |zero=>simp_all
  |succ j=>
   obtain⟨w,h1,h2⟩:=s.at (by trivial)
   simp[*]
theorem jo.set(a:uM Θ H y w):∀{xs:List Ci}{vs:041}(j:Nat),jo Θ H xs vs->jo Θ H (xs.set j y) (vs.set j w)
 |[],vs,j,h=>by rw[h];rfl
 |x::xs,vs,j,h=>by
  obtain⟨v,r,rfl,q,s⟩:=h
  cases j with
  |zero=>exact#[w,r,rfl,a,s]
  |succ j=>exact#[v,_,rfl,q,s.set a j]
theorem jJ.write(k:jJ Θ C H)(p:Θ.Nodup)(d:Θ[n]?=aa a)(t:∀H',(∀a vs,H a=aa 039->H' a=aa 039)->H' a=aa o->rF Θ H' a c):jJ Θ (C.set n c) (upd H a o):=by
 have y:=pZ d;have q:∀b vs,H b=aa 039->upd H a o b=aa _:=λb vs B=>by
  rw[di]
  .trivial
  .intro z;subst z
   obtain⟨u,A,nt⟩:=k.dom b y
   simp_all
 refine#[by rw[Ex];exact k.len,λm b x g l=>?_]
 rcases get_set l with⟨rfl,e6,_⟩|⟨nm,l⟩
 .rw[d] at g;cases g;cases e6;exact t _ q fj
 .refine(k.at_ m b x g l).keep q (λ_ _ h=>h) λu A=>?_
  rw[di]
  .trivial
  .intro w;subst w
   obtain⟨s,e⟩:=lW.mp g
   obtain⟨r,f⟩:=lW.mp d
   rcases Nat.lt_trichotomy m n with j|v|i
   .exact M5.mp p m n s r j (e.trans f.symm)
   .lia
   .exact M5.mp p n m r s i (f.trans e.symm)
theorem bL.cell(e:a∈Θ):bL Θ H (L2.upd H a o):=⟨λb u d f=>by rwa [di (λc=>f (by rwa[c]))],λb d=>by
  by_cases c:b=a
  .subst c;rw[fj];simp
  .rwa [di c]⟩
theorem apH(k:Sm K Z Θ e2 C2 σ H2)(f:Θ[n]?=aa a)(B:RZ (er (bQ Z Θ e2 σ) H2) d v)(b2:gW Z Θ e2 σ H2 dk w)(b:HX i d dk e2 C2 (aa (.ce n))=aa p):
  p.1=.nx/\((∀r,gj K Z Θ e2 σ H2 Θ p.2.1 p.2.2 σ r->R r)->KN 043 w v H2 R):=by
 refine hide λGG x=>?_
 obtain⟨z,l,b⟩:=dB b
 obtain⟨xs,e,b⟩:=dB b
 obtain⟨j,C,b⟩:=dB b
 split at b
 case isFalse=>lia
 rename_i g;cases b;have l:=agC l;subst l;subst b2;have m:C2[n]?=aa (.lst xs):=by
  cases hc:C2[n]? with
  |none=>rw[hc] at e;trivial
  |some c=>
   rw[hc] at e;cases c with
   |lst ys=>cases e;rfl
   |lG au=>trivial
   |yp=>trivial
 obtain⟨vs,y,t⟩:=k.cell.at_ n a _ f m
 have u:=pZ f;have A:=B.same (vN _ _);refine x #[rfl,λq=>.inl (.inl #[a,_,z,j,rfl,rfl,y,by rwa [t.len],q _ (gj.uW (bL.cell u) 024 (k.go (bL.cell u) (k.cell.write k.gh.2.1 f λH' s o=>#[_,o,jo.set (show uM _ _ (.dat d) v from#[g,RZ.gb s g A]) j (t.keep s λ_ _ h=>h)])))])]
theorem arn(c:Sm K Z Θ e2 C2 σ H2)(h:σ[i]?=aa (aa u))(hi:e2[i]?=aa s)(g:RZ (er (bQ Z Θ e2 σ) H2) d v)(b2:gW Z Θ e2 σ H2 dk w)(f:HX i d dk e2 C2 s=aa p):
  p.1=.nx/\((∀j,gj K Z Θ e2 σ H2 Θ p.2.1 p.2.2 σ j->R j)->KN u w v H2 R):=by
 cases s with
 |none=>trivial
 |some s=>
 obtain⟨l,b,sl⟩:=c.slot i _ hi
 rw[h] at b;cases b;cases s with
 |im _=>trivial
 |sc _=>trivial
 |ks _=>trivial
 |tp=>trivial
 |ce n=>
  obtain⟨a,rfl,e⟩:=sl
  exact apH c e g b2 f
 |ow x=>
  obtain⟨a,rfl,k⟩:=sl
  cases x<;>first|exact apF c h hi k g b2 f|exact apG c h hi k g b2 f|trivial
end
theorem Hi(hu:033)(F:PE X o (lA i))(n:PE X k (eN X.K fk))(he:PE X e (tE X.K fe))
  (x:∀v,assign (.Subscript o k p) X.env v=(do
   let ov <-rR [v] (eval o X.env)
   let iv <-rR [v,ov] (eval k X.env)
   xx p
   rR [v,ov,iv] (setItem ov iv v)
   release [v,ov,iv] []):=by intro _;rfl)
  (hs:Cp [.Subscript o k p] e pos.line X.env=pure aR:=by rfl)(l:Cq [.Subscript o k p] e X.env=pure aj:=by rfl)(h1:(xj [.Subscript o k p] X.env).map (·.2)=[assign (.Subscript o k p) X.env]:=by rfl):
  PS X (.Assign [.Subscript o k p] e pos) (tS X.K (qm i fk fe)):=(Zq he (asY (t:=KN) F n (ark hu) x) hs l h1).weak λD σ H bz=>by
 refine hide λGG m=>?_
 obtain⟨Z,Θ,ao,C,G,bK,C',S,a,q⟩:=bz
 obtain⟨p,h1,a⟩:=dB a
 obtain⟨d,A,a⟩:=dB a
 obtain⟨K,h2,a⟩:=dB a
 cases b:uI _ with
 |false=>rw[b] at a;trivial
 |true=>
 rw[b] at a
 obtain⟨s,hi,a⟩:=dB a
 obtain⟨I,b⟩:=arl b
 refine m (#[Z,Θ,_,C,_,_,_,S,h1,λv H1 y r B=>?_])
 obtain⟨c,z⟩:=B.xQ (G8 A)
 obtain⟨u,g,_⟩:=c.slot i _ b
 refine#[u,g,Z,Θ,_,_,_,_,_,c,h2,λw H2 j h f b2=>?_]
 obtain⟨E,go⟩:=arn f g hi (z.same (aaq c j h)) b2 a
 subst E;exact go λJ st=>q Θ σ _ ((gj.uW (y.trans j) (r.trans h) f).trans st)
end
noncomputable def intsOf:List az->Option (List Int)
 |[]=>aa []
 |.int i::r=>match intsOf r with
  |some t=>aa (i::t)
  |none=>aj
 |_=>aj
theorem QG:∀{ds:036}{ns:028}{vs:041},intsOf ds=aa ns->cQ E ds vs->vs=ns.map V.int
 |[],ns,vs,h,r=>by cases h;exact r
 |.int i::ds,ns,vs,h,r=>by
  unfold intsOf at h;split at h
  .rename_i ht;cases h
   obtain⟨u,w,rfl,q,s⟩:=r
   rw[QG ht s];have:=q;rw[this];rfl
  trivial
 |.none::_,_,_,h,_=>by cases h
 |.bool _::_,_,_,h,_=>by cases h
 |.str _::_,_,_,h,_=>by cases h
 |.list _::_,_,_,h,_=>by cases h
 |.tuple _::_,_,_,h,_=>by cases h
 |.dict _::_,_,_,h,_=>by cases h
def Lk(i:Nat)(f:FE):FS:=λao C=>match f ao C with
 |some (.ow (.list ds),e1,C1)=>match intsOf ds with
  |some ns=>aa (.nx,e1.set i (aa (.ce C1.length)),C1++[inC ns])
  |none=>aj
 |_=>aj
section
variable{X:Cx}{pos:Pos}
theorem Dn{Θ Δ:040}(m:Nat)(b:aH)(h:Θ[m]?=aa b):(Θ++Δ)[m]?=aa b:=c8
theorem jJ.more(k:jJ Θ C H)(h:rF (Θ++[a]) H a c):jJ (Θ++[a]) (C++[c]) H:=by
 have cl:=k.len
 refine#[by rw[fW,fW,cl];rfl,λm b x e d=>?_]
 by_cases f:m<Θ.length
 .rw[uZ f] at e;rw[uZ (cl▸f)] at d
  exact(k.at_ m b x e d).keep (λ_ _ h=>h) Dn λ_ h=>h
 .have q:=Nat.not_lt.mp f;rw[uY q] at e;rw[uY (cl▸q),cl] at d;cases k:m-Θ.length with
  |zero=>rw[k] at e d;cases e;cases d;exact h
  |succ n=>rw[k] at e;cases e
theorem Sm.J6{K:bw}{e1:En}{C1:Ce}{σ:St}{H1:Hp}{c:Cl}(f:Sm K (a::Z) Θ e1 C1 σ H1)(l:rF (Θ++[a]) H1 a c):Sm K Z (Θ++[a]) e1 (C1++[c]) σ H1:=by
 have gh:=f.gh;have o:=lM.mp gh.1;have p:=f.cell.more l;have i:∀b,b∈bQ Z (Θ++[a]) e1 σ↔b∈bQ (a::Z) Θ e1 σ:=λb=>by grind
 refine#[f.len,Eh o.2 ?_ gh.2.2.1 (λb m=>?_) λb m=>?_,λb m=>f.dom b (fU _ m),λj x e=>?_,p]
 .grind
 .grind
 .obtain⟨p1,p2⟩:=f.pI m
  simp_all
 .obtain⟨v,k,g⟩:=f.slot j x e
  rw[uD i]
  refine#[v,k,?_]
  cases x with
  |im d=>trivial
  |ow d=>trivial
  |ce n=>
   obtain⟨b,h,q⟩:=g
   exact#[b,h,by grind]
  |sc ns=>trivial
  |ks ns=>trivial
  |tp=>exact g
theorem Sm.atG{K:bw}{e1:En}{C1:Ce}{σ:St}{H1:Hp}{a:aH}(b:Sm K (a::Z) Θ e1 C1 σ H1)(c:H1 a=aa (.lst 050)):Sm K Z (Θ++[a]) e1 (C1++[inC ns]) σ H1:=b.J6 (apy.mpr c)
theorem apI{K:bw}:∀D σ H,tS K (Lk i f) D σ H->vV (tE K f) (qQ i) D σ H:=by
 rintro D σ H ⟨Z,Θ,ao,C,fl,bK,C',S,hf,q⟩;unfold Lk at hf;refine hide λGG e=>?_
 split at hf
 .rename_i e1 C1 h1;split at hf
  .rename_i c;cases(hf);refine e (#[Z,Θ,_,C,_,e1,C1,S,h1,λv H1 k f R=>?_])
   obtain⟨a,rfl,o,d,vs,j,r⟩:=R
   have n:=QG c r;subst n;have cl:=d.cell.len;have h:∀b∈cR (e1.set i (aa (.ce C1.length))) (σ.set i (aa (.ref a))),b∈cR e1 σ:=λb m=>by
    rcases uw m with m|⟨⟨y,z⟩,y⟩
    .exact m
    trivial
   have g:=d.atG j;have l:Sm K Z _ (e1.set i (aa (.ce C1.length))) _ _ H1:=
    g.sG (λ_ z=>nomatch z) #[a,rfl,by simp_all]
   exact q _ _ H1 #[#[_,rfl,λb m=>c8],rT k,λb m=>.inl (f.own.subset (h b m)),l]
  lia
 lia
theorem atH(hN:049)(hi:X.N[i]?=aa x)(a:044)(he:PE X e (tE X.K f))(hs:p7 e (aa (.Name x pos')) pos.line X.env=pure aR:=by rfl)(b:X.fn x=aq\/X.env.scope.names.lookup x=aa .local:=by first|exact .inl rfl|exact .inr rfl|assumption):
  PS X (.Assign [.Name x pos'] e pos) (tS X.K (Lk i f)):=(G5 hN hi a he hs b).weak apI
def SQ(i:Nat)(f:FB):FS:=λao C=>match ao[i]? with
 |some (some (00 x))=>match f ao C with
  |some (.int y,_,C1)=>aa (.nx,ao.set i (aa (00 (x+y))),C1)
  |_=>aj
 |_=>aj
theorem atJ(hN:049)(hi:X.N[i]?=aa x)(g:044)(he:PE X e (eN X.K f))(b:X.fn x=aq\/X.env.scope.names.lookup x=aa .local:=by first|exact .inl rfl|exact .inr rfl|assumption):
  PS X (.AugAssign (.Name x pos') .Add e pos) (tS X.K (SQ i f)):=(as3 hN hi g he as4 b).weak λD σ H bz=>by
 refine hide λGG c=>?_
 obtain⟨Z,Θ,ao,C,n,bK,C',S,b,q⟩:=bz
 unfold SQ at b;split at b
 .rename_i z h;split at b
  .rename_i y e1 C1 h1;cases(b)
   obtain⟨v,j,r⟩:=S.slot i _ h
   refine c (#[v,j,Z,Θ,_,C,_,e1,C',S,h1,λw H1 k f l b1=>#[z,y,r,b1,?_]]);have d:=S.go k l.cell;refine q Θ _ H1 #[jT.refl _ _,rT k,λa m=>?_,d.sG (λ_ z=>nomatch z) rfl];rcases uw m with m|⟨⟨u,z⟩,u⟩
   .lia
   lia
  lia
 lia
end
def nW(c:FT)(body:FS):Nat->FS
 |0=>λ_ _=>aj
 |n+1=>λao C=>match c ao C with
  |some (false,C1)=>aa (.nx,ao,C1)
  |some (true,C1)=>match body ao C1 with
   |some (.nx,e2,C2)=>nW c body n e2 C2
   |some (.ct,e2,C2)=>nW c body n e2 C2
   |some (.bk,e2,C2)=>aa (.nx,e2,C2)
   |some (.rt r,e2,C2)=>aa (.rt r,e2,C2)
   |none=>aj
  |none=>aj
def KQ:Nat:=100000
def zP(c:FT)(body:FS):FS:=nW c body KQ
theorem anv{K:bw}{c:FT}:∀D σ H,tS K (nW c body n) D σ H->ahs (gY K c) (tS K body) D σ H:=by
 rintro D σ H ⟨Z,Θ,ao,C,fl,bK,C',S,hf,q⟩
 refine#[λm F1 H1=>∃A1 e1 C1,gj K Z Θ _ σ H A1 e1 C1 F1 H1/\nW c _ m e1 C1=aa _,#[n,Θ,_,C,gj.same S,hf],?_]
 rintro m F1 H1 ⟨A1,e1,C1,p,hf⟩;cases m with
 |zero=>trivial
 |succ m=>
  unfold nW at hf;split at hf
  .rename_i h1;refine hide λGG d=>?_
   cases(hf);exact d (#[Z,A1,_,C1,_,C',p.sm,h1,λH2 f a=>yc (q A1 F1 H2 (p.trans (gj.uW f 024 a)))])
  .rename_i C2 h1
   refine#[Z,A1,e1,C1,_,C2,p.sm,h1,λH2 f a=>ye #[_,λF' H' h=>#[m,Nm m,h],?_]]
   have p2:=p.trans (gj.uW f 024 a);refine hide λGG d=>?_
   split at hf
   .rename_i e b h2;exact d (#[Z,A1,e1,C2,_,e,b,a,h2,λA3 F3 H3 p3=>#[A3,e,b,p2.trans p3,hf]])
   .rename_i e b h2;exact d (#[Z,A1,e1,C2,_,e,b,a,h2,λA3 F3 H3 p3=>#[A3,e,b,p2.trans p3,hf]])
   .rename_i h2;cases(hf);exact d (#[Z,A1,e1,C2,_,_,C',a,h2,λA3 F3 H3 p3=>q A3 F3 H3 (p2.trans p3)])
   .rename_i h2;cases(hf);exact d (#[Z,A1,e1,C2,_,_,C',a,h2,λA3 v H3 p3=>q A3 v H3 (p2.ret p3)])
   lia
  trivial
theorem QH(d:PK 02 X.A X.env X.xe)(b:PT X c (gY X.K t))(a:jQ X body (tS X.K f)):PS X (.While c body [] pos) (tS X.K (zP t f)):=(apa d b a).weak anv
abbrev FI:=En->Ce->Option (List az×En×Ce)
def zJ(P T:040)(H:Hp)(J:It)(aN:036):Prop:=∀(i:Nat)(H2:Hp)(P2:040),cI (er P H) (er P2 H2)->cI (er T H) (er T H2)->(∀a∈P2,NT (H2 a))->
 (∀d,aN[i]?=aa d->J.go i H2/\∀x H3,J.Mi i H2 x H3->cI H2 H3/\RZ (er P2 H3) d x)/\(i=aN.length->J.stop i H2)
inductive tI(K:bw)(b:Bool)(f:FI)(σ:St)(H:Hp)(R:It->Hp->Prop):Prop
 |mk (Z Θ:040) (ao:En) (C:Ce) (aN:036) (bK:En) (C':Ce) (S:001) (hf:f ao C=aa (aN,bK,C')) (q:∀J H',bL Θ H H'->Fz ao bK->Sm K Z Θ bK C' σ H'->zJ (bQ Z Θ bK σ) (if b then Θ else bQ Z Θ bK σ) H' J aN->R J H'):tI K b f σ H R
theorem PI.weak(h:PI X tg e t)(w:∀σ H Q,t' σ H Q->t σ H Q):PI X tg e t':=λaC s σ H Q I q=>h _ s σ H Q I (w σ H Q q)
theorem PI.or(h:PI X tg e t)(h':PI X tg e t'):PI X tg e (λσ H R=>t σ H R\/t' σ H R):=λaC s σ H R I q=>q.elim (h _ s σ H R I) (h' _ s σ H R I)
section
variable{K:bw}{H:Hp}{a:aH}{vs:List V}
theorem YK(c:er T H a=aa (.lst vs))(r:cQ (er P H) ds vs):zJ P T H (Itl K a) ds:=λi H2 h s1 e n=>by
 have h2:cA K H2 a vs:=cA.of (jB (e _ _ c))
 refine#[λd f=>?_,λhi=>#[vs,h2,by rw[lg r];lia]]
 obtain⟨v,b,g⟩:=yW r f
 refine#[#[vs,v,h2,b],λx j y=>?_]
 obtain⟨rfl,y⟩:=y
 have:=y vs h2;rw[b] at this;cases this
 exact#[cI.refl _,g.same s1]
theorem ZG(c:er P H a=aa 039)(r:cQ (er P H) ds vs):zJ P T H (Itt K a) ds:=λi H2 h s1 g n=>by
 have h2:dW K H2 a vs:=dW.of (jB (s1 _ _ c))
 refine#[λd e=>?_,λhi=>#[vs,h2,by rw[lg r];lia]]
 obtain⟨v,b,f⟩:=yW r e
 refine#[#[vs,v,h2,b],λx j y=>?_]
 obtain⟨rfl,y⟩:=y
 have:=y vs h2;rw[b] at this;cases this
 exact#[cI.refl _,f.same s1]
def chars(z:Str):List az:=z.cps.toList.map λc=>.str #[#v[c]]
theorem ahL(z:Str):zJ P T H (Its z) (chars z):=λi H2 k s1 j n=>by
 refine#[λd a=>?_,λhi=>?_]
 .unfold chars at a;rw[jN] at a;cases hc:z.cps.toList[i]? with
  |none=>simp_all
  |some c=>
   rw[hc] at a;cases a;have e:z.cps[i]?=aa c:=by simp_all
   have b:i<z.cps.size:=c8
   refine#[b,λx g y=>?_]
   obtain⟨rfl,h,f,rfl⟩:=y
   rw[e] at f;cases f
   exact#[cI.refl _,rfl]
 .rw[hi];unfold chars;rw[bR];exact cH _
def lU(lo:Int)(n:Nat):List az:=(gQ n).map λ(k:Nat)=>.int (lo+(k:Int))
theorem apJ(lo:Int)(n:Nat):zJ P T H (Tp lo n) (lU lo n):=λi H2 g s1 e f=>by
 refine#[λd b=>?_,λhi=>?_]
 .unfold lU at b;rw[jN] at b;by_cases a:i<n
  .rw[List.getElem?_range a] at b;cases b
   refine#[a,λx c y=>?_]
   obtain⟨rfl,rfl⟩:=y
   exact#[cI.refl _,rfl]
  simp_all
 .rw[hi];unfold lU;rw[bR,tZ];exact cH _
end
def itD:az->Option (List az)
 |.list ds=>aa ds
 |.tuple ds=>aa ds
 |.str z=>aa (chars z)
 |_=>aj
def iB(f:FB):FI:=λao C=>match f ao C with
 |some (d,e1,C1)=>match itD d with
  |some aN=>aa (aN,e1,C1)
  |none=>aj
 |none=>aj
def iV(f:FE):FI:=λao C=>match f ao C with
 |some (r,e1,C1)=>match still r with
  |.im d=>match itD d with
   |some aN=>aa (aN,e1,C1)
   |none=>aj
  |_=>aj
 |none=>aj
def mR(f:FB):FI:=λao C=>match f ao C with
 |some (.int j,_,C1)=>if -(2^62)<=j/\j<2^62 then aa (lU 0 j.toNat,ao,C1) else aj
 |_=>aj
section
variable{tg e:Expr}
theorem vZ(h:PE X e (eN X.K f))(m:∀i u,Ew tg i u=pure ():=by intro _ _;rfl):PI X tg e (tI X.K aq (iB f)):=(((JV h).or (Zr h)).or (ahA h m)).weak λσ H R bz=>by
 refine hide λGG l=>?_
 obtain⟨Z,Θ,ao,C,n,bK,C',S,j,q⟩:=bz
 unfold iB at j;split at j
 .rename_i d e1 C1 h1;split at j
  .rename_i hi;cases(j);cases d<;>(cases hi)
   .refine l (.inr #[Z,Θ,_,C,_,_,C',S,h1,λv H1 k f g b=>#[_,b,q _ H1 k f g (ahL _)]])
   .refine l (.inl (.inl #[Z,Θ,_,C,_,_,C',S,h1,λv H1 k f g b=>?_]))
    obtain⟨a,vs,rfl,c,r⟩:=b
    exact#[a,rfl,#[vs,cA.of (jB c)],q _ H1 k f g (YK c r)]
   .refine l (.inl (.inr #[Z,Θ,_,C,_,_,C',S,h1,λv H1 k f g b=>?_]))
    obtain⟨a,vs,rfl,c,r⟩:=b
    exact#[a,rfl,#[vs,dW.of (jB c)],q _ H1 k f g (ZG c r)]
  lia
 lia
theorem yf(h:PE X e (tE X.K f))(n:∀i u,Ew tg i u=pure ():=by intro _ _;rfl):PI X tg e (tI X.K aR (iV f)):=(((JV h).or (Zr h)).or (ahA h n)).weak λσ H R bz=>by
 refine hide λGG l=>?_
 obtain⟨Z,Θ,ao,C,o,bK,C',S,c,q⟩:=bz
 unfold iV at c;split at c
 .rename_i h1;split at c
  .rename_i d m;split at c
   .rename_i hi;cases(c);cases d<;>(cases hi)
    .refine l (.inr #[Z,Θ,_,C,_,_,C',S,h1,λv H1 k f R=>?_])
     obtain⟨j,b⟩:=R.xQ m
     exact#[_,b,q _ H1 k f j (ahL _)]
    .refine l (.inl (.inl #[Z,Θ,_,C,_,_,C',S,h1,λv H1 k f R=>?_]))
     obtain⟨j,a,vs,rfl,g,r⟩:=R.xQ m
     exact#[a,rfl,#[vs,cA.of (jB g)],q _ H1 k f j (YK g r)]
    .refine l (.inl (.inr #[Z,Θ,_,C,_,_,C',S,h1,λv H1 k f R=>?_]))
     obtain⟨j,a,vs,rfl,g,r⟩:=R.xQ m
     exact#[a,rfl,#[vs,dW.of (jB g)],q _ H1 k f j (ZG g r)]
   lia
  lia
 lia
theorem yN(hg:Gl X "range")(i:X.mg "range"=aj)(h:PE X a (eN X.K f))(hs:bV [a] X.env=(010 a)::bV [] X.env:=by rfl)(d:bV [a] X.env=[(010 a)]:=by rfl):PI X tg (.Call (.Name "range" p) [a] [] pos) (tI X.K b (mR f)):=
 (anW hg i (dg h dZ hs) d).weak λσ H R bz=>by
  refine hide λGG g=>?_
  obtain⟨Z,Θ,ao,C,m,bK,C',S,c,q⟩:=bz
  unfold mR at c;split at c
  .rename_i j e1 C1 h1;split at c
   .rename_i e;cases(c);refine g (#[Z,Θ,_,C,_,e1,C',S,by unfold cM dw;rw[h1],λvs H1 k f l b1=>?_]);cases b1 with
    |cons b1 b2=>
     cases b2
     exact#[j,by rw[b1],e.1,e.2,q _ H1 k 024 (S.go k l.cell) (apJ 0 _)]
   lia
  lia
end
def iY(g:FG)(body:FS):List az->FS
 |[]=>λao C=>aa (.nx,ao,C)
 |d::r=>λao C=>match g d ao with
  |some e1=>match body e1 C with
   |some (.nx,e2,C2)=>iY g body r e2 C2
   |some (.ct,e2,C2)=>iY g body r e2 C2
   |some (.bk,e2,C2)=>aa (.nx,e2,C2)
   |some (.rt v,e2,C2)=>aa (.rt v,e2,C2)
   |none=>aj
  |none=>aj
def iG(fi:FI)(g:FG)(body:FS):FS:=λao C=>match fi ao C with
 |some (aN,e1,C1)=>iY g body aN e1 C1
 |none=>aj
theorem gj.er{K:bw}{C1:Ce}{σ F1:St}{H H1:Hp}(p:gj K Z Θ ao σ H A1 e1 C1 F1 H1):cI (er 025 H) (er (bQ Z A1 e1 F1) H1):=λb o h=>by
 unfold L2.er at h⊢;split at h
 .lia
 .rename_i n;have a:H b≠aj:=by lia
  rw[cC]
  .refine p.kp.keep b o h λm=>n ?_
   grind
  .intro m;rcases oR.mp m with m|m|m
   .grind
   .obtain⟨Δ,e,c⟩:=p.th.ex
    grind
   .rcases p.own b m with m|m
    .grind
    trivial
theorem aro(s:cI (er P H) (er P2 H2)):cI (er P H) (er P H2):=λb o h=>by
 have h2:=jB (s b o h);unfold er at h⊢;simp_all
theorem apK{K:bw}{g:TG}{fg:FG}(L:Im K g fg):∀D σ H,tS K (iG fi fg body) D σ H->aaG (tI K aR fi) g (tS K body) D σ H:=by
 rintro D σ H ⟨Z,Θ,ao,C,fl,bK,C',S,hf,q⟩;unfold iG at hf;split at hf
 .rename_i b e1 C1 h1
  refine#[Z,Θ,_,C,_,e1,C1,S,h1,λJ H1 F E u it=>?_]
  have p1:=gj.uW F E u
  refine#[λi m F2 H2=>m=b.length-i/\i<=b.length/\∃A2 e2 C2,gj K Z Θ e1 σ H1 A2 e2 C2 F2 H2/\iY fg _ (b.drop i) e2 C2=aa _,#[_,rfl,lO _,Θ,e1,C1,gj.same u,hf],?_]
  rintro i m F2 H2 ⟨rfl,hi,A2,e2,C2,p2,hl⟩
  obtain⟨s,r⟩:=it i H2 _ p2.er (aro p2.er) p2.sm.sI
  cases hd:b[i]? with
  |none=>
   have l:i=b.length:=by
    have:=Uv.mp hd;lia
   rw[l,alI] at hl;refine hide λGG k=>?_
   cases(hl);exact k (.inl #[r l,q A2 F2 H2 (p1.trans p2)])
  |some d=>
   have o:=(lW.mp hd).1;have M:b.drop i=d::b.drop (i+1):=by
    rw[Uw o]
    simp_all
   rw[M] at hl;unfold iY at hl
   obtain⟨go,G⟩:=s d hd
   refine .inr #[go,_,λF' H' h=>#[_,c4,rfl,o,h],λx z y=>?_]
   obtain⟨w,I⟩:=G x z y
   have t:=p2.sm.zf w;have B:=p2.trans (gj.uW (bL.of w) 024 t);split at hl
   .rename_i n A;refine L Z A2 e2 C2 F2 z x d n t I A _ λF4 S4 o4=>?_
    have p:=B.trans #[jT.refl _ _,bL.refl _ _,λa m=>.inl (o4 a m),S4];refine hide λGG k=>?_
    split at hl
    .rename_i j c f;exact k (#[Z,A2,n,C2,_,j,c,S4,f,λA5 F5 H5 p5=>#[A5,j,c,p.trans p5,hl]])
    .rename_i j c f;exact k (#[Z,A2,n,C2,_,j,c,S4,f,λA5 F5 H5 p5=>#[A5,j,c,p.trans p5,hl]])
    .rename_i f;cases(hl);exact k (#[Z,A2,n,C2,_,_,C',S4,f,λA5 F5 H5 p5=>q A5 F5 H5 (p1.trans (p.trans p5))])
    .rename_i c f;cases(hl);exact k (#[Z,A2,n,C2,_,_,C',S4,f,λA5 v H5 p5=>q A5 v H5 (p1.ret (p.ret p5))])
    simp_all
   trivial
 simp_all
theorem pK(c:PK 02 X.A X.env X.xe)(b:035)(hi:PI X tg iter (tI X.K aR fi))(hg:PG X tg g)(L:Im X.K g fg)(a:jQ X body (tS X.K f))
  (hs:∀x,tY iter X.env x=pure x:=by intro _;rfl):PS X (.For tg iter body [] pos) (tS X.K (iG fi fg f)):=(aht c b hi hg a hs).weak (apK L)
def yr:kW->az->Option (List az)
 |.one,d=>aa [d]
 |.many n,.tuple ds=>if ds.length=n then aa ds else aj
 |_,_=>aj
def frB(js:051)(ao:En):En:=js.map λj=>((ao[j]?).join).map still
def gK(ds:036):En:=ds.map λd=>aa (.im d)
def jy(T:kW)(ft:FT)(fe:FE)(fs:En):List az->Ce->Option (List az×Ce)
 |[],C=>aa ([],C)
 |d::r,C=>match yr T d with
  |some ts=>match ft (gK ts++fs) C with
   |some (false,C1)=>jy T ft fe fs r C1
   |some (true,C1)=>match fe (gK ts++fs) C1 with
    |some (x,_,C2)=>match still x with
     |.im y=>match jy T ft fe fs r C2 with
      |some (ys,C3)=>aa (y::ys,C3)
      |none=>aj
     |_=>aj
    |none=>aj
   |none=>aj
  |none=>aj
def oG(js:051)(ao:En):En:=ao.mapIdx λi x=>if i∈js then x.map still else x
def gM(fi:FI)(T:kW)(ft:FT)(fe:FE)(js:051):FE:=λao C=>match fi ao C with
 |some (aN,e1,C1)=>match jy T ft fe (frB js e1) aN C1 with
  |some (ys,C2)=>if ys.length<=fG then aa (.ow (.list ys),if gJ ys then e1 else oG js e1,C2) else aj
  |none=>aj
 |none=>aj
theorem aiv:∀{a b:En},a.length=b.length->(∀(i:Nat)(x y:032),a[i]?=aa x->b[i]?=aa y->fz1 x y)->Fz a b
 |[],[],_,_=>trivial
 |x::r,y::t,hl,h=>#[h 0 x y rfl rfl,aiv 07 λi u v h1 h2=>h (i+1) u v 07 07]
 |[],_::_,hl,_=>by trivial
 |_::_,[],hl,_=>by trivial
theorem Hj(js:051)(ao:En):Fz ao (oG js ao):=aiv (by unfold oG;simp) λi x y h1 h2=>by
 unfold oG at h2;rw[List.getElem?_mapIdx,h1] at h2;have h2:=nO h2;rw[<-h2];split
 .cases x with
  |none=>exact .inl rfl
  |some x=>
   cases x with
   |ow d=>exact .inr #[d,rfl,rfl]
   |im d=>exact .inl rfl
   |ce n=>exact .inl rfl
   |sc ns=>exact .inl rfl
   |ks ns=>exact .inl rfl
   |tp=>exact .inl rfl
 .exact .inl rfl
theorem ahM{k:Nat}{x:Vl}(h:(frB js ao)[k]?=aa (aa x)):∃j:Nat,js[k]?=aa j/\(oG js ao)[j]?=aa (aa x)/\∀d,x≠.ow d:=by
 unfold frB at h;rw[jN] at h;cases hj:js[k]? with
 |none=>simp_all
 |some j=>
  rw[hj] at h;have h':((ao[j]?).join).map _=aa x:=nO h
  refine#[j,rfl,?_,?_]
  .unfold oG
   grind
  .cases hv:(ao[j]?).join with
   |none=>grind
   |some y=>
    rw[hv] at h';have e:=nO h';rw[<-e];intro d z;cases y<;>cases z
theorem Hl:∀{ao:En}{σ:St},(∀(i:Nat)(d:az),ao[i]?≠aa (aa (.ow d)))->cR ao σ=[]
 |[],σ,_=>rfl
 |_::_,[],_=>rfl
 |x::e,v::s,h=>by
  rw[cR,Hl λi d z=>h (i+1) d 07];have a:=h 0;unfold own1
  simp_all
section
variable{K:bw}{Z Θ:List aH}{ao:En}{C C2:Ce}{σ:St}{H H2:Hp}{D:aH}
abbrev uN(D:aH)(Z:List aH)(ao:En)(σ:St):List aH:=D::(Z++cR ao σ)
theorem rY{js:051}{b:St}(h:cR eB b=[]):a∈bQ (uN D Z ao σ) Θ eB b↔a=D\/a∈bQ Z Θ ao σ:=c8
theorem Ru:∀(i:Nat)(d:az),(gK ts++frB js ao)[i]?≠aa (aa (.ow d)):=λi d z=>by
 by_cases hi:i<(gK ts).length
 .rw[uZ hi] at z;unfold gK at z;simp_all
 .rw[uY c4] at z
  obtain⟨j,_,_,h⟩:=ahM z
  lia
theorem Sm.blk(S:Sm K Z Θ (oG js ao) C σ H)(h:H D=ud)(k:bL Θ H H2)(nt:NT (H2 D))(c:jJ Θ C2 H2)(r:cQ (er (bQ (uN D Z (oG js ao) σ) Θ [] []) H2) ts vs):
  Sm K (uN D Z (oG js ao) σ) Θ (gK ts++frB js ao) C2 (vs.map aa++frees js σ) H2:=by
 have p:=Hl (ao:=gK ts++frB js ao) (σ:=vs.map aa++frees js σ) Ru;have gh:=S.gh;have lv:=lg r;have f:(gK ts).length=ts.length:=by unfold gK;rw[bR]
 have A:er (bQ (uN D Z (oG js ao) σ) Θ _ _) H2=er (bQ _ Θ [] []) H2:=uD λa=>by rw[rY (js:=js) p,rY (js:=js) rfl]
 have sm:cI _ (er (bQ _ Θ [] []) H2):=nC k S.tV λb m=>by
  rcases(rY (js:=js) rfl).mp m with rfl|m
  .exact .inr h
  .exact .inl m
 refine#[?_,?_,λb m=>?_,λi x e=>?_,c]
 .rw[fW,fW,bR,lv,f];unfold frees frB;rw[bR,bR]
 .show(uN D Z _ σ++(Θ++cR _ _)).Nodup
  rw[p];refine Eh (lM.mpr #[λm=>?_,?_]) gh.2.1 qG (λb m g=>?_) (λ_ m=>nomatch m)
  .rcases gP.mp m with m|m
   .exact(S.dom D m).ne h
   .exact S.Li D (oR.mpr (.inr (.inr m))) h
  .rw[qF]
   exact#[gh.1,gh.2.2.1,λb m B g e=>by subst e;exact(S.pI g).1 m]
  .rcases cB.mp m with rfl|m
   .exact S.Li b (oR.mpr (.inr (.inl g))) h
   .rcases gP.mp m with m|m
    .exact gh.2.2.2 b m g
    .exact(S.pI m).2 g
 .rcases cB.mp m with rfl|m
  .exact nt
  .have:NT (H b)/\b∉Θ:=by
    rcases gP.mp m with m|m
    .exact#[S.dom b m,gh.2.2.2 b m]
    .exact#[S.sI b (oR.mpr (.inr (.inr m))),(S.pI m).2]
   obtain⟨⟨u,e,n⟩,y⟩:=this
   exact#[u,k.keep _ _ e y,n]
 .rw[A];by_cases hi:i<ts.length
  .rw[uZ (by rwa [f])] at e;unfold gK at e;rw[jN] at e;cases ht:ts[i]? with
   |none=>rw[ht] at e;cases e
   |some t=>
    rw[ht] at e;cases e
    obtain⟨v,o,l⟩:=yW r ht
    exact#[v,by rw[uZ (by rwa [bR,lv]),jN,o];rfl,l]
  .rw[uY c4,f] at e
   obtain⟨j,s,q,w⟩:=ahM e
   obtain⟨v,o,l⟩:=S.slot j x q
   refine#[v,?_,l.same sm λd _ z=>absurd z (w d)]
   rw[uY (by rw[bR];lia),bR,lv];unfold frees;rw[jN,s];show aa ((σ[j]?).join)=_;rw[o];rfl
end
def dU:FT:=λ_ C=>aa (aq,C)
theorem qO:pX X [] (gY X.K dU):=λaC s σ H Q I bz=>by
 refine hide λGG a=>?_
 obtain⟨Z,Θ,ao,C,b,C',S,c,q⟩:=bz
 cases(c);exact a (aqZ _ s σ H Q I (q H 009 S))
theorem yS(h:PT X c (gY X.K f)):pX X [c] (gY X.K f):=ago h
theorem au5{K:bw}{T:kW}{E H:Hp}{x:V}(h:yr T d=aa ts)(r:RZ E d x)(s:cI E H):∃vs,Ij K T x H vs/\cQ E ts vs:=by
 cases T with
 |one=>cases h;exact#[_,rfl,x,[],rfl,r,rfl]
 |many n=>
  cases d<;>first|cases h|skip
  rename_i ds;have h:(if ds.length=n then aa ds else aj)=aa ts:=h;split at h
  .rename_i hl;cases h
   obtain⟨a,vs,rfl,b,r⟩:=r
   exact#[vs,#[a,rfl,dW.of (s _ _ b),(lg r).trans hl],r]
  trivial
def xR{α:Type}(T:kW)(ft:FT)(st:En->α->Ce->Option (α×Ce))(fs:En):List az->α->Ce->Option (α×Ce)
 |[],a,C=>aa (a,C)
 |d::r,a,C=>(yr T d).bind λts=>(ft (gK ts++fs) C).bind λp=>bif p.1 then(st (gK ts++fs) a p.2).bind λq=>xR T ft st fs r q.1 q.2 else xR T ft st fs r a p.2
inductive ai5{α:Type}(Θ:List aH)(H1:Hp)(n:Nat)(Ob:α->Hp->Prop)(run:Nat->α->Ce->Prop)(i m:Nat)(H2:Hp):Prop
 |mk (a:α) (Ci:Ce) (hm:m=n-i) (hi:i<=n) (ki:bL Θ H1 H2) (ci:jJ Θ Ci H2) (ob:Ob a H2) (hc:run i a Ci):ai5 Θ H1 n Ob run i m H2
section
variable{K:bw}{α:Type}{T:kW}{ft:FT}{st:En->α->Ce->Option (α×Ce)}{js:List Nat}{Z Θ:List aH}{e1:En}{C1 C':Ce}{σ:St}{H1:Hp}{J:It}{D:aH}{o0:HO}{a0 aE:α}
theorem ZJ{c Hy:Hp}(e:H1 D=ud)(d:bL Θ H1 c):bL Θ H1 (upd c D u):=by
 refine#[λa o b f=>?_,λa b=>?_]
 .rw[di (ue b e)];exact d.keep _ _ b f
 .by_cases z:a=D
  .lia
  .rw[di z];exact d.dom a b
theorem JD(d:D∉Θ)(nt:∀vs,Hx D≠aa (.tup vs))(c:jJ Θ C1 Hx):jJ Θ C1 (upd Hx D u):=
 c.keep (λb vs a=>by
  rw[di]
  .trivial
  grind) λb mb o a=>by
  rw[di]
  .trivial
  lia
theorem X6{em:TM}{Ob:α->Hp->Prop}(t:Sm K Z Θ e1 C1 σ H1)(it:zJ (bQ Z Θ e1 σ) Θ H1 J aN)(g:H1 D=ud)(A:Ob a0 (upd H1 D o0))(B:∀a j Hy,bL Θ j Hy->Ob a j->Ob a Hy)(o:∀a j,Ob a j->NT (j D))
  (F:∀(ts:036)(a:α)(C2:Ce)(p:α×Ce)(vs:041)(h:Hp)(Q:Hp->Prop),st (gK ts++frB js e1) a C2=aa p->Sm K (uN D Z (oG js e1) σ) Θ (gK ts++frB js e1) C2 (vs.map aa++frees js σ) h->bL Θ H1 h->Ob a h->(∀l,bL Θ H1 l->jJ Θ p.2 l->Ob p.1 l->Q l)->em (vs.map aa++frees js σ) h Q)
  (c:xR T ft st (frB js e1) aN a0 C1=aa (aE,C'))(S:∀H2,bL Θ H1 H2->jJ Θ C' H2->Ob aE H2->done H2):Bj K T (gY K ft) em (frees js σ) J (upd H1 D o0) done:=by
 have O:=λm=>(t.cell.dom D m).ne g
 have n:=t.fz (Hj js e1)
 refine#[ai5 Θ H1 aN.length Ob (λi a Ci=>xR T ft st _ (aN.drop i) a Ci=aa _),#[_,#[a0,C1,rfl,lO _,bL.upd g,JD O (λ_ z=>by rw[g] at z;cases z) t.cell,A,c]],λi m H2 N=>hide λGG r=>?_]
 cases N with
 |mk a Ci hm hi ki ci ob c=>
 subst hm;have nt:=o a H2 ob;have v:cI _ (er (bQ _ Θ [] []) H2):=nC ki t.tV λb m=>by
  rcases(rY (js:=js) rfl).mp m with rfl|m
  .exact .inr g
  .exact .inl ((Hj js e1).sub b m)
 have C:∀a∈bQ _ Θ [] [],NT _:=λa m=>(n.blk g ki nt ci (show cQ _ [] [] from rfl)).sI a ((rY (js:=js) (Hl Ru)).mpr ((rY (js:=js) rfl).mp m))
 obtain⟨G,w⟩:=it i H2 _ v (ahE ki) C
 cases hd:aN[i]? with
 |none=>
  have k:=Nat.le_antisymm hi (Uv.mp hd);rw[k,alI] at c;cases(c);exact r (.inl #[w k,S H2 ki ci ob])
 |some d=>
  obtain⟨e,Y⟩:=lW.mp hd
  rw[Uw e,Y] at c
  obtain⟨go,P⟩:=G d hd
  refine r (.inr #[go,λx L y=>(hide λGG r=>?_)])
  obtain⟨E,R⟩:=P x L y
  obtain⟨ts,ht,c⟩:=dB c
  obtain⟨p,H,c⟩:=dB c
  obtain⟨vs,tv,u⟩:=au5 ht R (vN _ _)
  refine r (#[vs,tv,?_]);have k3:=ki.trans (bL.of E);have f:=B a _ _ (bL.of E) ob;have U:=n.blk g k3 (o a L f) (ci.same E) u;have lt:aN.length-(i+1)<aN.length-i:=c8
  refine#[_,Θ,_,Ci,_,_,U,H,λh s I=>?_]
  cases hp:p.1 with
  |false=>
   rw[hp] at c;exact yc #[_,lt,#[a,_,rfl,e,k3.trans s,I.cell,B a _ _ s f,c]]
  |true=>
   rw[hp] at c
   obtain⟨q,hs,c⟩:=dB c
   exact ye (F ts a _ q vs h _ hs I (k3.trans s) (B a _ _ s f) λl X W M=>#[_,lt,#[_,_,rfl,e,X,W,M,c]])
end
def ai6(fe:FE):En->List az->Ce->Option (List az×Ce):=λao bu C=>(fe ao C).bind λq=>(wF (still q.1)).bind λy=>bif decide (bu.length<fG) then aa (bu++[y],q.2.2) else aj
theorem YL:∀{aN:036}{ys bu:036}{C:Ce},jy T ft fe fs aN C=aa (ys,C')->bu.length+ys.length<=fG->xR T ft (ai6 fe) fs aN bu C=aa (bu++ys,C')
 |[],ys,bu,C,h,_=>by
  cases(h);rw[jg];rfl
 |d::r,ys,bu,C,h,hl=>by
  unfold jy at h;unfold xR;split at h
  case h_2=>cases h
  rename_i ht;rw[ht,ir];split at h
  case h_3=>cases h
  .rename_i a;rw[a];exact YL h hl
  .rename_i a;rw[a,ir];split at h
   case h_2=>cases h
   rename_i b;split at h
   case h_2=>cases h
   rename_i y e;split at h
   case h_2=>cases h
   rename_i zs f c;cases(h);rw[eZ] at hl;unfold ai6;rw[b,ir,e,f9 aK,show bu++y::zs=(bu++[y])++zs by simp];exact YL c 07
theorem YM{K:bw}{T:kW}{ft:FT}{fe:FE}:∀σ H Q,tE K (gM fi T ft fe js) σ H Q->Tz K (tI K aq fi) T (λ_=>gY K ft) (λ_=>tE K fe) js σ H Q:=by
 rintro σ H Q ⟨Z,Θ,ao,C,res,bK,C',S,hf,q⟩;unfold gM at hf;refine hide λGG l=>?_
 split at hf
 case h_2=>cases hf
 rename_i W e1 C1 h1;split at hf
 case h_2=>cases(hf)
 rename_i ys C2 h2;split at hf
 case isFalse=>cases hf
 cases(hf);refine l (#[Z,Θ,ao,C,W,e1,C1,S,h1,λJ H1 G F i it D d b=>?_]);have t:=λm=>(i.cell.dom D m).ne d
 have k:D∈bQ (uN D Z (oG js e1) σ) Θ [] []:=(rY (js:=js) rfl).mpr 038;refine X6 (a0:=[]) (Ob:=λbu g=>nG (er (bQ (uN D Z (oG js e1) σ) Θ [] []) g) g D (.list bu)) i it d #[[],fj,rfl] (λa g Hy I r=>r.same (nC I (λa m=>oR.mpr (.inr (.inl m))) λa m=>.inl m) λo h=>I.keep _ _ h t)
  (λa g r=>by obtain⟨vs,e,_⟩:=r;exact#[_,e,λ_ z=>nomatch z]) ?_ (YL h2 (by rwa [acD,V2])) λH2 s B r=>?_
 .intro ts bu C2 p vs H4 Q hs X V r4 P;refine hide λGG l=>?_
  obtain⟨w,v,hs⟩:=dB hs
  obtain⟨yd,x,hs⟩:=dB hs
  have x:=G8 x;cases hlt:decide (bu.length<fG) with
  |false=>rw[hlt] at hs;cases hs
  |true=>
  rw[hlt] at hs;cases hs;refine l (#[_,Θ,_,C2,w.1,_,_,X,v,λy j n R U=>?_])
  obtain⟨S5,M⟩:=U.xQ x
  obtain⟨N,f,A⟩:=r4.same (nC n (λa m=>oR.mpr (.inr (.inl m))) λa m=>.inl m) λo h=>n.keep _ _ h t
  have u:=by
   have:=(Fz.own (σ:=vs.map aa++frees js σ) R)
   rw[Hl Ru] at this;exact alJ.mp this
  have O:er (bQ (uN D Z (oG js e1) σ) Θ _ _) j=er (bQ _ Θ [] []) j:=uD λa=>by rw[rY (js:=js) u,rY (js:=js) rfl]
  rw[O] at M;have lt:=of_decide_eq_true hlt
  refine#[_,f,by rw[lg A,jV];unfold fG at lt;lia,P _ (ZJ (Hy:=j) d (V.trans n)) (JD t (λ_ z=>by rw[f] at z;cases z) S5.cell) #[_,fj,?_]]
  rw[ZF k];exact Gw A #[y,[],rfl,M,rfl]
 .obtain⟨N,c,L⟩:=r
  refine q _ H2 (G.trans s) ?_ ?_
  .split
   .exact F
   .exact F.trans (Hj js e1)
  .refine#[D,rfl,G.none d,?_]
   split
   .rename_i Y;have E:=i.zm d s #[_,c,λ_ z=>nomatch z] B
    exact#[E,_,c,L.gb (λa vs e=>G7 E (jB e)) Y]
   .refine#[(i.fz (Hj js e1)).zm d s #[_,c,λ_ z=>nomatch z] B,_,c,?_]
    rwa [uD (P':=bQ (D::Z) Θ _ σ) λa=>by rw[rY (js:=js) rfl];show _↔a∈D::bQ Z Θ _ σ;rw[cB]] at L
section
variable{X:Cx}{NT NF:List Str}{js:List Nat}{T:kW}{fi:FI}{ft:FT}{fe:FE}{scope:kI}{pos:Pos}
theorem qU(B:031)(a:qZ tg NT T)(c:035)(hi:PI X tg iter (tI X.K aq fi))
  (hin:∀b,pX (X.bk (NT++NF) scope b) ifs (gY X.K ft)/\PE (X.bk (NT++NF) scope b) elt (tE X.K fe))
  (hs:∀x,tY iter X.env x=pure x:=by intro _;rfl):PE X (.ListComp elt [#[tg,iter,ifs,0]] scope pos) (tE X.K (gM fi T ft fe js)):=(auY B a c hi hin hs).weak YM
theorem JF{i:Nat}(B:031)(c:qZ tg NT T)(d:035)(hi:PI X tg iter (tI X.K aq fi))
  (hin:∀b,pX (X.bk (NT++NF) scope b) ifs (gY X.K ft)/\PE (X.bk (NT++NF) scope b) elt (tE X.K fe))
  (a:p7 (.ListComp elt [#[tg,iter,ifs,0]] scope pos) (aa (.Name y pos')) spos.line X.env=pure aq)(hN:049)(f:X.N[i]?=aa y)(e:023)
  (hs:∀x,tY iter X.env x=pure x:=by intro _;rfl):PS X (.Assign [.Name y pos'] (.ListComp elt [#[tg,iter,ifs,0]] scope pos) spos) (tS X.K (cP i (gM fi T ft fe js))):=(XH B c d hi hin a hN f e hs).weak (QF YM)
end
def Hz(n:Nat):Vl->Bool
 |.ce m=>decide (m<n)
 |_=>aq
def clI(n:Nat):Ci->Bool
 |.dat _=>aq
 |.iM m=>decide (m<n)
def clC(n:Nat):Cl->Bool
 |.lst xs=>xs.all (clI n)
 |.lG au=>(au.map (·.2)).all (clI n)
 |.yp=>aq
def Mt(n:Nat)(c:Cl):Cl:=if clC n c=aq then c else .yp
def uO(n:Nat)(C:Ce):Ce:=if C.length=n then C else(C.take n).map (Mt n)
theorem agL(h:C.length=n):uO n C=C:=bZ h
theorem YQ:∀{xs:List Ci}{vs:041},xs.all (clI Θ.length)=aq->jo (Θ++Δ) H xs vs->jo Θ H xs vs
 |[],_,_,h=>h
 |x::xs,vs,c,h=>by
  obtain⟨v,r,e,q,s⟩:=h
  rw[Jh,lJ] at c
  refine#[v,r,e,?_,YQ c.2 s]
  cases x with
  |dat d=>exact q
  |iM m=>
   obtain⟨b,e1,e2⟩:=q
   exact#[b,e1,by rwa [uZ (of_decide_eq_true c.1)] at e2]
theorem rF.cut(h:clC Θ.length c=aq)(q:rF (Θ++Δ) H a c):rF Θ H a c:=by
 cases c with
 |lst xs=>obtain⟨vs,h1,h2⟩:=q;exact#[vs,h1,YQ h h2]
 |lG au=>obtain⟨vs,h1,h2⟩:=q;exact#[vs,h1,YQ h h2]
 |yp=>exact q
theorem jJ.cut(k:jJ (Θ++Δ) C H):jJ Θ (uO Θ.length C) H:=by
 have cl:=k.len;unfold uO;split
 .simp_all
 .refine#[by simp_all,λn a c e1 e2=>?_]
  have b:=(lW.mp e1).1;rw[jN,ab9,bZ b] at e2
  obtain⟨c0,d,rfl⟩:=pY.mp e2
  have q:=k.at_ n a c0 07 d;unfold Mt;split
  .rename_i h;exact q.cut h
  .exact q.nt
noncomputable def fN (k n:Nat) (body:FS):FN:=λxs C=>if xs.length=k then match body (xs.map aa++fX (n-xs.length) aj) C with
  |some (.rt r,_,C')=>if Hz C.length r then aa (r,uO C.length C') else aj
  |some (.nx,_,C')=>aa (.im .none,uO C.length C')
  |_=>aj
 else aj
section
variable{K:bw}{C:Ce}{H:Hp}{vs:List V}
theorem JG(a:xM K E Θ xs vs):vs.length=xs.length:=by
 induction a with
 |nil=>rfl
 |cons _ _ ih=>simp[*]
theorem arp(a:xM K E Θ xs vs):∀{i:Nat}{x:Vl},xs[i]?=aa x->∃v,vs[i]?=aa v/\zj K E Θ x v:=by
 induction a with
 |nil=>simp
 |cons h _ ih=>
  exact c8
theorem Sm.start(S:Sm K Z Θ [] C [] H)(a:xM K (er (bQ Z Θ [] []) H) Θ xs vs):Sm K Z Θ (xs.map aa++fX n ud) C (vs.map aa++fX n ud) H/\cR (xs.map aa++fX n ud) (vs.map aa++fX n ud)=[]:=by
 have lv:=JG a;have b:∀{i:Nat}{x:Vl},(xs.map aa++fX n ud)[i]?=aa (aa x)->∃v,vs[i]?=aa v/\zj K _ Θ x v/\i<vs.length:=λ{i x} e=>by
  by_cases hi:i<xs.length
  .rw[uZ 07,jN] at e;refine hide λGG f=>?_
   cases hx:xs[i]? with
   |none=>grind
   |some y=>
    rw[hx] at e;cases e
    obtain⟨v,e1,h⟩:=arp a hx
    exact f (#[v,e1,h,c4])
  exact c8
 have c:cR _ (vs.map aa++fX n ud)=[]:=Hl λi d e=>by
  obtain⟨v,_,h,_⟩:=b e
  exact h
 refine#[#[by simp_all,?_,S.dom,λi x e=>?_,S.cell],c]
 .show(Z++(Θ++cR _ _)).Nodup
  rw[c];exact S.nd
 .obtain⟨v,e1,h,hl⟩:=b e
  refine#[v,by grind,?_]
  have g:er (bQ Z Θ (xs.map aa++fX n ud) (vs.map aa++fX n ud)) H=er (bQ Z Θ [] []) H:=by
   show er (Z++(Θ++cR _ _)) H=_;rw[c];rfl
  rw[g];cases x with
  |im d=>exact h
  |ow d=>trivial
  |ce m=>exact h
  |sc ns=>exact h
  |ks ns=>exact h
  |tp=>trivial
theorem Sm.cut(S:Sm K Z (Θ++Δ) [] C [] H):Sm K Z Θ [] (uO Θ.length C) [] H:=by
 have gh:=S.gh
 exact#[rfl,Eh gh.1 (qF.mp gh.2.1).1 qG (λb m a=>gh.2.2.2 b m (pB _ a)) (λk m=>nomatch m),S.dom,λi x e=>by simp_all,S.cell.cut]
theorem RV.cut(t:jT Θ A' H)(ok:Hz Θ.length r=aq)(f:O=[])(h:RV K Z A' C' O H H' r v):SJ K Z Θ (uO Θ.length C') H H' r v:=by
 refine hide λGG b=>?_
 obtain⟨Δ,rfl,g⟩:=t.ex
 have sm:∀{Y:List _},cI (er (bQ Y (Θ++Δ) [] []) H') (er (bQ Y Θ [] []) H'):=λ{Y}=>vG λa m=>c8
 cases r with
 |im d=>exact b (#[h.1.cut,h.2.same sm])
 |ow d=>
  obtain⟨a,e,m,S,r⟩:=h
  refine b (#[a,e,?_,S.cut,r.same sm λk h=>h]);grind
 |ce n=>
  obtain⟨S,a,e,e2⟩:=h
  refine b (#[S.cut,a,e,?_])
  rwa [uZ (of_decide_eq_true ok)] at e2
 |sc ns=>
  obtain⟨S,a,e,q⟩:=h
  exact b (#[S.cut,a,e,sm.seq q])
 |ks ns=>
  obtain⟨S,a,e,q⟩:=h
  exact b (#[S.cut,a,e,sm.HS q])
 |tp=>
  obtain⟨t,a,vs,us,e,c,m,S,r,p,q⟩:=h
  refine b (#[t,a,vs,us,e,c,?_,S.cut,r.same sm λk h=>h,p.same sm,q.same sm])
  grind
end
section
variable{w:cW}{K:bw}{base:cF}
theorem iZ{st:dH}{f:aH}{fd:um}{k:Nat}{body:FS}{u y:Nat}(F:fM K x qual st f fd)(S:gw N ps (cN st))
  (z:∀(c:aL)(A:fB)(outer:List Env)(s:bf)(H:Hp)(E:XK),jZ k (A.deeper (envOfC qual (cN st) s.heap.objs.size f c))->jQ (Bh eY P w K mg base N qual (cN st) f c A outer s H E).Ih (yR st) (tS K body))
  (e1:u=ps.length:=by rfl)(e2:y=N.length:=by rfl):eV P w K mg base eY (k+1) f fd ps (spT K (fN u y body)):=by
 subst e1 e2;refine F.ok S (λvs H Q E h=>?_) (λc A outer s H vs Q E B h=>#[_,z _ A _ s H E B,?_])
 .obtain⟨Z,Θ,C,xs,r,C',o,a,b,_⟩:=h
  unfold fN at b;split at b
  .rename_i hl;rw[JG a,hl]
  lia
 .obtain⟨Z,Θ,C,xs,r,C',o,a,b,q⟩:=h
  unfold fN at b;split at b
  case isFalse=>lia
  have lv:=JG a
  obtain⟨m,j⟩:=o.start (n:=N.length-vs.length) a
  rw[lv] at m j;have hs:start N vs=vs.map aa++fX (N.length-xs.length) aj:=by unfold start;rw[lv]
  rw[hs];have cl:=o.cell.len;refine hide λGG p=>?_
  split at b
  .rename_i l C1 d;split at b
   .rename_i g;cases(b);refine p (#[Z,Θ,_,C,_,l,C1,m,d,λA' v H' R=>?_]);have i:=R.kp;rw[j,jg] at i;rw[cl] at q g;exact q v H' i (R.ok.cut R.th g j)
   trivial
  .rename_i l C1 d;cases(b);refine p (#[Z,Θ,_,C,_,l,C1,m,d,λA' F' H' R=>?_]);have i:=R.kp;rw[j,jg] at i
   obtain⟨Δ,e,D⟩:=R.th.ex
   have t:=R.sm.none;rw[e] at t;rw[cl] at q;exact q _ H' i #[t.cut,rfl]
  trivial
theorem atL(c:cA K H a 050)(h:f [.sc ns] []=aa (.im 037,C')):spT K f [.ref a] H (λv _=>v=.bl aq) E:=by
 refine#[[],[],[],[.sc ns],_,C',#[rfl,qG,(λk m=>nomatch m),λi x e=>by grind,#[rfl,λn b d e k=>by grind]],.cons #[a,rfl,?_] .nil,h,λv H' k R=>R.2]
 trivial
end
def Ba(i:Nat):FE:=λao C=>match ao[i]? with
 |some (some (.sc ns))=>aa (.im (.int ns.length),ao,C)
 |_=>aj
def Ln(i:Nat)(f:FB):FE:=λao C=>match ao[i]? with
 |some (some (.sc ns))=>match f ao C with
  |some (.int k,_,C1)=>match eX ns k with
   |some z=>aa (.im (.int z),ao,C1)
   |none=>aj
  |_=>aj
 |_=>aj
section
variable{X:Cx}{p pos:Pos}
theorem agM(k:PE X o (lA i))(hg:Gl X "len")(h:X.mg "len"=aj)(d:uc "len"=aa (.builtin "len"))
  (he:bV [o] X.env=(010 o)::bV [] X.env:=by rfl)(c:(jx pos (bV [] X.env)).any (·.1)=aR:=by rfl):PE X (.Call (.Name "len" p) [o] [] pos) (tE X.K (Ba i)):=
 (Jz adw hg h d (oU k rZ he) bh (rfl) he c).weak λσ H Q bz=>by
  refine hide λGG e=>?_
  obtain⟨Z,Θ,ao,C,r,bK,C',S,b,q⟩:=bz
  unfold Ba at b;split at b
  .rename_i g;cases(b)
   obtain⟨v,j,a,rfl,f⟩:=S.slot i _ g
   have:=q _ H 009 024 #[S,rfl];exact e (#[_,j,a,_,rfl,.inl ((vN _ _).seq f),by simp_all])
  trivial
theorem atM(u:PE X o (lA i))(s:PE X k (eN X.K f))(hs:JX k):PE X (.Subscript o k pos) (tE X.K (Ln i f)):=(aai Yz u s hs).weak λσ H Q bz=>by
 refine hide λGG n=>?_
 obtain⟨Z,Θ,ao,C,r,bK,C',S,b,q⟩:=bz
 unfold Ln at b;split at b
 case h_2=>lia
 rename_i l;split at b
 case h_2=>lia
 rename_i z e1 C1 h1;split at b
 case h_2=>lia
 rename_i p;cases(b)
 obtain⟨v,m,a,rfl,y⟩:=S.slot i _ l
 refine n (#[_,m,Z,Θ,_,C,_,e1,C',S,h1,λw H1 h A t b1=>?_]);have g:=S.go h t.cell
 obtain⟨v2,c,x,e,d⟩:=g.slot i _ l
 rw[m] at c;cases c;cases e
 refine#[a,_,z,_,rfl,b1,(vN _ _).seq d,?_,q _ H1 h 024 #[g,rfl]]
 unfold eX at p⊢;rw[bR];cases hj:qt _ z with
 |none=>simp_all
 |some j=>
  simp_all
end
section
variable{K:bw}{X:Cx}
theorem pN(h:RQ Z Θ ao σ H [d] vs):∃v,vs=[v]/\gW Z Θ ao σ H d v:=by
 cases h with
 |cons a b=>cases b;lia
theorem aiw(h:RQ Z Θ ao σ H [d,e] vs):∃v w,vs=[v,w]/\gW Z Θ ao σ H d v/\gW Z Θ ao σ H e w:=by
 cases h with
 |cons a b=>
  cases b with
  |cons b c=>cases c;lia
def Lp:az->Option Nat
 |.list ds=>aa ds.length
 |.tuple ds=>aa ds.length
 |.str z=>if z.length<=fG then aa z.length else aj
 |.dict au=>if(cO fO au).isSome then aa au.length else aj
 |_=>aj
def jY:List az->Option Vl
 |[d]=>(Lp d).map λn=>.im (.int n)
 |_=>aj
def aix(K:bw):List V->Hp->VK->Prop:=λxs H Q=>((∃p ys,xs=[.ref p]/\(cA K H p ys\/dW K H p ys)/\Q (.int ys.length) H)\/∃z,xs=[.str z]/\z.length<=cG/\Q (.int z.length) H)\/∃a au,xs=[V.ref a]/\uT H a au/\Q (.int au.length) H
theorem nP:jh X (.builtin "len") (aix X.K):=(adw.or amw).or an7
theorem nY:mD K (aix K) jY:=by
 intro Z Θ ao C σ H xs ds res S b e Q q;unfold jY at e;refine hide λGG f=>?_
 split at e
 case h_2=>cases e
 rename_i d
 obtain⟨v,rfl,g⟩:=pN b
 cases hn:Lp d with
 |none=>simp_all
 |some n=>
  rw[hn] at e;cases e;have h:=q _ H 009 030;cases d<;>first|cases hn|skip
  .rename_i z;simp only[Lp] at hn;split at hn
   .rename_i hl;cases hn;cases g.str;exact f (.inl (.inr #[z,rfl,sY hl,h]))
   lia
  .obtain⟨a,vs,rfl,c,r⟩:=g.lst
   exact f (.inl (.inl #[a,vs,rfl,.inl (cA.of c),by rwa [lg r]]))
  .obtain⟨a,vs,rfl,c,r⟩:=g.tup
   exact f (.inl (.inl #[a,vs,rfl,.inr (dW.of c),by rwa [lg r]]))
  .simp only[Lp] at hn;split at hn
   .rename_i hs;cases hn
    obtain⟨a,vs,rfl,j,r⟩:=g.dct
    rcases j with⟨ks,h1,c⟩|⟨ks,⟨ne,h2⟩,c⟩
    .refine f (.inr #[a,_,rfl,Il c,?_])
     rwa [Jb,vA h1,Dd r,Nat.min_self]
    .obtain⟨i,h1⟩:=wN.mp hs
     exact f (absurd (xu h1 h2) ne)
   lia
def KR:List az->Option Vl
 |[.int i]=>aa (.im (.int (if i<0 then -i else i)))
 |_=>aj
theorem ahN:mD K (λxs H Q=>∃i,xs=[.int i]/\Q (.int (if i<0 then -i else i)) H) KR:=by
 intro Z Θ ao C σ H xs ds res S b e Q q;unfold KR at e;split at e
 case h_2=>cases e
 cases e
 obtain⟨v,rfl,a⟩:=pN b
 cases a.int
 exact#[_,rfl,q _ H 009 030]
def vQ:List az->Option Vl
 |[.int i]=>aa (00 i)
 |[.bool k]=>aa (.im (.int (if k then 1 else 0)))
 |_=>aj
theorem Rv:mD K (λxs H Q=>(∃i,xs=[.int i]/\Q (.int i) H)\/∃k,xs=[.bl k]/\Q (.int (if k then 1 else 0)) H) vQ:=by
 intro Z Θ ao C σ H xs ds res S b e Q q;unfold vQ at e;refine hide λGG c=>?_
 split at e
 case h_3=>cases e
 .cases e
  obtain⟨v,rfl,a⟩:=pN b
  cases a.int;exact c (.inl #[_,rfl,q _ H 009 030])
 .cases e
  obtain⟨v,rfl,a⟩:=pN b
  cases a
  exact c (.inr #[_,rfl,q _ H 009 030])
def xO:List az->Option Vl
 |[.int i,.int j]=>aa (.im (.int (if j>i then j else i)))
 |_=>aj
def sZ:List az->Option Vl
 |[.int i,.int j]=>aa (.im (.int (if j<i then j else i)))
 |_=>aj
theorem YS:mD K (λxs H Q=>∃i j,xs=[.int i,.int j]/\Q (.int (if j>i then j else i)) H) xO:=by
 intro Z Θ ao C σ H xs ds res S b e Q q;unfold xO at e;split at e
 case h_2=>cases e
 cases e
 obtain⟨v,w,rfl,b1,b2⟩:=aiw b
 cases b1.int;cases b2.int
 exact#[_,_,rfl,q _ H 009 030]
theorem Gz:mD K (λxs H Q=>∃i j,xs=[.int i,.int j]/\Q (.int (if j<i then j else i)) H) sZ:=by
 intro Z Θ ao C σ H xs ds res S b e Q q;unfold sZ at e;split at e
 case h_2=>cases e
 cases e
 obtain⟨v,w,rfl,b1,b2⟩:=aiw b
 cases b1.int;cases b2.int
 exact#[_,_,rfl,q _ H 009 030]
def boolsOf:List az->Option (List Bool)
 |[]=>aa []
 |.bool b::r=>match boolsOf r with
  |some t=>aa (b::t)
  |none=>aj
 |_=>aj
theorem aex:∀{ds:036}{ns:List Bool}{vs:041},boolsOf ds=aa ns->cQ E ds vs->vs=ns.map V.bl
 |[],ns,vs,h,r=>by cases h;exact r
 |.bool i::ds,ns,vs,h,r=>by
  unfold boolsOf at h;split at h
  .rename_i ht;cases h
   obtain⟨u,w,rfl,q,s⟩:=r
   rw[aex ht s];have:=q;rw[this];rfl
  trivial
 |.none::_,_,_,h,_=>by cases h
 |.int _::_,_,_,h,_=>by cases h
 |.str _::_,_,_,h,_=>by cases h
 |.list _::_,_,_,h,_=>by cases h
 |.tuple _::_,_,_,h,_=>by cases h
 |.dict _::_,_,_,h,_=>by cases h
def zp:List az->Option Vl
 |[.list ds]=>(boolsOf ds).map λbs=>.im (.bool (bs.all id))
 |_=>aj
theorem ZK:mD K (λxs H Q=>∃(p:aH)(bs:List Bool),xs=[.ref p]/\cA K H p (bs.map V.bl)/\Q (.bl (bs.all id)) H) zp:=by
 intro Z Θ ao C σ H xs ds res S b e Q q;unfold zp at e;refine hide λGG d=>?_
 split at e
 case h_2=>cases e
 rename_i ds;cases hb:boolsOf ds with
 |none=>grind
 |some bs=>
  rw[hb] at e;cases e
  obtain⟨v,rfl,f⟩:=pN b
  obtain⟨a,vs,rfl,c,r⟩:=f.lst
  rw[aex hb r] at c;exact d (#[a,bs,rfl,cA.of c,q _ H 009 030])
def ZL:List az->Option Vl
 |[d]=>if iK d&&d.showable&&decide (d.depth<=60)&&decide (d.shown.length<=fG) then aa (.im (.str d.shown)) else aj
 |_=>aj
def J7:List az->Option Vl
 |[.list ds]=>aa (.im (.tuple ds))
 |[.tuple ds]=>aa (.im (.tuple ds))
 |_=>aj
theorem afq:mD K (λxs H Q=>∃p ys,xs=[.ref p]/\((cA K H p ys/\∀l,H l=aj->Q (.ref l) (upd H l (.tup ys)))\/(dW K H p ys/\Q (.ref p) H))) J7:=by
 intro Z Θ ao C σ H xs ds res S b e Q q;unfold J7 at e;refine hide λGG f=>?_
 split at e
 case h_3=>cases e
 .cases e
  obtain⟨v,rfl,c⟩:=pN b
  obtain⟨a,vs,rfl,d,r⟩:=c.lst
  exact f (#[a,vs,rfl,.inl #[cA.of d,λl hl=>q _ _ (bL.upd hl) (Q6 S r hl)]])
 .cases e
  obtain⟨v,rfl,c⟩:=pN b
  obtain⟨a,vs,rfl,d,r⟩:=c.tup
  exact f (#[a,vs,rfl,.inr #[dW.of d,q _ H 009 #[S,c]]])
end
def wg(n:String):az->Option Bool
 |.none=>aa aR
 |.bool _=>aa (n=="bool"||n=="int")
 |.int _=>aa (n=="int")
 |.str _=>aa (n=="str")
 |.list _=>aa (n=="list")
 |.tuple _=>aa (n=="tuple")
 |.dict _=>aj
def Lq(n:String):Bool:=n=="bool"||n=="int"||n=="str"||n=="list"||n=="tuple"
theorem Ko{K:bw}{b:Bool}(a:Lq n=aq)(e:wg n d=aa b):z9 K (TV d) (.type n)=aa b:=by
 unfold Lq at a;simp_all;rcases a with(((rfl|rfl)|rfl)|rfl)|rfl<;>cases d<;>cases e<;>rfl
theorem afr(e:wg n d=aa b):∀au,d≠.dict au:=λau z=>by subst z;cases e
theorem gW.ty{K:bw}{ao:En}{σ:St}{H:Hp}{v:V}(h:gW Z Θ ao σ H d v)(hd:∀au,d≠.dict au):nF K H v (TV d):=by
 cases d with
 |none=>exact RX.ty h
 |bool b=>exact RX.ty h
 |int i=>exact RX.ty h
 |str z=>exact RX.ty h
 |list ds=>
  obtain⟨a,vs,rfl,c,r⟩:=h.lst
  exact .lst c
 |tuple ds=>
  obtain⟨a,vs,rfl,c,r⟩:=h.tup
  exact .tup c
 |dict au=>lia
def mY(n:String)(f:FB):FE:=λao C=>match f ao C with
 |some (d,_,C1)=>match wg n d with
  |some b=>aa (.im (.bool b),ao,C1)
  |none=>aj
 |none=>aj
def Dt(m n:String)(f:FB):FE:=λao C=>match f ao C with
 |some (d,_,C1)=>match wg m d,wg n d with
  |some p,some q=>aa (.im (.bool (p||q)),ao,C1)
  |_,_=>aj
 |none=>aj
section
variable{X:Cx}{p pos tp:Pos}
theorem sr(m:Lq n=aq)(l:PE X a (eN X.K f))(ht:PE X t (tC (.ty n)))(hg:Gl X "isinstance")(o:X.mg "isinstance"=aj)(i:uc "isinstance"=aa (.builtin "isinstance"))
  (he:bV [a,t] X.env=(010 a)::bV [t] X.env:=by rfl)(e:bV [t] X.env=(010 t)::bV [] X.env:=by rfl)(g:(jx pos (bV [t] X.env)).any (·.1)=aR:=by rfl):
  PE X (.Call (.Name "isinstance" p) [a,t] [] pos) (tE X.K (mY n f)):=
 (Jz adM hg o i (oU l (oU ht rZ e) he) bh (rfl) he g).weak λσ H Q bz=>by
  refine hide λGG j=>?_
  obtain⟨Z,Θ,ao,C,r,bK,C',S,c,q⟩:=bz
  unfold mY at c;split at c
  case h_2=>trivial
  rename_i d e1 C1 h1;split at c
  case h_2=>trivial
  rename_i b h;cases(c);refine j (#[Z,Θ,_,C,d,e1,C',S,h1,λv H1 k f s b1=>#[v,n,_,b,rfl,b1.ty (afr h),Ko m h,q _ H1 k 024 #[S.go k s.cell,rfl]]])
theorem arq(j:Lq m=aq)(F:Lq n=aq)(B:PE X a (eN X.K f))(ht:PE X t (tC (.ty m)))(s:PE X t' (tC (.ty n)))(hg:Gl X "isinstance")(G:X.mg "isinstance"=aj)(y:uc "isinstance"=aa (.builtin "isinstance"))
  (he:bV [a,.Tuple [t,t'] x1 tp] X.env=(010 a)::bV [.Tuple [t,t'] x1 tp] X.env:=by rfl)(g:bV [.Tuple [t,t'] x1 tp] X.env=(010 (.Tuple [t,t'] x1 tp))::bV [] X.env:=by rfl)
  (E:bV [t,t'] X.env=(010 t)::bV [t'] X.env:=by rfl)(A:bV [t'] X.env=(010 t')::bV [] X.env:=by rfl)
  (h:(jx pos (bV [.Tuple [t,t'] x1 tp] X.env)).any (·.1)=aR:=by rfl):
  PE X (.Call (.Name "isinstance" p) [a,.Tuple [t,t'] x1 tp] [] pos) (tE X.K (Dt m n f)):=
 (Jz amy hg G y (oU B (oU (Zw (oU ht (oU s rZ A) E)) rZ g) he) bh (rfl) he h).weak λσ H Q bz=>by
  refine hide λGG z=>?_
  obtain⟨Z,Θ,ao,C,r,bK,C',S,e,q⟩:=bz
  unfold Dt at e;split at e
  case h_2=>lia
  rename_i d e1 C1 h1;split at e
  case h_2=>lia
  rename_i b I u l;cases(e);refine z (#[Z,Θ,_,C,d,e1,C',S,h1,λv H1 k f x b1=>#[by show 2<=cG;decide,λc w=>?_]]);have i:bL Θ H1 (upd H1 c (.tup [.ty m,.ty n])):=bL.upd w;have D:=x.zf (cI.upd (o:=.tup [.ty m,.ty n]) w);have b2:=b1.go x i 024
  refine#[v,c,m,n,_,b,I,rfl,fj,b2.ty (afr u),Ko j u,Ko F l,q _ _ (k.trans i) 024 #[S.go (k.trans i) D.cell,rfl]]
end
def ins{α:Type}(lt:α->α->Bool)(x:α):List α->List α
 |[]=>[x]
 |y::r=>if lt y x then y::ins lt x r else x::y::r
def jL{α:Type}(lt:α->α->Bool):List α->List α
 |[]=>[]
 |x::r=>ins lt x (jL lt r)
section
variable{α:Type}{lt:α->α->Bool}
theorem X7(x:α):∀l:List α,(ins lt x l).Perm (x::l)
 |[]=>Je _
 |y::r=>by
  unfold ins;split
  .exact((X7 x r).cons y).trans (acY x y r)
  rfl
theorem qJ:∀l:List α,(jL lt l).Perm l
 |[]=>Je _
 |x::r=>(X7 x _).trans ((qJ r).cons x)
structure HB(lt:α->α->Bool)(P:α->Prop):Prop where
 aiW:∀a b,P a->P b->lt a b=aq->lt b a=aR
 neg:∀a b c,P a->P b->P c->lt a c=aq->lt a b=aq\/lt b c=aq
 tot:∀a b,P a->P b->lt a b=aR->lt b a=aR->a=b
theorem ahO(O:HB lt P)(c:P x):∀{l:List α},(∀y∈l,P y)->l.Pairwise (λa b=>lt b a=aR)->(ins lt x l).Pairwise (λa b=>lt b a=aR)
 |[],_,_=>rM.mpr #[λk m=>(nomatch m),BW]
 |y::r,hp,h=>by
  rw[rM] at h;have d:=hp y fV;unfold ins;split
  .rename_i hl;rw[rM]
   refine#[λz m=>?_,ahO O c (λz m=>hp z (fU _ m)) h.2]
   rcases cB.mp ((X7 x r).mem_iff.mp m) with rfl|m
   .exact O.aiW _ _ d c hl
   simp_all
  .rw[rM,rM]
   refine#[λz m=>?_,h.1,h.2]
   rcases cB.mp m with rfl|m
   .lia
   .have e:=hp z (fU _ m);cases hz:lt z x with
    |false=>rfl
    |true=>
     rcases O.neg z y x e d c hz with h1|h1
     .simp_all
     lia
theorem Gp(O:HB lt P):∀{l:List α},(∀y∈l,P y)->(jL lt l).Pairwise (λa b=>lt b a=aR)
 |[],_=>BW
 |x::r,hp=>ahO O (hp x fV) (λy m=>hp y (fU _ ((qJ r).mem_iff.mp m))) (Gp O λy m=>hp y (fU _ m))
theorem ahP(O:HB lt P):∀{l m:List α},(∀y∈l,P y)->l.Perm m->l.Pairwise (λa b=>lt b a=aR)->m.Pairwise (λa b=>lt b a=aR)->l=m
 |[],m,_,p,_,_=>(List.nil_perm.mp p).symm
 |x::r,[],_,p,_,_=>absurd p.length_eq cg
 |x::r,y::t,hp,p,h1,h2=>by
  have f:=λz m=>hp z (p.mem_iff.mpr m)
  rw[rM] at h1 h2;have e:x=y:=by
   have c:=p.mem_iff.mp fV;have d:=p.mem_iff.mpr fV;rcases cB.mp c with e|c
   .exact e
   .rcases cB.mp d with e|d
    .lia
    .exact O.tot x y (hp x fV) (f y fV) (h2.1 x c) (h1.1 y d)
  subst e;rw[ahP O (λz m=>hp z (fU _ m)) ((List.perm_cons x).mp p) h1.2 h2.2]
theorem YT(O:HB lt P)(c:∀y∈l,P y)(p:m.Perm l)(h:m.Pairwise (λa b=>lt b a=aR)):m=jL lt l:=
 ahP O (λy d=>c y (p.mem_iff.mp d)) (p.trans (qJ l).symm) h (Gp O c)
end
def ltI(i j:Int):Bool:=decide (i<j)
theorem SX:HB ltI (λ_=>True):=#[λa b k k h=>by unfold ltI at *;grind,λa b c k k k h=>by unfold ltI at *;grind,λa b k k h1 h2=>by unfold ltI at *;grind]
theorem S7:HB strLt (λ_=>True):=by
 refine#[λa b k k h=>?_,λa b c k k k h=>?_,λa b k k h1 h2=>?_]
 .exact aq4 (a:=.inr a) (b:=.inr b) h
 .exact atp (a:=.inr a) (b:=.inr b) (c:=.inr c) rfl rfl h
 .exact Sum.inr.inj (atq rfl h1 h2)
def strsOf:List az->Option (List Str)
 |[]=>aa []
 |.str i::r=>match strsOf r with
  |some t=>aa (i::t)
  |none=>aj
 |_=>aj
theorem X8:∀{ds:036}{ns:014}{vs:041},strsOf ds=aa ns->cQ E ds vs->vs=ns.map V.str
 |[],ns,vs,h,r=>by cases h;exact r
 |.str i::ds,ns,vs,h,r=>by
  unfold strsOf at h;split at h
  .rename_i ht;cases h
   obtain⟨u,w,rfl,q,s⟩:=r
   rw[X8 ht s];have:=q;rw[this];rfl
  trivial
 |.none::_,_,_,h,_=>by cases h
 |.bool _::_,_,_,h,_=>by cases h
 |.int _::_,_,_,h,_=>by cases h
 |.list _::_,_,_,h,_=>by cases h
 |.tuple _::_,_,_,h,_=>by cases h
 |.dict _::_,_,_,h,_=>by cases h
def zK:az->Option (List Bool)
 |.tuple xs=>(keysOf xs).map λks=>ks.map cL
 |_=>aj
def m5:Key->az
 |.inl i=>.int i
 |.inr x=>.str x
def Bb:az->List Key
 |.tuple xs=>(keysOf xs).getD []
 |_=>[]
def yg(ds:036):List az:=(vY (ds.map Bb)).map λk=>.tuple (k.map m5)
def KY(ds:036):Option (List az):=if ds.length<64 then match intsOf ds with
  |some ns=>aa ((jL ltI ns).map .int)
  |none=>match strsOf ds with
   |some zs=>aa ((jL strLt zs).map .str)
   |none=>match ds with
    |[]=>aa []
    |d::_=>match zK d with
     |some (b::sh)=>if(ds.all λe=>decide (zK e=aa (b::sh))) then aa (yg ds) else aj
     |_=>aj
 else aj
def QJ:List az->Option Vl
 |[.list ds]=>(KY ds).map λl=>.ow (.list l)
 |_=>aj
def ZM(K:bw):List V->Hp->VK->Prop:=λxs H Q=>((∃(p:aH)(ns:028),xs=[.ref p]/\cA K H p (ns.map V.int)/\ns.length<64/\∀(l:aH)(ns':028),H l=aj->ns'.Perm ns->ns'.Pairwise (·<=·)->Q (.ref l) (upd H l (.lst (ns'.map V.int))))\/
 ∃(p:aH)(ns:List Str),xs=[.ref p]/\cA K H p (ns.map V.str)/\ns.length<64/\∀(l:aH)(ns':List Str),H l=aj->ns'.Perm ns->sortedS ns'=aq->Q (.ref l) (upd H l (.lst (ns'.map V.str))))\/
 ∃(p:aH)(aY:056)(b:Bool)(sh:List Bool),xs=[.ref p]/\cA K H p (aY.map λr=>V.ref r.1)/\aY.length<64/\(∀r∈aY,H r.1=aa (.tup (r.2.map kV))/\r.2.map cL=b::sh)/\∀(l:aH)(rows':056),H l=aj->rows'.Perm aY->rows'.map (·.2)=vY 026->Q (.ref l) (upd H l (.lst (rows'.map λr=>V.ref r.1)))
theorem anw:jh X (.builtin "sorted") (ZM X.K):=(alF.or alG).or alj
theorem sortI(p:ns'.Perm ns)(h:ns'.Pairwise (·<=·)):ns'=jL ltI ns:=YT SX (λk k=>trivial) p (h.imp λ{a b} hab=>by unfold ltI;lia)
theorem ahQ:∀{x:Str}{r:014},risingS x r=aq->(x::r).Pairwise (λa b=>strLt b a=aR)
 |x,[],_=>rM.mpr #[λk m=>(nomatch m),BW]
 |x,y::r,h=>by
  unfold risingS at h;rw[lJ,alr] at h;have c:=ahQ h.2;have d:strLt y x=aR:=by
   have:=h.1;unfold strLt
   rwa [lt_meets]
  rw[rM]
  refine#[λz m=>?_,c]
  rcases cB.mp m with rfl|m
  .omega
  .cases hz:strLt z x with
   |false=>rfl
   |true=>
    rcases S7.neg z y x trivial trivial trivial hz with h1|h1
    .simp_all
    lia
theorem ZP(p:ns'.Perm ns)(h:sortedS ns'=aq):ns'=jL strLt ns:=YT S7 (λk k=>trivial) p (by
 cases ns' with
 |nil=>simp
 |cons x r=>exact ahQ h)
theorem QK:∀{xs:036}{ks:List Key},keysOf xs=aa ks->xs=ks.map m5
 |[],ks,h=>by cases h;rfl
 |x::xs,ks,h=>by
  unfold keysOf at h;split at h
  .rename_i k t h1 h2;cases h;rw[QK h2];have:x=m5 k:=by
    cases x<;>first|(cases h1;rfl)|trivial
   simp[*]
  trivial
theorem JH:∀ks:List Key,keysOf (ks.map m5)=aa ks
 |[]=>rfl
 |k::ks=>by
  show(match fO _,keysOf _ with|some k,some t=>aa _|_,_=>aj)=_
  rw[JH ks];cases k<;>rfl
theorem aop{aY rows':056}(e:ds=aY.map (λr=>.tuple (r.2.map m5)))(h:rows'.map (·.2)=vY 026):(rows'.map λr=>vh (r.2.map m5))=yg ds:=by
 have e1:ds.map Bb=aY.map (·.2):=by
  rw[e,dJ];refine wR λr k=>?_
  show(keysOf _).getD []=r.2
  rw[JH];rfl
 unfold yg;rw[e1,<-h,dJ];rfl
theorem aoq(h:∀d∈ds,(zK d).isSome=aq):(yg ds).Perm ds:=by
 have:=(aof (ds.map Bb)).map λk=>vh (k.map m5)
 refine this.trans (alT ?_);rw[dJ]
 refine(wR λd a=>?_).trans (Wi ds)
 have hs:=h d a;cases d with
 |tuple xs=>
  show vh (((keysOf xs).getD []).map _)=.tuple xs;cases hk:keysOf xs with
  |none=>
   have hs:((keysOf xs).map _).isSome=aq:=hs;simp_all
  |some ks=>rw[QK hk];rfl
 |_=>trivial
theorem Yb:∀{ds:036}{vs:041},(∀d∈ds,zK d=aa sh)->cQ E ds vs->∃aY:List Row,vs=aY.map (λr=>V.ref r.1)/\ds=aY.map (λr=>.tuple (r.2.map m5))/\∀r∈aY,E r.1=aa (.tup (r.2.map kV))/\r.2.map cL=sh
 |[],vs,_,r=>#[[],r,rfl,λk m=>(nomatch m)]
 |d::ds,vs,h,r=>by
  obtain⟨u,w,rfl,q,s⟩:=r
  obtain⟨aY,e1,e2,g⟩:=Yb (λd m=>h d (fU _ m)) s
  have b:=h d fV;cases d<;>first|trivial|skip
  rename_i xs;have b:(keysOf xs).map _=aa sh:=b;cases hk:keysOf xs with
  |none=>simp_all
  |some ks=>
   obtain⟨a,f,rfl,e,c⟩:=q
   rw[Ae hk c] at e
   refine#[(a,ks)::aY,by simp_all,by rw[e2,QK hk];rfl,λr m=>?_]
   grind
theorem JK:∀{aY:056},(∀r∈aY,E r.1=aa (.tup (r.2.map kV)))->cQ E (aY.map λr=>.tuple (r.2.map m5)) (aY.map λr=>V.ref r.1)
 |[],_=>rfl
 |r::aY,h=>by
  refine#[_,_,rfl,#[_,_,rfl,h r fV,?_],JK λr m=>h r (fU _ m)]
  generalize r.2=ks;induction ks with
  |nil=>rfl
  |cons k ks ih=>exact#[_,_,rfl,by cases k<;>rfl,ih]
theorem afs:∀{ds:036}{ns:028},intsOf ds=aa ns->ds=ns.map .int
 |[],ns,h=>by cases h;rfl
 |.int i::ds,ns,h=>by
  unfold intsOf at h;split at h
  .rename_i ht;cases h;rw[afs ht];rfl
  lia
 |.none::_,_,h=>by cases h
 |.bool _::_,_,h=>by cases h
 |.str _::_,_,h=>by cases h
 |.list _::_,_,h=>by cases h
 |.tuple _::_,_,h=>by cases h
 |.dict _::_,_,h=>by cases h
theorem Yc:∀{ds:036}{ns:014},strsOf ds=aa ns->ds=ns.map .str
 |[],ns,h=>by cases h;rfl
 |.str i::ds,ns,h=>by
  unfold strsOf at h;split at h
  .rename_i ht;cases h;rw[Yc ht];rfl
  lia
 |.none::_,_,h=>by cases h
 |.bool _::_,_,h=>by cases h
 |.int _::_,_,h=>by cases h
 |.list _::_,_,h=>by cases h
 |.tuple _::_,_,h=>by cases h
 |.dict _::_,_,h=>by cases h
theorem aor{K:bw}:mD K (ZM K) QJ:=by
 intro Z Θ ao C σ H xs s res S b e Q q;unfold QJ at e;refine hide λGG j=>?_
 split at e
 case h_2=>cases e
 rename_i ds;cases hs:KY ds with
 |none=>rw[hs] at e;cases e
 |some l=>
  rw[hs] at e;cases e
  obtain⟨v,rfl,w⟩:=pN b
  obtain⟨a,vs,rfl,n,r⟩:=w.lst
  unfold KY at hs;split at hs
  case isFalse=>cases hs
  rename_i hl;split at hs
  .rename_i ns c;cases hs;have o:=QG c r;subst o;refine j (.inl (.inl #[a,ns,rfl,cA.of n,by rwa [afs c,bR] at hl,λl ns' f p h=>?_]));rw[sortI p h];exact q _ _ (bL.upd f) (qN S (afj _) f)
  .split at hs
   .rename_i ns c;cases hs;have o:=X8 c r;subst o;refine j (.inl (.inr #[a,ns,rfl,cA.of n,by rwa [Yc c,bR] at hl,λl ns' f p h=>?_]));rw[ZP p h];exact q _ _ (bL.upd f) (qN S (XX _) f)
   .split at hs
    .trivial
    .split at hs
     case h_2=>cases hs
     rename_i b0 t u;split at hs
     case isFalse=>cases hs
     rename_i i;cases hs;have g:=λd m=>of_decide_eq_true (u6.mp i d m)
     obtain⟨aY,e1,e2,k⟩:=Yb g r
     subst e1;refine j (.inr #[a,_,b0,t,rfl,cA.of n,?_,λr m=>#[jB (k r m).1,(k r m).2],λl rows' f p h=>?_])
     .have:=congrArg sW e2;rw[bR] at this
      rwa [<-this]
     .have es:=aop e2 h;rw[<-es] at q;exact q _ _ (bL.upd f) (qN S (JK λr m=>(k r (p.mem_iff.mp m)).1) f)
def QL(ds:036):Option (List az):=if ds.length<64 then match strsOf ds with
  |some ns=>aa ((jL strLt (dedup ns)).map .str)
  |none=>aj
 else aj
theorem ars(hu:A.units+2<fJ)(I:03)(g:sJ H a y o)(f:RelV y u)(rd:RelV d r)(h:∀c s',Inv X aC σ H s'->RelV (o.getD d) c->Q c s'):
  bH 02 A (call (.builtin "dict.get") [.ref a,u,r]) Q E s:=by
 refine hide λGG i=>?_
 rcases g with g|⟨⟨ep,e⟩,⟨b,ks,rfl,j⟩,rfl⟩
 .exact i (ahx hu I g f rd h)
 .exact i (ahx hu (I.Ed e) (sJ.re e j) f rd λc s' k=>h c s' (k.TJ e))
def au6(td ty tx:TE):TE:=λσ H Q=>td σ H λx H1=>∃a,x=.ref a/\IsD H1 a/\ty σ H1 λy H2=>tx σ H2 λz H3=>∃o,sJ H3 a y o/\Q (o.getD z) H3
theorem art(hu:033)(C:PE X o td)(he:PE X e ty)(t:PE X f tx)(m:M2 X o "get" apos e f cpos):PE X (.Call (.Attribute o "get" apos) [e,f] [] cpos) (au6 td ty tx):=by
 intro aC s σ H Q I h;refine acq m.base m.few m.line abR abZ PySem.F.type_dict_get (cz (C _ s σ H _ I h) λu s1 r=>hide λGG p=>?_)
 obtain⟨x,H1,c,rx,a,ex,d,l⟩:=r
 subst ex;obtain rfl:u=fY a:=rx
 obtain⟨n,A,_⟩:=ahw c d
 refine p (⟨n,A,?_⟩);rw[m.trees];exact abU rfl (ab3 (BR (cz (he _ s1 σ H1 _ c l) λK v ⟨y,H2,B,i,j⟩=>
  BR (cz (t _ v σ H2 _ B j) λfv J ⟨z,D,w,rz,G,g,q⟩=>Iz (ars hu w g i rz λE F k b=>⟨_,D,k,b,q⟩)))))
def rm(fd fk:FB)(fx:FE):FE:=λao C=>match fd ao C with
 |some (.dict au,e1,C1)=>match fk e1 C1 with
  |some (dk,e2,C2)=>match fx e2 C2 with
   |some (r,e3,C3)=>match n6 au dk with
    |some (some d)=>aa (.im d,rst (.im d) ao e3,C3)
    |some none=>aa (still r,rst (still r) ao e3,C3)
    |none=>aj
   |none=>aj
  |none=>aj
 |_=>aj
theorem Rw(hu:033)(M:PE X o (eN X.K fd))(he:PE X e (eN X.K fk))(b:PE X f (tE X.K fx))(m:M2 X o "get" apos e f cpos):PE X (.Call (.Attribute o "get" apos) [e,f] [] cpos) (tE X.K (rm fd fk fx)):=(art hu M he b m).weak λσ H Q bz=>by
 refine hide λGG B=>?_
 obtain⟨Z,Θ,ao,C,r,bK,C',S,b,q⟩:=bz
 unfold rm at b;split at b
 case h_2=>trivial
 rename_i e1 C1 h1;split at b
 case h_2=>lia
 rename_i dk e2 C2 h2;split at b
 case h_2=>trivial
 rename_i I E L J;refine B (#[Z,Θ,_,C,_,e1,C1,S,h1,λv H1 t F y b1=>?_])
 obtain⟨a,vs,rfl,D,N⟩:=b1.dct
 refine#[a,rfl,?_,Z,Θ,e1,C1,dk,e2,C2,y,h2,λw H2 l u d b2=>#[Z,Θ,e2,C2,I,E,L,d,J,λz s k3 k p=>?_]]
 .rcases D with⟨ks,_,h⟩|⟨ks,_,h⟩
  .exact .inl #[_,Il h]
  .exact .inr #[_,rdT h]
 have x:=(b1.go y l u).go d k3 k;have A:=b2.go d k3 k
 obtain⟨G,O⟩:=p.arg
 have c:=(t.trans l).trans k3;have n:=(F.trans u).trans k;split at b
 .rename_i hl;cases(b)
  obtain⟨K,o',j,g,i⟩:=x.get A hl
  cases j;rcases i with⟨v',rfl,d',e1',r1,_⟩|⟨_,e1'⟩
  .cases e1'
   exact#[_,g,q v' s c (n.rst _) (Res.rst S c #[G,r1])]
  lia
 .rename_i hl;cases(b)
  obtain⟨K,o',j,g,i⟩:=x.get A hl
  cases j;rcases i with⟨v',rfl,d',e1',_⟩|⟨rfl,_⟩
  .lia
  .exact#[_,g,q z s c (n.rst _) (((p.still).from (t.trans l)).rst S c)]
 trivial
def Rx:az->az->Option Vl
 |.str z,.list ds=>match strsOf ds with
  |some ys=>if(ys.map (·.length)).sum+ys.length*z.length<=fG then aa (000 (Txt.join z ys)) else aj
  |none=>aj
 |_,_=>aj
def Bc(f g:FB):FE:=aX Rx f g
theorem agN(A:PE X o (eN X.K f))(he:PE X e (eN X.K g))
  (b:Fg o "join" X.env (eval o X.env)=eval o X.env:=by rfl)
  (i:((jx cpos (bV [e] X.env)).all (λx=>!x.1)&&(Qp cpos (O3 [] X.env)).all (λx=>x.1.isSome)
   &&decide (([e]:List Expr).length+([]:List yP).length+(if([]:List yP).isEmpty then 0 else 1)<30))=aq:=by rfl)
  (c:(apos.endLine==cpos.line)=aq:=by rfl)(hs:bV [e] X.env=(010 e)::bV [] X.env:=by rfl)(hplain:(jx cpos (bV [] X.env)).any (·.1)=aR:=by rfl):
  PE X (.Call (.Attribute o "join" apos) [e] [] cpos) (tE X.K (Bc f g)):=
 (aak PySem.F.plainAttrs_str PySem.F.slot_str_join PySem.F.type_str_join (Ea.r aq0) A (oU he rZ hs) b i c hs hplain).weak λσ H Q bz=>by
  refine hide λGG n=>?_
  obtain⟨Z,Θ,ao,C,r,bK,C',S,d,q⟩:=bz
  unfold Bc aX at d;split at d
  case h_2=>lia
  rename_i x e1 C1 h1;split at d
  case h_2=>lia
  rename_i e2 C2 h2;split at d
  case h_2=>lia
  rename_i h;cases(d);refine n (#[Z,Θ,_,C,x,e1,C1,S,h1,λv H1 t s y b1=>?_]);unfold Rx at h;split at h
  case h_2=>lia
  rename_i z ds;split at h
  case h_2=>lia
  rename_i ys j;split at h
  case isFalse=>lia
  rename_i hl;cases h;cases b1.str
  refine#[rfl,Z,Θ,e1,C1,_,e2,C',y,h2,λw H2 B u p b2=>?_]
  obtain⟨a,vs,rfl,k,m⟩:=b2.lst
  rw[X8 j m] at k;have l:=t.trans B
  exact#[z,a,ys,rfl,rfl,cA.of k,by unfold fG at hl;lia,q _ H2 l ((s.trans u).rst _) (Res.rst S l #[p,rfl])]
abbrev FO:=En->Ce->Option (Option Int×Ce)
inductive Mu(K:bw)(f:FO)(σ:St)(H:Hp)(Q:Option Int->Hp->Prop):Prop
 |mk (Z Θ:040) (ao:En) (C:Ce) (o:Option Int) (C':Ce) (S:001) (hf:f ao C=aa (o,C')) (q:∀H',bL Θ H H'->Sm K Z Θ ao C' σ H'->Q o H'):Mu K f σ H Q
def jc:FO:=λ_ C=>aa (aj,C)
def fQ(f:FB):FO:=λao C=>match f ao C with
 |some (.int i,_,C1)=>aa (aa i,C1)
 |_=>aj
def mQ{α:Type}(xs:List α)(lo hi:Option Int):List α:=(xs.drop (HT.fD xs.length 0 lo)).take (HT.fD xs.length xs.length hi-HT.fD xs.length 0 lo)
def m6(lo hi:Option Int):az->Option Vl
 |.str z=>if z.length<=fG then aa (000 (Txt.slice z lo hi)) else aj
 |.list ds=>aa (005 (mQ ds lo hi))
 |.tuple ds=>aa (.im (.tuple (mQ ds lo hi)))
 |_=>aj
def gC(f:FB)(lo hi:FO):FE:=λao C=>match f ao C with
 |some (d,e1,C1)=>match lo e1 C1 with
  |some (l,C2)=>match hi e1 C2 with
   |some (h,C3)=>match m6 l h d with
    |some r=>aa (r,rst r ao e1,C3)
    |none=>aj
   |none=>aj
  |none=>aj
 |none=>aj
theorem YW{E:Hp}{lo hi:Option Int}(r:cQ E ds vs):cQ E (mQ ds lo hi) (zF vs lo hi):=by
 unfold mQ zF;rw[lg r];exact afh _ (afi _ r)
section
variable{X:Cx}{lo hi:Option Expr}
theorem PO.weak(h:PO X o t)(w:∀σ H Q,t' σ H Q->t σ H Q):PO X o t':=λaC s σ H Q I q=>h _ s σ H Q I (w σ H Q q)
theorem uJ:PO X aj (Mu X.K jc):=aqQ.weak λσ H Q bz=>by
 obtain⟨Z,Θ,ao,C,o,C',S,a,q⟩:=bz
 cases(a);exact q H 009 S
theorem nD(h:PE X e (eN X.K f)):PO X (aa e) (Mu X.K (fQ f)):=(aqR h).weak λσ H Q bz=>by
 refine hide λGG b=>?_
 obtain⟨Z,Θ,ao,C,o,C',S,a,q⟩:=bz
 unfold fQ at a;split at a
 .rename_i i e1 C1 h1;cases(a);exact b (#[Z,Θ,_,C,_,e1,C',S,h1,λv H1 k f c b1=>#[i,b1,q H1 k (S.go k c.cell)]])
 trivial
theorem qj{m k:FO}(he:PE X e (eN X.K f))(hl:PO X lo (Mu X.K m))(K:PO X hi (Mu X.K k)):PE X (.Subscript e (.Slice lo hi aj p2) pos) (tE X.K (gC f m k)):=(apg ((atl.or aqT).or aq5) he hl K).weak λσ H Q bz=>by
 refine hide λGG D=>?_
 obtain⟨Z,Θ,ao,C,r,bK,C',S,c,q⟩:=bz
 unfold gC at c;split at c
 case h_2=>lia
 rename_i d e1 C1 h1;split at c
 case h_2=>lia
 rename_i l C2 h2;split at c
 case h_2=>lia
 rename_i h L J;split at c
 case h_2=>lia
 rename_i o;cases(c);refine D (#[Z,Θ,_,C,d,e1,C1,S,h1,λv H1 G F x b1=>#[Z,Θ,e1,C1,l,C2,x,h2,λH2 y E=>#[Z,Θ,e1,C2,h,C',E,J,λA k3 g=>?_]]]);have t:=(G.trans y).trans k3;have b3:=b1.go x (y.trans k3) 024;have b:∀{w:V}{j:Hp},bL Θ A j->Res _ Z Θ e1 C' σ A j r w->Q w j:=λ{w j} k4 R=>q w j (t.trans k4) (F.rst _) ((R.from t).rst S (t.trans k4))
 cases d<;>first|cases o|skip
 .rename_i z;simp only[m6] at o;split at o
  .rename_i B;cases o;cases b3.str;exact .inl (.inl #[z,rfl,sY B,b 009 (j4 g rfl rfl)])
  trivial
 .obtain⟨a,vs,rfl,s,n⟩:=b3.lst
  exact .inl (.inr #[a,vs,rfl,cA.of s,λp i=>b (bL.upd i) (qN g (YW n) i)])
 .obtain⟨a,vs,rfl,s,n⟩:=b3.tup
  refine .inr #[a,vs,rfl,dW.of s,λI=>?_,λp i=>b (bL.upd i) (Q6 g (YW n) i)];have u:=YW (lo:=l) (hi:=h) n;rw[I] at u;refine b 009 #[g,a,vs,rfl,G7 g s,u]
end
def uK(T:kW)(ft:FT)(fk fv:FE)(fs:En):List az->List (az×az)->Ce->Option (List (az×az)×Ce)
 |[],bu,C=>aa (bu,C)
 |d::r,bu,C=>match yr T d with
  |some ts=>match ft (gK ts++fs) C with
   |some (false,C1)=>uK T ft fk fv fs r bu C1
   |some (true,C1)=>match fk (gK ts++fs) C1 with
    |some (.im k,_,C2)=>match fv (gK ts++fs) C2 with
     |some (x,_,C3)=>match still x,fO k with
      |.im y,some kk=>if bu.length<fG then uK T ft fk fv fs r (pU fO kk k y bu) C3 else aj
      |_,_=>aj
     |none=>aj
    |_=>aj
   |none=>aj
  |none=>aj
def pW:List (az×az)->Bool
 |[]=>aq
 |p::r=>gb p.2&&pW r
def Bv(fi:FI)(T:kW)(ft:FT)(fk fv:FE)(js:051):FE:=λao C=>match fi ao C with
 |some (aN,e1,C1)=>match uK T ft fk fv (frB js e1) aN [] C1 with
  |some (au,C2)=>aa (.ow (.dict au),if pW au then e1 else oG js e1,C2)
  |none=>aj
 |none=>aj
theorem jb.gb(t:∀a vs,H a=aa 039->H' a=aa 039):∀{ds:021}{vs:041},pW ds=aq->jb H ds vs->jb H' ds vs
 |[],_,_,h=>h
 |(k,d)::ds,vs,n,h=>by
  obtain⟨v,r,e,q,w⟩:=h
  have b:L2.gb d=aq/\pW ds=aq:=by rwa [pW,lJ] at n
  exact#[v,r,e,RZ.gb t b.1 q,jb.gb t b.2 w]
def ai7(fk fv:FE):En->List (az×az)->Ce->Option (List (az×az)×Ce):=λao bu C=>(fk ao C).bind λp=>(wF p.1).bind λk=>(fv ao p.2.2).bind λq=>(wF (still q.1)).bind λy=>(fO k).bind λkk=>bif decide (bu.length<fG) then aa (pU fO kk k y bu,q.2.2) else aj
theorem YX:∀{aN:036}{bu:021}{C:Ce},uK T ft fk fv fs aN bu C=aa p->xR T ft (ai7 fk fv) fs aN bu C=aa p
 |[],bu,C,h=>h
 |d::r,bu,C,h=>by
  unfold uK at h;unfold xR;split at h
  case h_2=>cases h
  rename_i ht;rw[ht,ir];split at h
  case h_3=>cases h
  .rename_i a;rw[a];exact YX h
  .rename_i a;rw[a,ir];unfold ai7;split at h
   case h_2=>cases h
   rename_i k e2 C2 e;rw[e,ir,show wF _=aa k from rfl,ir];split at h
   case h_2=>cases h
   rename_i c;rw[c,ir];split at h
   case h_2=>cases h
   rename_i f b;rw[f,b];split at h
   case isFalse=>cases h
   rename_i hl;rw[f9 hl];exact YX h
inductive ObD(P:List aH)(D:aH)(bu:List (az×az))(H:Hp):Prop
 |mk (ks:List Key) (vs:041) (hk:cO fO bu=aa ks) (hD:∃ep,H D=aa (.dK (ks.zip vs) ep)) (r:jb (er P H) bu vs):ObD P D bu H
theorem aru{K:bw}{fi:FI}{T:kW}{ft:FT}:∀σ H Q,tE K (Bv fi T ft fk fv js) σ H Q->tDC K (tI K aq fi) T (λ_=>gY K ft) (λ_=>tE K fk) (λ_=>tE K fv) js σ H Q:=by
 rintro σ H Q ⟨Z,Θ,ao,C,res,bK,C',S,hf,q⟩;unfold Bv at hf;refine hide λGG i=>?_
 split at hf
 case h_2=>cases hf
 rename_i aN e1 C1 h1;split at hf
 case h_2=>cases(hf)
 rename_i C2 h2;cases(hf);refine i (#[Z,Θ,ao,C,aN,e1,C1,S,h1,λJ H1 k1 Y l it D g b=>?_]);have W:=λm=>(l.cell.dom D m).ne g
 have v:D∈bQ (uN D Z (oG js e1) σ) Θ [] []:=(rY (js:=js) rfl).mpr 038;have P:∀a k Hy,bL Θ k Hy->ObD (bQ (uN D Z (oG js e1) σ) Θ [] []) D a k->ObD _ D a Hy:=λa k Hy n r=>by
  obtain⟨ks,vs,g1,M,N⟩:=r
  obtain⟨ep,M⟩:=M
  exact#[ks,vs,g1,#[ep,n.keep _ _ M W],N.same (nC n (λa m=>oR.mpr (.inr (.inl m))) λa m=>.inl m)]
 refine X6  l it g #[[],[],rfl,#[0,fj],rfl] P (λa k r=>by obtain⟨ks,vs,_,⟨ep,e⟩,_⟩:=r;exact#[_,e,λ_ z=>nomatch z]) ?_ (YX h2) λH2 B V r=>?_
 .intro ts bu C2 p vs H4 Q hs S4 k4 r4 hQ;refine hide λGG i=>?_
  obtain⟨w,t,hs⟩:=dB hs
  obtain⟨kd,f,hs⟩:=dB hs
  obtain⟨s,F,hs⟩:=dB hs
  obtain⟨yd,O,hs⟩:=dB hs
  obtain⟨n,h,hs⟩:=dB hs
  have f:=G8 f;have O:=G8 O;cases hlt:decide (bu.length<fG) with
  |false=>rw[hlt] at hs;cases hs
  |true=>
  rw[hlt] at hs;cases hs;refine i (#[_,Θ,_,C2,_,w.2.1,_,S4,t,λy H5 A f5 x=>?_]);rw[f] at x;have S5:=S4.go A x.1.cell
  refine#[_,Θ,_,_,_,s.2.1,_,S5,F,λz I k6 f6 R6=>hide λGG i=>?_]
  obtain⟨S6,U⟩:=R6.xQ O
  obtain⟨ks,o,c,j,G⟩:=P _ _ _ (A.trans k6) r4
  have E:=by
   have:=(Fz.own (σ:=vs.map aa++frees js σ) f6)
   rw[Hl Ru] at this;exact alJ.mp this
  have e6:er (bQ (uN D Z (oG js e1) σ) Θ _ _) I=er (bQ _ Θ [] []) I:=uD λa=>by rw[rY (js:=js) E,rY (js:=js) rfl]
  rw[e6] at U
  obtain⟨u,L,N,g4,g5⟩:=Gy h U c G
  have lt:=of_decide_eq_true hlt;refine i (.inl #[_,n,j,ahG h x.2,?_,λe=>hQ _ (ZJ (Hy:=I) g ((k4.trans A).trans k6)) (JD W (λ_ z=>by obtain⟨ep,j⟩:=j;rw[j] at z;cases z) S6.cell) #[u,L,N,#[e,by rw[g5];exact fj],?_]])
  .rw[Jb,jV,vA c];unfold fG at lt;omega
  .rwa [ZF v]
 .obtain⟨ks,o,c,⟨ep,d⟩,R⟩:=r
  refine q _ H2 (k1.trans B) ?_ ?_
  .split
   .exact Y
   .exact Y.trans (Hj js e1)
  .refine#[D,rfl,k1.none g,?_]
   split
   .rename_i hn;have X:=l.zm g B #[_,d,λ_ z=>nomatch z] V
    exact#[X,o,.inl #[ks,c,ep,d],R.gb (λa vs e=>G7 X (jB e)) hn]
   .refine#[(l.fz (Hj js e1)).zm g B #[_,d,λ_ z=>nomatch z] V,o,.inl #[ks,c,ep,d],?_]
    rwa [uD (P':=bQ (D::Z) Θ _ σ) λa=>by rw[rY (js:=js) rfl];show _↔a∈D::bQ Z Θ _ σ;rw[cB]] at R
section
variable{X:Cx}{NT NF:List Str}{js:List Nat}{T:kW}{fi:FI}{ft:FT}{fk fv:FE}{scope:kI}{pos:Pos}
theorem aft(B:031)(c:qZ tg NT T)(d:035)(hu:033)(hi:PI X tg iter (tI X.K aq fi))
  (hin:∀b,pX (X.bk (NT++NF) scope b) ifs (gY X.K ft)/\PE (X.bk (NT++NF) scope b) kx (tE X.K fk)/\PE (X.bk (NT++NF) scope b) vx (tE X.K fv))
  (a:p7 (.DictComp kx vx [#[tg,iter,ifs,0]] scope pos) (aa (.Name y pos')) spos.line X.env=pure aq)(hN:049)(f:X.N[i]?=aa y)(e:023)
  (hs:∀x,tY iter X.env x=pure x:=by intro _;rfl):PS X (.Assign [.Name y pos'] (.DictComp kx vx [#[tg,iter,ifs,0]] scope pos) spos) (tS X.K (cP i (Bv fi T ft fk fv js))):=(apn B c d hu hi hin a hN f e hs).weak (QF aru)
end
section
variable{X:Cx}
theorem amB(B:035):jh X (.type "list") (λxs H Q=>∃(d:aH)(au:List (Key×V)),xs=[.ref d]/\uT H d au/\∀l,H l=aj->Q (.ref l) (upd H l (.lst (au.map λf=>kV f.1)))):=by
 intro aC s σ H xs us Q I r h;refine hide λGG o=>?_
 obtain⟨d,au,rfl,n,q⟩:=h
 obtain⟨u,rfl,D⟩:=vals1 r
 cases D
 obtain⟨z,lo,vs,c,j⟩:=vM I.hok n
 obtain⟨ep,m⟩:=j.dictAt
 have lv:=(Paired.length c).symm;refine o (kdl_call (kdl_dict lo) (I.ok.hd B) m (by rwa [lv]) λh' F a E A e b=>?_);have hl:Vals (au.map λf=>kV f.1) a.toList:=by
  have h2:a.toList.length=vs.length:=(b.1)
  have g:∀i v,a.toList[i]?=aa v->∃k x,vs[i]?=aa _/\(gq _ _).is k v=aq:=λi v e=>let ⟨k,x,h⟩:=b.2 i v 07;#[k,x,h]
  clear e b j m;generalize a.toList=us at h2 g;clear n q z lv;induction c generalizing us with
  |nil=>
   cases us with
   |nil=>exact .nil
   |cons _ _=>cases h2
  |@cons p w ps ws hp _ ih=>
   cases us with
   |nil=>cases h2
   |cons u us=>
    refine .cons ?_ (ih us 07 λi v e=>by simpa using g (i+1) v (by simpa using e))
    obtain⟨k,x,e1,e2⟩:=g 0 u rfl
    simp at e1;have C:k=p.1:=c3
    subst C;rcases rO e2 with⟨i,t,e3,e4⟩|⟨y,t,e3,e4⟩
    .show RelV (kV _) u;rw[e3,e4];exact#[t,rfl]
    .show RelV (kV _) u;rw[e3,e4];exact#[t,rfl]
 refine#[.ref _,_,I.laid A 046 (show mX _ _ _ h' _ (.lst _) from#[by simp_all,_,E,hl,by simpa using e]),rfl,q _ (I.hok.fresh 046)]
def GC:List az->Option Vl
 |[.list ds]=>aa (005 ds)
 |[.tuple ds]=>aa (005 ds)
 |[.dict au]=>if(cO fO au).isSome then aa (005 (au.map (·.1))) else aj
 |_=>aj
def ahR(K:bw):List V->Hp->VK->Prop:=λxs H Q=>(∃p ys,xs=[.ref p]/\(cA K H p ys\/dW K H p ys)/\∀l,H l=aj->Q (.ref l) (upd H l (.lst ys)))\/∃(d:aH)(au:List (Key×V)),xs=[.ref d]/\uT H d au/\∀l,H l=aj->Q (.ref l) (upd H l (.lst (au.map λkv=>kV kv.1)))
theorem anx(a:035):jh X (.type "list") (ahR X.K):=amx.or (amB a)
theorem Yd:∀{au:021}{ks:List Key}{vs:041},cO fO au=aa ks->ks.length=vs.length->cQ E (au.map (·.1)) ((ks.zip vs).map λa=>kV a.1)
 |[],ks,vs,h,_=>by cases h;rfl
 |(p,d)::au,ks,vs,h,hl=>by
  unfold cO at h;split at h
  .rename_i h1 h2;cases h;cases vs with
   |nil=>trivial
   |cons v vs=>
    refine#[_,_,rfl,?_,Yd h2 07]
    cases p<;>first|(cases h1;rfl)|trivial
  trivial
theorem apL{K:bw}:mD K (ahR K) GC:=by
 intro Z Θ ao C σ H xs ds res S b e Q q;unfold GC at e;split at e
 case h_4=>cases e
 .cases e
  obtain⟨v,rfl,d⟩:=pN b
  obtain⟨a,vs,rfl,c,r⟩:=d.lst
  exact .inl #[a,vs,rfl,.inl (cA.of c),λl hl=>q _ _ (bL.upd hl) (qN S r hl)]
 .cases e
  obtain⟨v,rfl,d⟩:=pN b
  obtain⟨a,vs,rfl,c,r⟩:=d.tup
  exact .inl #[a,vs,rfl,.inr (dW.of c),λl hl=>q _ _ (bL.upd hl) (qN S r hl)]
 .split at e
  case isFalse=>lia
  rename_i hs;cases e
  obtain⟨v,rfl,d⟩:=pN b
  obtain⟨a,vs,rfl,g,r⟩:=d.dct
  rcases g with⟨ks,h1,c⟩|⟨ks,⟨ne,h2⟩,c⟩
  .exact .inr #[a,_,rfl,Il c,λl hl=>q _ _ (bL.upd hl) (qN S (Yd h1 (by rw[vA h1,Dd r])) hl)]
  .obtain⟨f,h1⟩:=wN.mp hs
   exact absurd (xu h1 h2) ne
def YZ:List az->Option Vl
 |[.dict []]=>aj
 |[.dict ((k,v)::r)]=>match zK k with
  |some (b::sh)=>if r.length<63/\(((k,v)::r).all λp=>decide (zK p.1=aa (b::sh)))=aq then aa (005 (yg (((k,v)::r).map (·.1)))) else aj
  |_=>aj
 |_=>aj
theorem aey:∀{au:021}{ks:List TK},cO lq au=aa ks->(∀p∈au,zK p.1=aa sh)->au.map (·.1)=ks.map (λk=>.tuple (k.1.map m5))/\∀k∈ks,k.2=aj/\k.1.map cL=sh
 |[],ks,h,_=>by cases h;simp
 |(p,d)::au,ks,h,hs=>by
  unfold cO at h;split at h
  .rename_i k t h1 h2;cases h
   obtain⟨e,g⟩:=aey h2 λq m=>hs q (fU _ m)
   have b:=hs _ fV
   obtain⟨xs,rfl,c⟩:∃xs,p=.tuple xs/\(keysOf xs).map _=aa k:=by
    have a:lq p=aa k:=h1;unfold lq at a;split at a
    .trivial
    .exact#[_,rfl,a]
    lia
   obtain⟨k,f,rfl⟩:=pY.mp c
   have b:(keysOf xs).map _=aa sh:=b
   refine#[by rw[dN,e,QK f];rfl,λi m=>?_]
   grind
  lia
theorem apM{K:bw}:mD K (λxs H Q=>∃(d:aH)(au:List (TK×V))(b:Bool)(sh:List Bool),xs=[.ref d]/\Eb H d au/\au.length<64/\(∀g∈au,g.1.2=aj/\g.1.1.map cL=b::sh)/\
  ∀(l:aH)(aY:List Row),H l=aj->(aY.map (·.2)).Perm (au.map (·.1.1))->aY.map (·.2)=vY (au.map (·.1.1))->(∀r∈aY,H r.1=aa (.tup (r.2.map kV)))->Q (.ref l) (upd H l (.lst (aY.map λr=>V.ref r.1)))) YZ:=by
 intro Z Θ ao C σ H xs ds res S b e Q q;unfold YZ at e;refine hide λGG x=>?_
 split at e
 .cases e
 .rename_i j v0 s;split at e
  case h_2=>cases e
  rename_i b0 sh h;split at e
  case isFalse=>cases e
  rename_i f;cases e;have c:=λd m=>of_decide_eq_true (u6.mp f.2 d m)
  obtain⟨v,rfl,E⟩:=pN b
  obtain⟨a,vs,rfl,y,r⟩:=E.dct
  rcases y with⟨ks,h1,ha⟩|⟨ks,⟨ne,h2⟩,ha⟩
  .unfold cO at h1;split at h1
   .rename_i z F;cases j<;>(cases z)
    all_goals cases h
   .cases h1
  .obtain⟨e1,e2⟩:=aey h2 c
   have n:=vA h2;have B:=Dd r;have u:(ks.zip vs).map (·.1)=ks:=by
    rw[alK];simp_all
   refine x (#[a,_,b0,sh,rfl,rdT ha,?_,λg m=>e2 _ (Vj m).1,λl aY w p o A=>?_])
   .grind
   .have i:(ks.zip vs).map (·.1.1)=ks.map (·.1):=by rw[<-u,dJ,u];rfl
    rw[i] at o;have D:(((j,v0)::s).map (·.1)).map Bb=ks.map (·.1):=by
     rw[e1,dJ];refine wR λk _=>?_
     show(keysOf _).getD []=k.1
     rw[JH];rfl
    have es:(aY.map λr=>vh (r.2.map m5))=yg (((j,v0)::s).map (·.1)):=by
     unfold yg;rw[D,<-o,dJ];rfl
    rw[<-es] at q;exact q _ _ (bL.upd w) (qN S (JK λr m=>G7 S (A r m)) w)
 .cases e
theorem ahS{K:bw}(h:mD K r op)(h':mD K r' op'):mD K (λxs H Q=>r xs H Q\/r' xs H Q) (λds=>match op ds with|some z=>aa z|none=>op' ds):=by
 intro Z Θ ao C σ H xs ds res S b e Q q;cases h1:op ds with
 |some z=>
  simp_all;exact .inl (h Z Θ _ C σ H xs ds _ S b h1 Q q)
 |none=>
  simp_all;exact .inr (h' Z Θ _ C σ H xs ds _ S b e Q q)
end
noncomputable def rA:List az->List az->List az
 |x::xs,y::ys=>.tuple [x,y]::rA xs ys
 |_,_=>[]
theorem agO:∀{xs ys:036}{i:Nat}{d:az},(rA xs ys)[i]?=aa d->∃x y,xs[i]?=aa x/\ys[i]?=aa y/\d=.tuple [x,y]
 |[],_,i,d,h=>by trivial
 |_::_,[],i,d,h=>by trivial
 |x::xs,y::ys,0,d,h=>by
  simp[rA] at h;simp[*]
 |x::xs,y::ys,i+1,d,h=>by
  obtain⟨a,b,h1,h2,c⟩:=agO (by simpa[rA] using h)
  simp_all
theorem afu:∀{xs ys:036},(rA xs ys).length=min xs.length ys.length
 |[],_=>rfl
 |_::_,[]=>rfl
 |x::xs,y::ys=>by simp[rA,afu]
theorem atN{K:bw}{H:Hp}{a b:aH}{vs ws:041}(t:er T H a=aa (.lst vs))(r:er T H b=aa (.lst ws))(j:cQ (er P H) ds vs)(l:cQ (er P H) es ws):zJ P T H (Itz K a b) (rA ds es):=λi H2 E s1 h n=>by
 have h2:cA K H2 a vs:=cA.of (jB (h _ _ t));have e:cA K H2 b ws:=cA.of (jB (h _ _ r))
 refine#[λd A=>hide λGG q=>?_,λhi=>#[vs,ws,h2,e,by rw[hi,afu,lg j,lg l]]]
 obtain⟨x,y,e1,e2,rfl⟩:=agO A
 obtain⟨v,C,B⟩:=yW j e1
 obtain⟨w,s,c⟩:=yW l e2
 refine q (#[#[vs,ws,h2,e,?_],λz G u=>?_])
 .grind
 .obtain⟨p,F,D,g,rfl,rfl,o⟩:=u
  obtain⟨f,k⟩:=o vs ws h2 e
  rw[C] at f;rw[s] at k;cases f;cases k;have sp:cI H2 (upd H2 p (.tup [v,w])):=cI.upd g
  refine#[sp,p,_,rfl,?_,v,_,rfl,B.same (s1.trans (YD sp)),w,[],rfl,c.same (s1.trans (YD sp)),rfl]
  unfold er;rw[cC (λm=>(n p m).ne g),fj]
def zQ(f:Bt):FI:=λao C=>match f ao C with
 |some ([.list xs,.list ys],e1,C1)=>aa (rA xs ys,e1,C1)
 |_=>aj
theorem ZQ(hg:Gl X "zip")(l:X.mg "zip"=aj)(c:PA X [x,y] (zO X.K f))(hs:bV [x,y] X.env=[(010 x),(010 y)]:=by rfl)(g:bV [y] X.env=[(010 y)]:=by rfl):
  PI X (.Tuple es k ps) (.Call (.Name "zip" p) [x,y] [] pos) (tI X.K aq (zQ f)):=(ato hg l c hs g).weak λσ H R bz=>by
 refine hide λGG d=>?_
 obtain⟨Z,Θ,ao,C,r,bK,C',S,e,q⟩:=bz
 unfold zQ at e;split at e
 case h_2=>lia
 rename_i h1;cases(e);refine d (#[Z,Θ,_,C,_,_,C',S,h1,λvs H1 k f m b1=>hide λGG d=>?_]);cases b1 with
 |cons b1 b2=>
  cases b2 with
  |cons b2 b3=>
   cases b3
   obtain⟨a,i,rfl,c,j⟩:=b1
   obtain⟨b,o,rfl,h,n⟩:=b2
   exact d (#[a,b,_,_,rfl,cA.of (jB c),cA.of (jB h),q _ H1 k f m (atN c h j n)])
section
variable{X:Cx}{tg e:Expr}
def aaR:az->Option (List az)
 |.list ds=>aa ds
 |.tuple ds=>aa ds
 |_=>aj
def wJ(f:FB):FI:=λao C=>match f ao C with
 |some (d,e1,C1)=>match aaR d with
  |some aN=>aa (aN,e1,C1)
  |none=>aj
 |none=>aj
def iV2(f:FE):FI:=λao C=>match f ao C with
 |some (r,e1,C1)=>match still r with
  |.im d=>match aaR d with
   |some aN=>aa (aN,e1,C1)
   |none=>aj
  |_=>aj
 |none=>aj
theorem HD(h:PE X e (eN X.K f)):PI X tg e (tI X.K aq (wJ f)):=((JV h).or (Zr h)).weak λσ H R bz=>by
 refine hide λGG j=>?_
 obtain⟨Z,Θ,ao,C,l,bK,C',S,g,q⟩:=bz
 unfold wJ at g;split at g
 .rename_i d e1 C1 h1;split at g
  .rename_i hi;cases(g);cases d<;>(cases hi)
   .refine j (.inl #[Z,Θ,_,C,_,_,C',S,h1,λv H1 k f i b=>?_])
    obtain⟨a,vs,rfl,c,r⟩:=b
    exact#[a,rfl,#[vs,cA.of (jB c)],q _ H1 k f i (YK c r)]
   .refine j (.inr #[Z,Θ,_,C,_,_,C',S,h1,λv H1 k f i b=>?_])
    obtain⟨a,vs,rfl,c,r⟩:=b
    exact#[a,rfl,#[vs,dW.of (jB c)],q _ H1 k f i (ZG c r)]
  lia
 lia
theorem al1(g:035):jh X (.builtin "sorted") (λxs H Q=>∃d:aH,xs=[.ref d]/\(∃ep,H d=aa (.dK [] ep))/\∀l,H l=aj->Q (.ref l) (upd H l (.lst []))):=by
 intro aC s σ H xs us Q I r h
 obtain⟨d,rfl,⟨ep,c⟩,q⟩:=h
 refine cz (acG g _ s σ _ _ us (λv H'=>∃l,v=.ref l/\H l=aj/\H'=upd (upd H d (.dT [] ep)) l (.lst [])) (I.Ed c) r #[d,[],aq,[],rfl,#[ep,.inl fj],bh,(λy m=>nomatch m),λl aY hl p y y=>?_]) λu s' ⟨v,H',f,i,l,j,hl,k⟩=>?_
 .have:aY=[]:=by simp_all
  subst this
  refine#[l,rfl,?_,rfl]
  by_cases z:l=d
  .subst z;rw[fj] at hl;lia
  .rwa [di z] at hl
 .subst j k;have a:=ue c hl;have e:upd (upd H d (.dT [] ep)) l (.lst [])=upd (upd H l (.lst [])) d (.dT [] ep):=by
   funext b;by_cases h1:b=l
   .subst h1;rw[fj,di (jW a),fj]
   .rw[di h1];by_cases h2:b=d
    .subst h2;rw[fj,fj]
    .rw[di h2,di h2,di h1]
  rw[e] at f
  exact#[_,_,f.TJ (by rwa [di a]),i,q l hl]
def Y0:List az->Option Vl
 |[.dict []]=>aa (.ow (.list []))
 |_=>aj
theorem apO{K:bw}:mD K (λxs H Q=>∃d:aH,xs=[.ref d]/\(∃ep,H d=aa (.dK [] ep))/\∀l,H l=aj->Q (.ref l) (upd H l (.lst []))) Y0:=by
 intro Z Θ ao C σ H xs ds res S b e Q q;unfold Y0 at e;refine hide λGG f=>?_
 split at e
 case h_2=>cases e
 cases e
 obtain⟨v,rfl,g⟩:=pN b
 obtain⟨a,vs,rfl,c,r⟩:=g.dct
 rcases c with⟨ks,h1,ha⟩|⟨ks,⟨ne,_⟩,_⟩
 .cases h1;exact f (#[a,rfl,ha,λl hl=>q _ _ (bL.upd hl) (qN S rfl hl)])
 lia
def J8(ds:036):Option Vl:=match QJ ds with
 |some z=>aa z
 |none=>match YZ ds with
  |some z=>aa z
  |none=>Y0 ds
abbrev ahT(K:bw):List V->Hp->VK->Prop:=λxs H Q=>ZM K xs H Q\/((∃(d:aH)(au:List (TK×V))(b:Bool)(sh:List Bool),xs=[.ref d]/\Eb H d au/\au.length<64/\(∀kv∈au,kv.1.2=aj/\kv.1.1.map cL=b::sh)/\
  ∀(l:aH)(aY:List Row),H l=aj->(aY.map (·.2)).Perm (au.map (·.1.1))->aY.map (·.2)=vY (au.map (·.1.1))->(∀r∈aY,H r.1=aa (.tup (r.2.map kV)))->Q (.ref l) (upd H l (.lst (aY.map λr=>V.ref r.1))))\/∃d:aH,xs=[.ref d]/\(∃ep,H d=aa (.dK [] ep))/\∀l,H l=aj->Q (.ref l) (upd H l (.lst [])))
theorem ad7(a:035):jh X (.builtin "sorted") (ahT X.K):=anw.or ((acG a).or (al1 a))
theorem afv{K:bw}:mD K (ahT K) J8:=ahS aor (ahS apM apO)
end
def aar:FN:=λ_ _=>aj
theorem arv{P:dY}{w:cW}{K:bw}{base:cF}{f:aH}{ps:014}:eV P w K mg base eY 0 f fd ps (spT K aar):=by
 have a:∀vs H Q E,¬spT K aar vs H Q E:=λvs H Q E w=>by obtain⟨_,_,_,_,_,_,_,_,h,_⟩:=w;exact nomatch h
 exact#[λk k k k h=>(a _ _ _ _ h).elim,λk k k k k k k k k k k k k h=>(a _ _ _ _ h).elim]
theorem Ak(h:o8 o=aa xs):o=aa (.lst xs):=by
 cases o with
 |none=>cases h
 |some c=>
  cases c with
  |lst ys=>cases h;rfl
  |lG au=>cases h
  |yp=>cases h
theorem De(n:∀a∈P,NT (H a))(c:H b=aa (.tup ws)):er P H b=aa (.tup ws):=by
 unfold er;rw[cC]
 .trivial
 .intro m
  obtain⟨u,d,nt⟩:=n b m
  simp_all
def wj(i:Nat)(f:FB):FE:=λao C=>match ao[i]? with
 |some (some (.ce n))=>match f ao C with
  |some (.int k,_,C1)=>match o8 C1[n]? with
   |some xs=>match eX xs k with
    |some (.dat d)=>aa (.im d,ao,C1)
    |_=>aj
   |none=>aj
  |_=>aj
 |_=>aj
theorem Dp(D:PE X o (lA i))(t:PE X k (eN X.K f))(hs:JX k):PE X (.Subscript o k pos) (tE X.K (wj i f)):=(aai Yz D t hs).weak λσ H Q bz=>by
 refine hide λGG s=>?_
 obtain⟨Z,Θ,ao,C,r,bK,C',S,c,q⟩:=bz
 unfold wj at c;split at c
 case h_2=>lia
 rename_i n A;split at c
 case h_2=>lia
 rename_i z e1 C1 h1;split at c
 case h_2=>lia
 rename_i e;split at c
 case h_2=>lia
 rename_i d;cases(c)
 obtain⟨v,B,a,rfl,g⟩:=S.slot i _ A
 refine s (#[_,B,Z,Θ,_,C,_,e1,C',S,h1,λw H1 l E p b1=>?_]);have h:=S.go l p.cell
 obtain⟨vs,y,m⟩:=p.cell.at_ n a _ g (Ak e)
 unfold eX at d;cases hj:qt _ z with
 |none=>rw[hj] at d;trivial
 |some j=>
  rw[hj] at d
  obtain⟨u,F,nl,rz⟩:=m.at d
  refine#[a,_,z,u,rfl,b1,cA.of y,?_,q _ H1 l 024 #[h,RZ.gb (λb ws x=>?_) nl rz]]
  .unfold eX
   rwa [m.len,hj]
  .exact De h.sI x
theorem ahU{C:Ce}(h:C[b]?=aa l):(C.set b l')[b]?=aa l':=c8
theorem mul_eq(h:(-18446744073709551616<i/\i<18446744073709551616)\/(-18446744073709551616<j/\j<18446744073709551616)):mO (.int i) (.int j)=aa (00 (i*j)):=bZ h
theorem mod_eq(h:0<j):nZ (.int i) (.int j)=aa (00 (i%j)):=bZ h
theorem fdiv_eq(h:0<j)(h1:j<1073741824):vH (.int i) (.int j)=aa (00 (i / j)):=(bZ #[h,h1])
theorem afw(I:Nat->En->Ce->Prop):∀{aN:036}{ao:En}{C:Ce}{k:Nat},I k ao C->
  (∀i d ao C,aN[i]?=aa d->I (k+i) ao C->∃e1 a bK C',g d ao=aa e1/\body e1 C=aa (a,bK,C')/\(a=.nx\/a=.ct)/\I (k+i+1) bK C')->
  ∃bK C',iY g body aN ao C=aa (.nx,bK,C')/\I (k+aN.length) bK C'
 |[],ao,C,k,h,_=>#[_,C,rfl,h]
 |d::r,ao,C,k,h,st=>by
  obtain⟨e1,a,b,C1,h1,h2,j,c⟩:=st 0 d _ C rfl h
  obtain⟨e,C2,n,m⟩:=afw I c λi f ao C l hi=>by
   have:=st (i+1) f _ C (by trivial) (by rwa [show k+(i+1)=k+1+i by lia])
   rwa [show k+(i+1)+1=k+1+i+1 by lia] at this
  refine#[_,C2,?_,by rwa [eZ,show k+(r.length+1)=k+1+r.length by lia]]
  unfold iY
  lia
theorem Jy(I:Nat->En->Ce->Prop)(h:I 0 ao C)
  (st:∀i d ao C,aN[i]?=aa d->I i ao C->∃e1 a bK C',g d ao=aa e1/\body e1 C=aa (a,bK,C')/\(a=.nx\/a=.ct)/\I (i+1) bK C'):
  ∃bK C',iY g body aN ao C=aa (.nx,bK,C')/\I aN.length bK C':=by
 have:=afw I h λi d ao C b hi=>by
  rw[V2] at hi⊢;exact st i d ao C b hi
 rwa [V2] at this
theorem JL(lo:Int)(n:Nat):(lU lo n).length=n:=by unfold lU;simp
theorem Q9{lo:Int}(h:(lU lo n)[i]?=aa d):d=.int (lo+i)/\i<n:=by
 unfold lU at h
 grind
theorem aez(I:Nat->Ce->Prop)(R:Nat->az->Prop):∀{aN:036}{C:Ce}{k:Nat},I k C->(∀i d C,aN[i]?=aa d->I (k+i) C->∃ts x e C' y,yr T d=aa ts/\fe (gK ts++fs) C=aa (x,e,C')/\still x=.im y/\R (k+i) y/\I (k+i+1) C')->
  ∃ys C',jy T dU fe fs aN C=aa (ys,C')/\I (k+aN.length) C'/\ys.length=aN.length/\∀i y,ys[i]?=aa y->R (k+i) y
 |[],C,k,h,_=>#[[],C,rfl,h,rfl,λi y e=>by simp_all]
 |d::r,C,k,h,st=>by
  obtain⟨ts,x,e,C1,y,h1,h2,l,f,n⟩:=st 0 d C rfl h
  obtain⟨ys,C2,c,o,g,b⟩:=aez I R n λi j C m hi=>by
   have:=st (i+1) j C (by simpa using m) (by rwa [show k+(i+1)=k+1+i by lia])
   rwa [show k+(i+1)+1=k+1+i+1 by lia,show k+(i+1)=k+1+i by lia] at this
  refine#[y::ys,C2,?_,by rwa [eZ,show k+(r.length+1)=k+1+r.length by lia],by simp[g],λi z a=>?_]
  .unfold jy;simp only[h1,dU,h2,l];rw[c]
  .cases i with
   |zero=>simp at a;subst a;exact f
   |succ i=>
    have:=b i z (by simpa using a)
    rwa [show k+(i+1)=k+1+i by lia]
theorem ZR(b:0<=k)(h1:k<xs.length):∃x,eX xs k=aa x/\xs[k.toNat]?=aa x:=by
 have a:k.toNat<xs.length:=c4
 refine#[_,?_,mH a]
 unfold eX qt
 simp_all
def T5(z:Str):Bool:=z.cps.toList.all λc=>decide (97<=c)&&decide (c<=122)
def nameB(z:Str):Bool:=decide (1<=z.length)&&decide (z.length<=8)&&T5 z
abbrev abc:Str:=gV "abcdefghijklmnopqrstuvwxyz"
theorem atO(b:0<=r)(a:r<26):eX abc.cps.toList r=aa (97+r.toNat):=by
 have h:∀k:Nat,k<26->eX abc.cps.toList k=aa (97+k):=bG
 grind
theorem ad8:∀(l:051)(a:Array Nat),((l.map λc=>(#[#v[c]]:Str)).foldl (λbu p=>bu++(gV "").cps++p.cps) a).toList=a.toList++l
 |[],a=>by simp
 |c::r,a=>by
  simp only[dN,z7];rw[ad8 r];have e:(gV "").cps=#v[]:=rfl
  simp_all
theorem ad9:∀(l:051),(Txt.join (gV "") (l.map λc=>(#[#v[c]]:Str))).cps.toList=l
 |[]=>rfl
 |c::r=>by
  show(((r.map _)).foldl _ #v[c]).toList=c::r
  rw[ad8 r];rfl
theorem agP:∀ys:List Nat,(ys.map ((λx:Str=>x.length) ∘ λc=>(#[#v[c]]:Str))).sum=ys.length
 |[]=>rfl
 |c::r=>by
  rw[dN,amg,agP r];show 1+r.length=r.length+1;lia
theorem arw(a:c∈(Txt.slice z l u).cps.toList):c∈z.cps.toList:=by
 unfold Txt.slice at a
 exact c8
def Names(zs:014):Prop:=zs.Nodup/\∀z∈zs,nameB z=aq
theorem QM(z:Str)(zs:014):inD (.str z) (zs.map .str)=decide (z∈zs):=by
 unfold inD;rw[Cg];simp[wA,toV]
theorem apP(h:nameB z=aq):1<=z.length/\z.length<=8/\∀c∈z.cps.toList,97<=c/\c<=122:=by
 unfold nameB T5 at h
 grind
def Asc(z:Str):Prop:=∀c∈z.cps.toList,c<128
def zR(n:Nat)(z:Str):Prop:=Asc z/\z.length<=n
theorem zR.name(h:nameB z=aq):zR 8 z:=by
 unfold nameB T5 at h;simp only[lJ,decide_eq_true_eq] at h
 exact#[λc a=>c8,h.1.2]
def iU(zs:014)(ps:029):Prop:=∀(i:Nat)(x:Str×Str),ps[i]?=aa x->zs[i]?=aa x.1/\(x.2=gV ""\/∃j,j<i/\zs[j]?=aa x.2)
theorem iU.snoc(h:iU zs ps)(d:zs[ps.length]?=aa a)(c:b=gV ""\/∃j,j<ps.length/\zs[j]?=aa b):iU zs (ps++[(a,b)]):=by
 intro i x e;by_cases hi:i<ps.length
 .rw[uZ hi] at e;exact h i x e
 .have q:=Nat.not_lt.mp hi;rw[uY q] at e;cases k:i-ps.length with
  |zero=>rw[k] at e;cases e;cases Nat.le_antisymm (Nat.sub_eq_zero_iff_le.mp k) q;exact#[d,c]
  |succ n=>rw[k] at e;cases e
def kJ(ps:029)(z:Str):Option Str:=(ps.find? λp=>decide (p.1=z)).map (·.2)
inductive Over(f:Str->Option Str):Str->List Str->Prop
 |stop {z:Str}:f z=aj->Over f z []
 |step {z y:Str} {r:014}:f z=aa y->Over f y r->Over f z (z::r)
structure lH(e B:Nat)(d:az):Prop where
 S8:d.showable=aq
 deep:d.depth<=e
 len:d.shown.length<=B
theorem Ra(a:0<=i)(h1:i<10^12):lH 0 12 (.int i):=by
 refine#[?_,(lO _),?_]
 .have:i.natAbs<2^40:=c4;have h2:i.natAbs.log2<1920:=by
   by_cases h:i.natAbs=0
   .rw[h];decide
   .have:=(Nat.log2_lt h).mpr this;lia
  simpa[Vm] using h2
 .exact ayn a bh h1
theorem GD(h:zR 8 z):lH 0 82 (.str z):=by
 refine #[rfl,by simp[vm],jw (StrLaws.reprText_len z λc a=>qz (h.1 c a) bh) ?_];have:=h.2;lia
theorem Y4:∀{ds:036},(∀d∈ds,lH e B d)->ak5 ds=aq/\yE ds<=e/\((Jc ds).map (·.length)).sum<=ds.length*B
 |[],_=>#[rfl,(lO _),(lO _)]
 |d::ds,h=>by
  obtain⟨h1,h2,b⟩:=Y4 λx a=>h x (fU _ a)
  have g:=h d fV
  refine#[by simp[ak5,g.S8,h1],?_,?_]
  .simp only[yE];have:=g.deep;lia
  .simp only[Jc,dN,amg,eZ];have:=g.len
   lia
theorem Df(h:∀d∈ds,lH e B d)(a:ds.length<=C):lH (e+1) (C*(B+2)+3) (.tuple ds):=by
 obtain⟨h1,h2,c⟩:=Y4 h
 refine#[by trivial,by simp[vm];omega,?_]
 simp only[vo];have:=tupleText_len_le (Jc ds);have hl:=akt ds;have b:=akL B a
 grind
theorem lH.mono(h:lH e B d)(he:e<=e')(a:B<=B'):lH e' B' d:=#[h.S8,jw h.deep he,jw h.len a]
abbrev xT:=Int×Str×Int×Str×Int×Int
abbrev cY:=Int×Str×Str×Str×Int×Int×Int
abbrev KZ:=Int×Str
abbrev RW:=Str×Int×List KZ
def zq(r:xT):az:=.tuple [.int r.1,.str r.2.1,.int r.2.2.1,.str r.2.2.2.1,.int r.2.2.2.2.1,.int r.2.2.2.2.2]
def bU(r:cY):az:=.tuple [.int r.1,.str r.2.1,.str r.2.2.1,.str r.2.2.2.1,.int r.2.2.2.2.1,.int r.2.2.2.2.2.1,.int r.2.2.2.2.2.2]
def aiy(s:KZ):az:=.tuple [.int s.1,.str s.2]
def atP(ss:List KZ):az:=.tuple (ss.map aiy)
def aas(r:RW):az:=.tuple [.str r.1,.int r.2.1,atP r.2.2]
def Bd(p:Str×Str):az:=.tuple [.str p.1,.str p.2]
structure oV where
 ps:List (Str×Str)
 Du:List xT
 leaves:List cY
 rules:List RW
def kE(h:oV):az:=.tuple [.tuple (h.ps.map Bd),.tuple (h.Du.map zq),.tuple (h.leaves.map bU),.tuple (h.rules.map aas)]
structure atQ(zs own:List Str)(r:xT):Prop where
 num:0<=r.1/\r.1<=2000
 who:r.2.1∈zs
 rank:1<=r.2.2.1/\r.2.2.1<=9
 part:r.2.2.2.1∈own
 days:0<=r.2.2.2.2.1/\r.2.2.2.2.1<=r.2.2.2.2.2/\r.2.2.2.2.2<=99999
structure Al(zs own:List Str)(r:cY):Prop where
 num:0<=r.1/\r.1<=2000
 giver:r.2.1∈zs
 taker:r.2.2.1∈zs
 ne:r.2.1≠r.2.2.1
 part:r.2.2.2.1∈own
 days:0<=r.2.2.2.2.1/\r.2.2.2.2.1<=r.2.2.2.2.2.1/\r.2.2.2.2.2.1<=99999
 most:0<=r.2.2.2.2.2.2/\r.2.2.2.2.2.2<=1000000000
def atR(own:014)(s:KZ):Prop:=1<=s.1/\s.1<=9/\(s.2=gV ""\/s.2∈own)
structure atU(own:List Str)(r:RW):Prop where
 part:r.1∈own
 sum:0<=r.2.1/\r.2.1<=1000000000
 many:r.2.2.length<=6
 ay9:∀s∈r.2.2,atR own s
structure qb(zs:List Str)(ps:List (Str×Str))(h:oV):Prop where
 parts:h.ps.Perm ps
 p8:ps.length<=8
 r20:h.Du.length<=20
 jd:h.leaves.length<=16
 u10:h.rules.length<=10
 Du:∀r∈h.Du,atQ zs (ps.map (·.1)) r
 rup:(h.Du.map (·.1)).Pairwise (·<·)
 leaves:∀r∈h.leaves,Al zs (ps.map (·.1)) r
 T6:(h.leaves.map (·.1)).Nodup
 rules:∀r∈h.rules,atU (ps.map (·.1)) r
 unlike:(h.rules.map λr=>(r.1,r.2.1)).Nodup
theorem au7:zR 8 (gV ""):=by
 have e:(gV "").cps.toList=[]:=rfl
 refine#[λc a=>?_,bG]
 grind
theorem CJ(h:nameB z=aq):Oh z=aq:=by
 unfold Oh;rw[Array.all_eq_true'];intro c a;have:=(apP h).2.2 c 07
 lia
theorem Ye:∀{zs:014},(∀z∈zs,Oh z=aq)->BX (zs.map gR)=aq/\yE (zs.map gR)=0/\jP (zs.map gR)=aq
 |[],_=>#[rfl,rfl,rfl]
 |z::zs,h=>by
  obtain⟨h1,h2,b⟩:=Ye λx a=>h x (fU _ a)
  refine#[by simp[BX,yI,h z _];lia,‹_›,?_]
  trivial
theorem amY{zs:014}(h:∀z∈zs,Oh z=aq):jk (.list (zs.map gR))=aq:=by
 obtain⟨h1,h2,_⟩:=Ye h
 unfold jk;simp only[yI,h1,vm,h2];rfl
set_option tactic.hygienic true in
theorem amC:∀{l:List α}{m:List β},m.Perm (l.map f)->∃c:List α,c.Perm l/\m=c.map f:=λ{l m} p=>by
 generalize e:l.map f=k at p;induction p generalizing l with
 |nil=>
  simp_all
 |@cons x m k _ ih=>
  cases l with
  |nil=>cases e
  |cons a l=>
   rw[dN,acH] at e
   obtain⟨c,g,rfl⟩:=ih e.2
   exact#[_,g.cons a,by simp_all]
 |swap x y m=>
  cases l with
  |nil=>cases e
  |cons a l=>
   cases l with
   |nil=>cases e
   |cons b l=>
    exact#[_,acY a b l,by simp_all]
 |trans _ _ ih1 ih2=>
  obtain⟨i,p2,e2⟩:=ih2 e
  obtain⟨d,p1,e1⟩:=ih1 e2.symm
  exact#[d,p1.trans p2,e1]
theorem anz(x:Str×Str)(ps:029)(z:Str):kJ (x::ps) z=if x.1=z then aa x.2 else kJ ps z:=by
 unfold kJ
 grind
theorem yM:∀{ps:029}{z w:Str},(ps.map (·.1)).Nodup->(kJ ps z=aa w↔(z,w)∈ps)
 |[],z,w,_=>by simp[kJ]
 |x::ps,z,w,h=>by
  rw[dN,lM] at h;rw[anz];by_cases a:x.1=z
  .grind
  .rw[cC a,yM h.2]
   grind
theorem anA(p:ps'.Perm ps)(h:(ps.map (·.1)).Nodup)(z:Str):kJ ps' z=kJ ps z:=by
 have h':=(p.map _).nodup_iff.mpr h;cases e:kJ ps z with
 |some w=>exact(yM h').mpr (p.mem_iff.mpr ((yM h).mp e))
 |none=>
  cases e':kJ _ z with
  |none=>rfl
  |some w=>
   have:=(yM h).mpr (p.mem_iff.mp ((yM h').mp e'))
   lia
theorem WT(h:iU zs ps):ps.map (·.1)=zs.take ps.length:=by
 apply aco;intro i;rw[jN,ab9];cases e:ps[i]? with
 |none=>
  grind
 |some x=>
  rw[bZ (lW.mp e).1,(h i x e).1];rfl
theorem Fx(hN:054)(h:iU zs ps):(ps.map (·.1)).Nodup:=by
 rw[WT h];exact hN.1.sublist (U5 _ _)
theorem WW(hN:054)(h:iU zs ps)(hz:z∈ps.map (·.1)):nameB z=aq:=by
 rw[WT h] at hz;exact hN.2 z (Eo hz)
theorem aea(hN:054)(h:iU zs ps):kJ ps (gV "")=aj:=by
 cases e:kJ ps _ with
 |none=>rfl
 |some w=>
  have:=(yM (Fx hN h)).mp e;have:=WW hN h (dG.mpr #[_,this,rfl]);trivial
def zT(f:Str->Option Str):Nat->Str->List Str
 |0,_=>[]
 |n+1,z=>match f z with
  |none=>[]
  |some y=>z::zT f n y
def up(ps:029)(z:Str):List Str:=zT (kJ ps) (ps.length+1) z
theorem Yg(h:f z=aj):∀n,zT f n z=[]
 |0=>rfl
 |n+1=>by unfold zT;simp_all
theorem afx(h:f z=aa y)(n:Nat):zT f (n+1) z=z::zT f n y:=by
 rw[zT,h]
theorem agQ:∀n z,(zT f n z).length<=n
 |0,_=>cH 0
 |n+1,z=>by
  cases h:f z with
  |none=>rw[Yg h];simp
  |some y=>
   rw[afx h];exact Vb (agQ n y)
theorem agR(hN:054)(hP:iU zs ps):∀(n i:Nat),i<n->∀x,ps[i]?=aa x->Over (kJ ps) x.1 (zT (kJ ps) n x.1)
 |0,_,h,_,_=>absurd h (Ey _)
 |n+1,i,h,x,hx=>by
  have e:=(yM (Fx hN hP)).mpr (pZ hx);rw[afx e];refine .step e ?_
  rcases(hP i x hx).2 with h2|⟨j,b,h2⟩
  .rw[h2,Yg (aea hN hP)];exact .stop (aea hN hP)
  .have hi:=(lW.mp hx).1;have a:j<ps.length:=c4;have g:=hP j _ (mH a);have e2:=by
    have:=g.1;rw[h2] at this
    exact(nO this).symm
   rw[<-e2];exact agR hN hP n j aK _ (mH _)
theorem Y5(hN:054)(hP:iU zs ps)(z:Str):Over (kJ ps) z 022:=by
 unfold up;cases e:kJ ps z with
 |none=>
  rw[Yg e];exact .stop e
 |some w=>
  obtain⟨i,hi,a⟩:=wQ ((yM (Fx hN hP)).mp e)
  have:=agR hN hP (ps.length+1) i c4 _ (mH hi)
  simp_all
theorem ZS(ps:029)(z:Str):(022).length<=ps.length+1:=agQ _ _
def bI(l:List (Str×az)):List (az×az):=l.map λp=>(.str p.1,p.2)
theorem CV:∀l:List (Str×az),cO fO (bI l)=aa (l.map λp=>.inr p.1)
 |[]=>rfl
 |p::l=>by
  rw[show bI _=(.str _,p.2)::bI l from rfl];unfold cO;rw[CV l];rfl
theorem yU(x z:Str):(fO (.str x)=aa (.inr z))↔x=z:=by
 simp[fO]
theorem aeA(z:Str):∀l:List (Str×az),pM fO (.inr z) (bI l)=(l.find? λp=>decide (p.1=z)).map (·.2)
 |[]=>rfl
 |p::l=>by
  show(if fO _=aa _ then aa _ else pM _ _ (bI l))=_
  rw[alV];by_cases h:p.1=z
  .rw[bZ ((yU _ _).mpr h),f9 h];rfl
  .rw[cC (λe=>h ((yU _ _).mp e)),jz h,aeA z l]
theorem Xh(l:List (Str×az))(z:Str):n6 (bI l) (.str z)=aa ((l.find? λp=>decide (p.1=z)).map (·.2)):=by
 show(if(cO _ _).isSome then aa _ else aj)=_
 rw[CV,aeA];rfl
theorem afy(h:z∉l.map (·.1)):pU fO (.inr z) (.str z) d (bI l)=bI (l++[(z,d)]):=by
 unfold pU;rw[cC,bI,bI,kj]
 .rfl
 .rw[U9,ald];intro p b
  obtain⟨q,a,rfl⟩:=dG.mp b
  have:=λe=>h (dG.mpr #[q,a,(yU _ _).mp e])
  lia
theorem QS(h:z∉l.map (·.1)):putD (bI l) (.str z) d=aa (bI (l++[(z,d)])):=by
 show(if(cO _ _).isSome then aa _ else aj)=_
 rw[CV,afy h];rfl
theorem apQ(ps:029)(g:Str×Str->α)(z:Str):((ps.map λp=>(p.1,g p)).find? λp=>decide (p.1=z)).map (·.2)=(ps.find? λp=>decide (p.1=z)).map g:=by
 rw[acZ,Jg];rfl
theorem oN(D:α->az)(p:α->Bool)(g:α->az):∀{l:List α},(∀a∈l,∃ts,yr T (D a)=aa ts/\ft (gK ts++fs) C=aa (p a,C)/\(p a=aq->∃x e,fe (gK ts++fs) C=aa (x,e,C)/\still x=.im (g a)))->
  jy T ft fe fs (l.map D) C=aa ((l.filter p).map g,C)
 |[],_=>rfl
 |d::r,h=>by
  obtain⟨ts,h1,h2,c⟩:=h d fV
  have b:=oN D p g λd m=>h d (fU _ m)
  rw[dN];unfold jy
  exact c8
section
variable{prog:dY}{w:cW}{A:fB}{E:aL->bf->Prop}{R:Dk->bf->Prop}{s:bf}
theorem aos(h:Q 048 {s with heap:=s.heap.push (Lh w)}):bH 09 A (newSet (.type "set")) Q E s:=by
 exact aQ (aQ (Va (bM (aQ (wpAny_alloc (bM h))))))
theorem aot{rest:List Comprehension}{scope:kI}{pos:Pos}{it bu:aL}{ao:Env}(b:nQ 09 A (.compLoop (.SetComp elt (#[target,iter,ifs,0]::rest) scope pos) 0 it bu ao) R s)
  (h:bH 09 A (G6 it) (λa s'=>nQ 09 A (.compLoop (.SetComp elt (#[target,iter,ifs,0]::rest) scope pos) 0 a bu ao) R s') (notedBy 09 A ao λx s'=>R (.error x) s') s):
  nQ 09 A (.compStart (.SetComp elt (#[target,iter,ifs,0]::rest) scope pos) 0 it bu ao) R s:=by
 refine codeAny_of_tree (wpAny_notedAt ((aQ (Va (wpAny_ite ?_)))));split
 ·(exact aQ (bM (bM #[rfl,b])))
 ·(exact aQ (wZ (aQ (Ab (aQ (vq h (λa s' h'=>bM #[rfl,h']) λk k x=>x))))))
variable{T:Type}[DecidableEq T]{knd:Aa prog w T}
theorem amZ(g:knd.is k key=aq)(e:key.scannable=aq)(f:tK knd s.heap a ks)(b:ks.length+1<ug)
  (h:∀h',vg a s.heap h'->tK knd h' a (oA ks k)->Q .none {s with heap:=h',toks:=s.toks+1}):bH 09 A (call (.builtin "set.add") [.ref a,key]) Q E s:=by
 refine pC F.slot_set_add f.ty F.entry_set_add ?_ (F.args_set_add_2 _ _);unfold qg.«set.add» ayu;simp only[alL,bind_assoc];exact aQ (bM (aQ (bM (aQ (m9 (aQ (knd.pyHash g (aq6 (knd:=knd) (s:={s with toks:=s.toks+1}) g e f b λ_ h' d c=>((show bH _ _ (ret vp) _ _ _ from bM #[_,rfl,h h' d c]))))))))))
end
section
variable{P:dY}{w:cW}{T0:Type}[DecidableEq T0](knd:Aa P w T0)(mk:T0->V)
abbrev SO(a:aH)(ks:List T0):HO:=.ext λh=>tK knd h a ks
def aat(D:aH)(te:TE):TM:=λσ H Q=>te σ H λy H1=>∃ks k,H1 D=aa (SO knd D ks)/\y=mk k/\ks.length+1<ug/\Q (upd H1 D (SO knd D (oA ks k)))
theorem aiz(x:tK knd h a ks):mX P w H h a (SO knd a ks):=
 #[x,let ⟨o,_,_,_,e,_⟩:=x;#[o,e],λk k y e=>y.at e]
def tSC(K:bw)(wi:TI)(T:kW)(ts:Bk->TT)(te:Bk->TE)(js:051):TE:=λσ H Q=>wi σ H λJ H1=>∀D,H1 D=aj->∀b,Bj K T (ts b) (aat knd mk D (te b)) (frees js σ) J (upd H1 D (SO knd D [])) (Q (.ref D))
end
section
variable{X:Cx}{T0:Type}[DecidableEq T0]{knd:Aa X.prog X.w T0}{mk:T0->V}{NT NF:List Str}{js:List Nat}{elt tg iter:Expr}{ifs:List Expr}{T:kW}{wi:TI}{ts:Bk->TT}{te:Bk->TE}{scope:kI}{pos:Pos}
theorem atV(g:∀k v,RelV (mk k) v->knd.is k v=aq/\v.scannable=aq)(he:PE X elt t):PM X (do let v <-eval elt X.env;xx elt.pos;let _ <-call (.builtin "set.add") [.ref D,v]) (aat knd mk D t):=by
 intro aC s σ H Q I h;refine aQ (cz (he _ s σ H _ I h) λv s1 i=>hide λGG f=>?_)
 obtain⟨y,H1,c,m,ks,k,b,j,d,q⟩:=i
 subst j
 obtain⟨n,_,_⟩:=c.hok D _ b
 obtain⟨l,p⟩:=g _ _ m
 exact f (aQ (Ab (aQ (amZ l p n d λh' same a=>bM #[_,yQ c (by rw[b];trivial) same (let ⟨o,_,_,_,e,_⟩:=a;#[o,e]) (aiz _ a),q]))))
theorem atX{σ:St}{a:bf}{H2:Hp}{cl:List (Str×aH)}{it:aH}{fp:040}{tn:Nat->cF->Prop}{J:It}{Q:Hp->Prop}{RR:aL->aH->Dk->bf->Prop}
  (I:∀k v,RelV (mk k) v->knd.is k v=aq/\v.scannable=aq)(B:031)(M:qZ tg NT T)(P:035)
  (hin:∀b,pX (X.bk (NT++NF) scope b) ifs (ts b)/\PE (X.bk (NT++NF) scope b) elt (te b))
  (F:∀n c,cl.lookup n=aa c->X.env.cells.lookup n=aa c)(H:∀y∈scope.names,y.2=.free->∃c,cl.lookup y.1=aa c)
  (D:Inv X aC σ H2 a)(TT:Turn X.prog X.w X.K tg J fp it tn)(j:tn 0 a.heap)(A:∀b∈fp,mC X aC H2 b)
  (q:∀b,Bj X.K T (ts b) (aat knd mk a.heap.objs.size (te b)) (frees js σ) J (upd H2 a.heap.objs.size (SO knd a.heap.objs.size [])) Q)
  (N:∀C H' s' m,Inv X aC σ H' s'->mC X aC H' C->s'.heap.Ns C m->Q H'->RR (.ref a.heap.objs.size) C (.ok .next) s'):
  bH (model X.prog X.w) X.A (newSet (.type "set")) (λbu s₃=>bH (model X.prog X.w) X.A (Ny scope X.env.globals cl [] X.env.qual aj .none (aa X.env)) (λcenv s4=>
   nQ (model X.prog X.w) X.A (.compStart (.SetComp elt [⟨tg,iter,ifs,0⟩] scope pos) 0 (.ref it) bu {cenv with scope:=relabel scope X.env}) (RR bu cenv.locals) s4) E s₃) E a:=by
 refine aos ?_;have i:=
  D.laid (t':=a.toks) (λb o e=>dF _ e) 046 (aiz knd (atr (ji _ rfl)))
 have t:(a.heap.push (Lh X.w)).objs.size=a.heap.objs.size+1:=yH ..;refine nfe i B F H λuU h₁ cb hns1 keep=>?_
 have w:∀b∈fp,b<a.heap.objs.size:=λb d=>by
  obtain⟨o,e,_⟩:=TT.obj 0 _ j b d
  exact dj e
 have g:∀b∈fp,mC X _ (upd H2 _ (SO knd a.heap.objs.size [])) b:=λb d=>#[by rw[di (fH (w b d))];exact(A b d).1,(A b d).2]
 have r:∀b∈fp,b<(a.heap.push _).objs.size:=λb d=>by have:=w b d;rw[t];exact yC this
 have G:=i.blk (s1:={a with heap:=h₁}) B cb g r hns1 keep rfl D.bare;have u:=TT.keep 0 _ _ j λb _ o e=>keep b o (dF _ e)
 obtain⟨O,S⟩:=hin #[_,_,_,upd H2 _ _,fp]
 have f:nQ (model X.prog X.w) X.A (.compLoop (.SetComp elt [#[tg,iter,ifs,0]] scope pos) 0 (.ref it) (.ref a.heap.objs.size) (XD scope uU (a.heap.push (Lh X.w)).objs.size X.env))
   (RR (.ref a.heap.objs.size) (a.heap.push (Lh X.w)).objs.size) {a with heap:=h₁}:=by
  refine XF (X:=X.blk _ _ _ _ _ _ fp)
       rfl (an9 _ tg _ _ _ _ _ _ _) rfl rfl rfl M rfl B.nd P (λx K=>B.loc K) O (atV  I S) TT (λb d=>?_) G u (q _) λH' s' F' J' qd=>?_
  .exact⟨(g b d).1,fH (r b d),λl=>by
    rcases cB.mp (i.G3 b l) with z|z
    .exact(g b d).2.1 z
    .exact(g b d).2.2.1 z,.inl d,λx c e=>cb.ne (g b d) (r b d) e,λp L=>(nomatch(L))⟩
  .obtain⟨m,R,_⟩:=J'.loc
   exact N _ H' s' m (i.aao g J') (i.xZ 046 J'.free) R qd
 exact aot f (TT.self _ 0 _ _ _ u f)
theorem au8(p:∀k v,RelV (mk k) v->knd.is k v=aq/\v.scannable=aq)(B:031)(w:qZ tg NT T)(z:035)(hi:PI X tg iter wi)
  (hin:∀b,pX (X.bk (NT++NF) scope b) ifs (ts b)/\PE (X.bk (NT++NF) scope b) elt (te b))
  (hs:∀x,tY iter X.env x=pure x:=by intro _;rfl):PE X (.SetComp elt [#[tg,iter,ifs,0]] scope pos) (tSC knd mk X.K wi T ts te js):=by
 intro aC s σ H Q I h
 obtain⟨cl,a,i,n⟩:=Pr λy l e=>I.ok.has _ (B.free y l e)
 refine Ux rfl hs a B.kind B.names (cz (hi _ s σ H _ I h) λv s1 h1=>cz h1 λu f r=>hide λGG j=>?_)
 obtain⟨it,fp,tn,J,H2,e,g,TT,d,D,q⟩:=r
 subst e;exact j (atX   p B w z hin i n g TT d D (q _ (g.hok.fresh 046)) λC H' s' m F c E A=>(#[m,E,λh' sb=>#[.ref _,H',(F.turned (λb o t e=>(sb.2 b t).trans e) c.1 c.2.1 c.2.2.2.1 c.2.2.2.2.1 c.2.2.2.2.2),rfl,A]]))
end
def ahV{P:dY}{w:cW}(t:TE):TE:=λσ H Q=>t σ H λx H2=>∃D ks,x=.ref D/\H2 D=aa (SO (adk P w) D ks)/\ks.length<64/\∀(D':aH)(ns':014),H2 D'=aj->ns'.Perm ks->sortedS ns'=aq->Q (.ref D') (upd H2 D' (.lst (ns'.map V.str)))
theorem apR(hc:035)(hl:PE X e t)(F:Gl X "sorted")(E:X.mg "sorted"=aj)
  (he:bV [e] X.env=(010 e)::bV [] X.env:=by rfl)(f:(jx pos1 (bV [] X.env)).any (·.1)=aR:=by rfl):PE X (.Call (.Name "sorted" p1) [e] [] pos1) (ahV (P:=X.prog) (w:=X.w) t):=by
 intro aC s σ H Q I h;refine Iv (yV I F E (u:=.builtin "sorted") rfl (abK ?_ he f));rw[he];refine BR (cz (hl aC s σ H _ I h) λv s1 ⟨y,H1,b,G,D,ks,N,S,U,q⟩=>Iz ?_);subst N;cases G;refine hide λGG Y=>?_
 obtain⟨⟨o,es,ep,t,ho,ex,R,⟨L,r,z⟩,hb,C,tb⟩,_,_⟩:=b.hok D _ S
 obtain⟨e1,e2⟩:=apx r
 have few:es.size<64:=by
  rw[<-p6,r.len,z.length_eq];lia
 refine Y (ant (Ok:=λout=>∃ns',StrsAre out ns'/\ns'.Perm ks/\sortedS ns'=aq) (b.ok.hd hc) #[o,ho,ex,R,C,tb] few (λus k B s2 a n P E' j O=>?_) λD h' d W c out ok A T Z=>?_)
 .have i:StrsAre us (us.map strOf):=strsAre_map us λv M=>(let ⟨x,t,h⟩:=e2 v (k.mem_iff.mp M);#[x,t,h])
  refine list_sort_treeK strKind_oneLt j i.keysOf (λv1 v2 rest e=>keyKind_strs (by rw[<-e];exact i)) (by rwa [k.length_eq,bR,p6]) λst g m=>?_
  obtain⟨l,b1,b2,b3⟩:=sorted_out_str i g m
  exact O _ #[l,b1,b2.trans ((k.map strOf).trans (by rw[e1];exact z)),b3]
 .obtain⟨ns',a1,p,J⟩:=ok
  have K:ns'.length<=cG:=by
   rw[p.length_eq,jV];lia
  exact#[.ref D,_,(b.laid (o:=.lst (ns'.map V.str)) (t':=W) T A #[by rw[bR];exact K,out.toList,c,P0 a1,by simpa[seqObj] using Z]).drew d,rfl,q D ns' (b.hok.fresh A) p J]
def Mv(fi:FI)(T:kW)(ft:FT)(fe:FE)(js:051):FE:=λao C=>match fi ao C with
 |some (aN,e1,C1)=>match jy T ft fe (frB js e1) aN C1 with
  |some (ys,C2)=>match QL ys with
   |some l=>aa (.ow (.list l),ao,C2)
   |none=>aj
  |none=>aj
 |none=>aj
def ai8(fe:FE):En->List Str->Ce->Option (List Str×Ce):=λao bu C=>(fe ao C).bind λq=>(wF (still q.1)).bind λy=>(Sw y).bind λz=>bif decide (bu.length<64) then aa (bu++[z],q.2.2) else aj
theorem Y6:∀{aN:036}{ys bu:014}{C:Ce},jy T ft fe fs aN C=aa (ys.map .str,C')->bu.length+ys.length<=64->xR T ft (ai8 fe) fs aN bu C=aa (bu++ys,C')
 |[],ys,bu,C,h,_=>by
  cases ys with
  |cons _ _=>cases(h)
  |nil=>
  cases(h);rw[jg];rfl
 |d::r,ys,bu,C,h,hl=>by
  unfold jy at h;unfold xR;split at h
  case h_2=>cases h
  rename_i ht;rw[ht,ir];split at h
  case h_3=>cases h
  .rename_i a;rw[a];exact Y6 h hl
  .rename_i a;rw[a,ir];split at h
   case h_2=>cases h
   rename_i C2 b;split at h
   case h_2=>cases h
   rename_i e;split at h
   case h_2=>cases h
   rename_i c;cases ys with
   |nil=>cases(h)
   |cons w ys=>
   injection h with h
   injection h with h1 h2
   injection h1 with h1 h3
   subst h1 h2 h3;rw[eZ] at hl;unfold ai8;rw[b,ir,e,show wF _=aa _ from rfl,f9 aK,show bu++w::ys=(bu++[w])++ys by simp_all];exact Y6 c (by rw[fW];show bu.length+1+_<=_;lia)
theorem arx{w:cW}{K:bw}{fi:FI}{T:kW}{ft:FT}{fe:FE}:∀σ H Q,tE K (Mv fi T ft fe js) σ H Q->ahV (P:=P) (w:=w) (tSC (adk P w) V.str K (tI K aq fi) T (λ_=>gY K ft) (λ_=>tE K fe) js) σ H Q:=by
 rintro σ H Q ⟨Z,Θ,ao,C,res,bK,C',S,hf,q⟩;unfold Mv at hf;refine hide λGG h=>?_
 split at hf
 case h_2=>lia
 rename_i L e1 C1 h1;split at hf
 case h_2=>lia
 rename_i C2 h2;split at hf
 case h_2=>lia
 rename_i hs;cases(hf);unfold QL at hs;split at hs
 case isFalse=>lia
 rename_i hl;split at hs
 case h_2=>trivial
 rename_i ns j;cases hs;have k:=Yc j;subst k;rw[bR] at hl;refine h (#[Z,Θ,ao,C,L,e1,C1,S,h1,λJ H1 G X t it D e b=>?_]);have d:=λm=>(t.cell.dom D m).ne e
 refine X6 (a0:=[]) (Ob:=λbu g=>g D=aa (SO _ D (dedup bu))) t it e fj (λa g Hy c r=>c.keep _ _ r d) (λa g r=>#[_,r,λ_ z=>nomatch z]) ?_ (Y6  h2 (by rw[acD];lia)) λH2 F B r=>?_
 .intro ts bu C2 p vs Y Q hs M E u x;refine hide λGG h=>?_
  obtain⟨w,n,hs⟩:=dB hs
  obtain⟨yd,o,hs⟩:=dB hs
  obtain⟨z,f,hs⟩:=dB hs
  have o:=G8 o;have f:=arb f;subst f;cases hlt:decide (bu.length<64) with
  |false=>rw[hlt] at hs;cases hs
  |true=>
  rw[hlt] at hs;cases hs;refine h (#[_,Θ,_,C2,_,_,_,M,n,λy v i U A=>?_])
  obtain⟨R,N⟩:=A.xQ o
  have O:=aet bu
  exact#[_,z,i.keep _ _ u d,N,by unfold ug;lia,x _ (ZJ (Hy:=v) e (E.trans i)) (JD d (λ_ z=>by rw[i.keep _ _ u d] at z;cases z) R.cell) (by rw[anm];exact fj)]
 .have c:=G.trans F;have O:=aet ns
  refine#[D,dedup ns,rfl,r,c4,λW ns' s p I=>?_]
  rw[ZP p I];exact q _ _ (c.trans (bL.upd s)) 024 ((qN (S.go c B) (XX _) s).from c)
theorem au9{X:Cx}{NT NF:014}{js:051}{ifs:057}{T:kW}{fi:FI}{ft:FT}{fe:FE}{scope:kI}{pos p1 pos1:Pos}(B:031)(f:qZ tg NT T)(c:035)(e:Gl X "sorted")(d:X.mg "sorted"=aj)(hi:PI X tg iter (tI X.K aq fi))
  (hin:∀b,pX (X.bk (NT++NF) scope b) ifs (gY X.K ft)/\PE (X.bk (NT++NF) scope b) elt (tE X.K fe))
  (hs:∀x,tY iter X.env x=pure x:=by intro _;rfl)
  (he:bV [.SetComp elt [#[tg,iter,ifs,0]] scope pos] X.env=(010 (.SetComp elt [#[tg,iter,ifs,0]] scope pos))::bV [] X.env:=by rfl)(a:(jx pos1 (bV [] X.env)).any (·.1)=aR:=by rfl):
  PE X (.Call (.Name "sorted" p1) [.SetComp elt [#[tg,iter,ifs,0]] scope pos] [] pos1) (tE X.K (Mv fi T ft fe js)):=
 (apR c (au8 (λk v r=>by obtain⟨t,rfl⟩:=r;exact#[PySem.strKind_is _ _ _ _,rfl]) B f c hi hin hs) e d he a).weak arx
theorem Lr(x:α)(r:List α):eX (x::r) 0=aa x:=Aj rfl
theorem Ls(a x:α)(r:List α):eX (a::x::r) 1=aa x:=Aj rfl
theorem aaS(a b x:α)(r:List α):eX (a::b::x::r) 2=aa x:=Aj rfl
theorem ai9(a b c x:α)(r:List α):eX (a::b::c::x::r) 3=aa x:=Aj rfl
theorem awa(a b c d x:α)(r:List α):eX (a::b::c::d::x::r) 4=aa x:=Aj rfl
theorem awb(a b c d e x:α)(r:List α):eX (a::b::c::d::e::x::r) 5=aa x:=Aj rfl
theorem awc(a b c d e f x:α)(r:List α):eX (a::b::c::d::e::f::x::r) 6=aa x:=Aj rfl
theorem ava(op:az->az->Option Vl)(a b:FB)(ao:En)(C:Ce):aX op a b ao C=(a ao C).bind λp=>(b p.2.1 p.2.2).bind λq=>(op p.1 q.1).bind λr=>aa (r,rst r ao q.2.1,q.2.2):=by
 unfold aX
 exact c8
theorem avb(f:FE)(ao:En)(C:Ce):aG f ao C=(f ao C).bind λp=>(dat p.1).map λd=>(d,p.2.1,p.2.2):=by
 unfold aG
 grind
theorem awd(i:Nat)(ao:En)(C:Ce):aM i ao C=(ao[i]?).bind λo=>o.bind λx=>(dat x).map λd=>(d,ao,C):=by
 unfold aM;rcases ao[i]? with _|(_|x)<;>rfl
theorem avc(f g:FT)(ao:En)(C:Ce):qT f g ao C=(f ao C).bind λp=>if p.1 then g ao p.2 else aa (aR,p.2):=by
 unfold qT
 grind
theorem awe(f g:FT)(ao:En)(C:Ce):sE f g ao C=(f ao C).bind λp=>if p.1 then aa (aq,p.2) else g ao p.2:=by
 unfold sE
 grind
theorem avd(f:FT)(ao:En)(C:Ce):su f ao C=(f ao C).map λp=>(!p.1,p.2):=by
 unfold su
 grind
theorem awf(c:FT)(f g:FS)(ao:En)(C:Ce):jn c f g ao C=(c ao C).bind λp=>if p.1 then f ao p.2 else g ao p.2:=by
 unfold jn
 grind
theorem ave(c:FT)(f g:FE)(ao:En)(C:Ce):q9 c f g ao C=(c ao C).bind λp=>if p.1 then f ao p.2 else g ao p.2:=by
 unfold q9
 grind
theorem aiA(op c:az->az->Option Vl)(d e f:FB)(h1:d ao C=aa (x,e1,C1))(h2:e e1 C1=aa (y,e2,C2))(g:op x y=aa (.im (.bool a)))(h:f e2 C2=aa (z,e3,C2))(i:c y z=aa (.im (.bool b))):Bm op c d e f ao C=aa (.im (.bool (a&&b)),ao,C2):=by
 unfold Bm;simp_all;cases a with
 |false=>rfl
 |true=>rfl
theorem awg(d:az)(e f:En):rst (.ow d) e f=f:=rfl
theorem atY(b:Bool)(e f:En):rst (.im (.bool b)) e f=e:=rfl
theorem avf(i:Int)(e f:En):rst (00 i) e f=e:=rfl
theorem avh(z:Str)(e f:En):rst (000 z) e f=e:=rfl
theorem awh(l r:036)(e f:En):rst (.im (.tuple (.list l::r))) e f=f:=rfl
theorem add_int(i j:Int):cZ (.int i) (.int j)=aa (00 (i+j)):=rfl
theorem sub_int(i j:Int):Az (.int i) (.int j)=aa (00 (i-j)):=rfl
theorem le_int(i j:Int):tL (.int i) (.int j)=aa (.im (.bool (decide (i<=j)))):=rfl
theorem lt_int(i j:Int):zG (.int i) (.int j)=aa (.im (.bool (decide (i<j)))):=rfl
theorem ge_int(i j:Int):Sy (.int i) (.int j)=aa (.im (.bool (decide (j<=i)))):=rfl
theorem gt_int(i j:Int):zH (.int i) (.int j)=aa (.im (.bool (decide (j<i)))):=rfl
theorem eq_int(i j:Int):j5 (.int i) (.int j)=aa (.im (.bool (i==j))):=rfl
theorem eq_bool(a b:Bool):j5 (.bool a) (.bool b)=aa (.im (.bool (a==b))):=rfl
theorem ne_bool(a b:Bool):j6 (.bool a) (.bool b)=aa (.im (.bool (!(a==b)))):=rfl
theorem ne_int(i j:Int):j6 (.int i) (.int j)=aa (.im (.bool (!(i==j)))):=rfl
theorem avi(ds:036):jY [.list ds]=aa (.im (.int ds.length)):=rfl
theorem avj(ds:036):jY [.tuple ds]=aa (.im (.int ds.length)):=rfl
theorem awi(ds:036)(i:Int):bW (.tuple ds) (.int i)=(eX ds i).map .im:=rfl
theorem awj(ds:036)(i:Int):bW (.list ds) (.int i)=(eX ds i).map .im:=rfl
theorem add_l(h:xs.length+ys.length<=1000000):cZ (.list xs) (.list ys)=aa (005 (xs++ys)):=bZ h
theorem R0(h:xs.length+ys.length<=1000000):cZ (.tuple xs) (.tuple ys)=aa (.im (.tuple (xs++ys))):=by
 cases xs with
 |nil=>rfl
 |cons x xs=>exact bZ h
theorem xU{i:Nat}(h:ds[i]?=aa d):bW (.tuple ds) (.int i)=aa (.im d):=by
 simp only[bW,wG,Aj h,mU]
theorem avk(h:oV):bW (kE h) (.int 0)=aa (.im (.tuple (h.ps.map Bd))):=xU rfl
theorem avl(h:oV):bW (kE h) (.int 1)=aa (.im (.tuple (h.Du.map zq))):=xU  rfl
theorem avm(h:oV):bW (kE h) (.int 2)=aa (.im (.tuple (h.leaves.map bU))):=xU rfl
theorem avn(h:oV):bW (kE h) (.int 3)=aa (.im (.tuple (h.rules.map aas))):=xU  rfl
theorem avo(r:xT):bW (zq r) (.int 0)=aa (.im (.int r.1)):=xU  rfl
theorem avp(r:xT):bW (zq r) (.int 1)=aa (.im (.str r.2.1)):=xU  rfl
theorem avq(r:xT):bW (zq r) (.int 2)=aa (.im (.int r.2.2.1)):=xU  rfl
theorem avr(r:xT):bW (zq r) (.int 3)=aa (.im (.str r.2.2.2.1)):=xU  rfl
theorem avs(r:xT):bW (zq r) (.int 4)=aa (.im (.int r.2.2.2.2.1)):=xU  rfl
theorem avt(r:xT):bW (zq r) (.int 5)=aa (.im (.int r.2.2.2.2.2)):=xU  rfl
theorem Lw(c:-1000000<=m)(h1:m<=1000000)(a b:α):(if -(2^62)<=m/\m<2^62 then a else b)=a:=bZ aK
theorem gm(en:En)(d:xs.length=k)(he:xs.map aa++fX (n-xs.length) aj=en)(h:(body en C).map (λp=>(p.1,p.2.2))=aa (.rt r,C1))(c:Hz C.length r=aq)(b:C1.length=C.length):fN k n body xs C=aa (r,C1):=by
 unfold fN;rw[bZ d,he];cases hb:body en C with
 |none=>simp_all
 |some p=>
  rw[hb] at h
  obtain⟨a,e1,C2⟩:=p
  have h:(a,C2)=(Fl.rt r,C1):=nO h;injection h with h1 h2
  subst h1 h2;simp only[c,if_true,agL b]
theorem letters(k:Int)(a:0<=k)(h1:k<26):wG (.str abc) (.int k)=aa (.str #[#v[97+k.toNat]]):=by
 have e:=atO a h1;have hl:abc.length<=fG:=bG;simp only[wG]
 simp_all
theorem Jw:∀zs:List Str,strsOf (zs.map gR)=aa zs
 |[]=>rfl
 |z::zs=>by
  show(match strsOf _ with|some t=>aa _|none=>aj)=_
  rw[Jw zs]
theorem WX:∀ns:List Int,intsOf (ns.map kZ)=aa ns
 |[]=>rfl
 |n::ns=>by
  show(match intsOf _ with|some t=>aa _|none=>aj)=_
  rw[WX ns]
theorem Xi:∀zs:List Str,gJ (zs.map gR)=aq
 |[]=>rfl
 |z::zs=>by
  show(aq&&gJ _)=aq
  rw[Xi zs];rfl
theorem anB:∀cs:List Nat,gJ (cs.map λc=>gR #[#v[c]])=aq
 |[]=>rfl
 |c::cs=>by
  show(aq&&gJ _)=aq
  rw[anB cs];rfl
theorem adA:∀cs:List Nat,strsOf (cs.map λc=>gR #[#v[c]])=aa (cs.map λc=>(#[#v[c]]:Str))
 |[]=>rfl
 |c::cs=>by
  show(match strsOf _ with|some t=>aa _|none=>aj)=_
  rw[adA cs];rfl
theorem aou:(gV "").length=0:=rfl
theorem ne_nil(zs:014)(hz:∀z∈zs,nameB z=aq):j6 (.list (zs.map .str)) (.list [])=aa (.im (.bool (!zs.isEmpty))):=by
 have s1:=amY λz m=>CJ (hz z m)
 have n1:iK (.list _)=aq:=(Ye λz m=>CJ (hz z m)).2.2;have e:uV (.list (zs.map .str)) (.list [])=aa zs.isEmpty:=by
  show(if iK _&&iK _&&(jk _&&jk _) then aa _ else aj)=_
  rw[n1,s1];cases zs<;>rfl
 simp only[j6,e,mU]
theorem afz(r:Vl)(e:En):rst r e e=e:=by
 cases r<;>simp[rst]
theorem arz{ns:028}(h:(ns.map kZ)[i]?=aa d):∃x,d=.int x/\ns[i]?=aa x/\x∈ns/\i<ns.length:=c8
theorem take_snoc{ns:028}(h:ns[i]?=aa x):ns.take (i+1)=ns.take i++[x]:=by
 rw[List.take_add_one,h];rfl
theorem K1(c:xs.length=k)(he:xs.map aa++fX (n-xs.length) aj=en)(h:body en C=aa (.rt r,e1,C1))(b:Hz C.length r=aq)(a:C1.length=C.length):fN k n body xs C=aa (r,C1):=by
 unfold fN;rw[bZ c,he,h];simp only[b,if_true,agL a]
theorem Xj:∀zs:List Str,(zs.map gR).all nA=aq
 |[]=>rfl
 |z::zs=>by
  rw[dN,Jh,Xj zs];rfl
theorem arA(z:Str)(zs:014):lC (.str z) (.list (zs.map .str))=aa (.im (.bool (decide (z∈zs)))):=by
 have:inB (.str z) (.list (zs.map _))=aa _:=bZ (by rw[Xj];rfl);unfold lC;rw[this,QM];rfl
theorem arB(x z:Str):j5 (.str x) (.str z)=aa (.im (.bool (decide (x=z)))):=rfl
theorem GF(x z:Str):j6 (.str x) (.str z)=aa (.im (.bool (!decide (x=z)))):=rfl
def cD(q:029):List (Str×az):=q.map λp=>(p.1,.str p.2)
theorem afA:∀q,pW (bI (cD q))=aq
 |[]=>rfl
 |x::q=>by
  show(aq&&pW (bI (cD q)))=aq
  rw[afA q];rfl
theorem QT(q:029)(z:Str):n6 (bI (cD q)) (.str z)=aa ((kJ q z).map .str):=by
 rw[Xh];unfold cD kJ;rw[apQ,Jg];rfl
theorem Gj:∀l:List Int,gJ (l.map kZ)=aq
 |[]=>rfl
 |x::l=>by
  show(aq&&gJ _)=aq
  rw[Gj l];rfl
theorem aeb:∀(n:Nat),zp [.list (fX n (.bool aq))]=aa (.im 037)/\gJ (fX n 037)=aq:=by
 intro n;have h:boolsOf (fX n (.bool aq))=aa (fX n aq)/\gJ (fX n 037)=aq:=by
  induction n with
  |zero=>exact#[rfl,rfl]
  |succ n ih=>
   rw[M8,M8]
   refine#[?_,?_]
   .unfold boolsOf
    simp_all
   .show(aq&&gJ _)=aq
    lia
 unfold zp
 simp_all
theorem aeB:∀ps:List (Str×Str),jP (ps.map Bd)=aq
 |[]=>rfl
 |p::ps=>by show(aq&&jP _)=aq;rw[aeB ps];rfl
theorem aeC:∀ps:List xT,jP (ps.map zq)=aq
 |[]=>rfl
 |p::ps=>by show(aq&&jP _)=aq;rw[aeC ps];rfl
theorem aec:∀ps:List cY,jP (ps.map bU)=aq
 |[]=>rfl
 |p::ps=>by show(aq&&jP _)=aq;rw[aec ps];rfl
theorem aeD:∀ps:List KZ,jP (ps.map aiy)=aq
 |[]=>rfl
 |p::ps=>by show(aq&&jP _)=aq;rw[aeD ps];rfl
theorem aeE:∀a:List RW,jP (a.map aas)=aq
 |[]=>rfl
 |r::a=>by
  show((aq&&(aq&&(jP _&&aq)))&&jP _)=aq
  rw[aeE a,aeD];rfl
theorem Qf(h:oV):iK (kE h)=aq:=by
 show(jP _&&(jP _&&(jP _&&(jP _&&aq))))=aq
 rw[aeB,aeC,aec,aeE];rfl
theorem uq{zs:014}{k:Int}(a:0<=k)(h1:k<zs.length):∃z,z∈zs/\zs[k.toNat]?=aa z/\eX (zs.map gR) k=aa (.str z):=by
 obtain⟨x,e1,e2⟩:=ZR (xs:=zs.map gR) a 07
 grind
theorem atZ{α:Type}{f:α->az}{l:List α}{i:Nat}(h:(l.map f)[i]?=aa d):∃x,l[i]?=aa x/\d=f x:=c8
theorem aau(a c:Nat)(h:i<n):a+c*(n-i)=a+c*(n-(i+1))+c:=by
 rw[show n-i=(n-(i+1))+1 by lia,Nat.mul_add,Nat.mul_one,Nat.add_assoc]
theorem at5(a:Nat)(h:i<n):a+(n-i)=a+(n-(i+1))+1:=c4
def Kq:az->az->Option Vl
 |.list xs,.int n=>if 0<=n/\n<=1000/\xs.length<=1000 then aa (.ow (.list (fX n.toNat xs).flatten)) else aj
 |a,b=>mO a b
def aiB:R2:=λx y H Q=>(rI Lg λi j=>.int (i*j)) x y H Q\/aiS x y H Q
theorem arC:dX X (qL .Mult) aiB:=uy.or atg
theorem agS(h:cQ H ds vs):∀n,cQ H (fX n ds).flatten (fX n vs).flatten
 |0=>rfl
 |n+1=>(Gw h (agS h n))
theorem arD{K:bw}:jt K aiB Kq:=by
 intro Z Θ ao C σ H x y dx i res S c b e Q q;unfold Kq at e;split at e
 .rename_i xs n;split at e
  case isFalse=>lia
  rename_i j;cases e
  obtain⟨a,vs,rfl,g,f⟩:=c.lst
  cases b.int;have h:=lg f;refine .inr #[a,n,vs,rfl,rfl,g,c4,c4,?_,λp d=>q _ _ (bL.upd d) (qN S (agS f _) d)];rw[jV,h];have:xs.length*n.toNat<=1000*1000:=al2 j.2.2 aK;lia
 .exact .inl (uA Z Θ _ C σ H x y dx i _ S c b e Q q)
section
variable{X:Cx}
end
def xV(fk:FB)(fv:FE):FE:=λao C=>match fk ao C with
 |some (dk,e1,C1)=>match fv e1 C1 with
  |some (r,e2,C2)=>match fO dk with
   |some _=>match still r with
    |.im d=>aa (.ow (.dict [(dk,d)]),e2,C2)
    |_=>aj
   |none=>aj
  |none=>aj
 |none=>aj
theorem Yh(G:PE X k (eN X.K fk))(E:PE X v (tE X.K fv)):PE X (.Dict [aa k] [v] pos) (tE X.K (xV fk fv)):=
 (aqW (apj G E aqV) rfl rfl 012 (BK rfl)).weak λσ H Q bz=>by
 obtain⟨Z,Θ,ao,C,r,bK,C',S,b,q⟩:=bz
 unfold xV at b;split at b
 case h_2=>cases b
 rename_i dk e1 C1 h1;split at b
 case h_2=>cases b
 rename_i I e2 C2 h2;split at b
 case h_2=>cases b
 rename_i i c;split at b
 case h_2=>cases b
 rename_i d hs;cases(b);intro p f
 refine#[_,Θ,ao,C,dk,e1,C1,S.push f _ (λ_ z=>nomatch z),h1,λx H1 t s J F=>#[_,Θ,e1,C1,I,bK,C',J,h2,λy H2 D B L=>?_]]
 have R:=L.still;rw[hs] at R
 obtain⟨j,rz⟩:=R
 have ex:x=kV i:=by
  cases dk<;>first|(cases c;exact F)|cases c
 have l:=((bL.upd f).trans t).trans D;have w:=λm=>by
  have:=(lM.mp j.nd).1;exact this (jH _ (pB _ m))
 have g:=(t.trans D).keep _ _ fj w
 refine#[g,[(i,y)],by rw[ex];rfl,BK rfl,λep=>?_]
 have A:bL Θ H (upd H2 p (.dK [(i,y)] ep)):=⟨λa o h K=>by
  rw[di (ue h f)];exact l.keep _ _ h K,λa h=>by
  by_cases z:a=p
  .exact absurd (z▸f) h
  .rw[di z];exact l.2 a h⟩
 have c2:jJ Θ C' (upd H2 p (.dK [(i,y)] ep)):=JD w (λ_ z=>by rw[g] at z;cases z) j.cell;refine q _ _ A (s.trans B) #[p,rfl,f,(S.fz (s.trans B)).zm f A #[_,fj,λ_ z=>nomatch z] c2,_,.inl #[[i],?_,ep,fj],y,[],rfl,?_,rfl]
 .unfold cO;rw[c];rfl
 .refine rz.same λa u e=>?_
  unfold er at e⊢;split at e
  .cases e
  .rename_i n
   rwa [cC n,di (λz=>n (by rw[z];exact fV))]
section
variable{prog:dY}{w:cW}{A:fB}{s:bf}{I S:aH}{fp wr:List aH}{n:Nat}{St:Nat->cF->Prop}{bt:Nat->Nat->Bool}{HK:cF->Prop}
theorem arE(W:Ay prog w A.in1 I fp wr n Pv St)(cmp:∀(i j:Nat)(N K:aL)(s:bf)(Q:015)(E:015),HK s.heap->Pv i N->Pv j K->Q (.bool (bt i j)) s->bH 09 A.in1 (Js .Lt N K) Q E s)
  (J:∀h h',HK h->(∀b o,b∉wr->b≠S->h.get? b=aa o->h'.get? b=aa o)->HK h')(out:S∉fp):∀(m j:Nat)(s:bf)(f:aL)(c:Nat),n-(j+1)=m->j+1<=n->St (j+1) s.heap->HK s.heap->Pv (qi bt j) f->s.heap.get? S=aa (au0 f c)->
  (∀v h' u,Pv (qi bt (n-1)) v->(∀b o,b∉wr->b≠S->s.heap.get? b=aa o->h'.get? b=aa o)->R (.ok (.ret v)) {s with heap:=h',toks:=u})->nQ 09 A (.builtin "min.loop" #[[.ref I,.none,.ref S],[]]) R s:=by
 have H:S∉wr:=λz=>out ((W).sub _ z)
 have M:(toString "min"++toString ".loop":String)="min.loop":=bh;intro m;induction m with
 |zero=>
  intro j s f c P O st L y r x;have k:j+1=n:=c4;refine wW abY ?_;rw[ab4 Iu _];show bH _ A.in1 (seqItems? (.ref S) >>= _) _ _ s;refine aQ (Ck r rfl ?_);show bH _ A.in1 (tryCatch (ux (.ref I)) _ >>= _) _ _ s;refine aQ (NB (W.done s _ _ (k▸st) λh' u l=>?_));have g:=l S _ H r;show bH _ A.in1 (Xe S (λ_=>#v[]) >>= _) _ _ _;exact aQ (Nq g rfl (aQ (Wj (bM (x f _ u (by rw[<-k];exact y) λb o q a e=>(wO _ _ (jW a)).trans (l b o q e))))))
 |succ m ih=>
  intro j s f c P O st L y r x;have lt:j+1<n:=aK;refine wW abY ?_;rw[ab4 Iu _];show bH _ A.in1 (seqItems? (.ref S) >>= _) _ _ s;refine aQ (Ck r rfl ?_);show bH _ A.in1 (tryCatch (ux (.ref I)) _ >>= _) _ _ s;refine aQ (NB (W.item (j+1) s _ _ lt st λv h' u pv t l=>?_));have g:=l S _ H r;have F:HK h':=J _ _ L λb o q _ e=>l b o q e
  show bH _ A.in1 (tryCatch (rR [v,v] (Js .Lt v f >>= _)) _ >>= _) _ _ _;refine aQ (NB (m9 (aQ (cmp (j+1) (qi bt j) v f _ _ _ F pv y (aQ (m9 (yz (aQ (Wj (bM ?_))))))))));cases q:bt (j+1) (qi bt j) with
  |true=>
   simp;refine aQ (Nq g rfl (aQ (Wj ?_)));rw[M];refine bM #[vf Iu _,ih (j+1) _ v _ aK lt (W.frame _ _ _ t λb C o e=>(wO _ _ λz:S=b=>out (z▸C)).trans e) (J _ _ F λb o _ a e=>(wO _ _ (jW a)).trans e) (by simp only[qi,q,if_true];exact pv) (zY _ g rfl) λG h2 p B D=>?_];exact x G h2 p B λb o d a e=>D b o d a ((wO _ _ (jW a)).trans (l b o d e))
  |false=>
   simp only[BV,if_false];refine aQ (Wj ?_);rw[M];exact bM #[vf Iu _,ih (j+1) _ f c aK lt t F (by simp only[qi,q,BV,if_false];exact y) g λG h2 p B D=>(x G h2 p B λb o d a e=>D b o d a (l b o d e))]
theorem arF(W:Ay prog w A.in1 I fp wr n Pv St)(cmp:∀(i j:Nat)(u q:aL)(s:bf)(Q:015)(E:015),HK s.heap->Pv i u->Pv j q->Q (.bool (bt i j)) s->bH 09 A.in1 (Js .Lt u q) Q E s)
  (k:∀h h',HK h->(∀b o,b∉wr->b≠S->h.get? b=aa o->h'.get? b=aa o)->HK h')(out:S∉fp)(pos:0<n)(st:St 0 s.heap)(D:HK s.heap)(t:s.heap.get? S=aa {cls:=.type "list",dict:=aj,data:=.seq #v[] c,slots:=#v[]})
  (F:∀v h' r,Pv (qi bt (n-1)) v->(∀b o,b∉wr->b≠S->s.heap.get? b=aa o->h'.get? b=aa o)->R (.ok (.ret v)) {s with heap:=h',toks:=r}):nQ 09 A (.builtin "min.loop" #[[.ref I,.none,.ref S],[]]) R s:=by
 have x:S∉wr:=λz=>out ((W).sub _ z)
 have G:(toString "min"++toString ".loop")="min.loop":=bh;refine wW abY (aQ (Ck t rfl (aQ (NB (W.item 0 s _ _ pos st λv h' r pv p l=>?_)))));have g:=l S _ x t;have H:HK h':=k _ _ D λb o C _ e=>l b o C e
 show bH _ A.in1 (Xe S (λ_=>#v[v,v]) >>= _) _ _ _;refine aQ (Nq g rfl ?_);rw[G];exact bM #[vf Iu _,arE W cmp k out _ 0 _ v _ rfl pos (W.frame _ _ _ p λb f o e=>(wO _ _ λz:S=b=>out (z▸f)).trans e) (k _ _ H λb o _ a e=>(wO _ _ (jW a)).trans e) pv (zY _ g rfl) λJ h2 m y B=>(F J h2 m y λb o d a e=>B b o d a ((wO _ _ (jW a)).trans (l b o d e)))]
theorem arG(u:045)(hl:s.heap.IsList l items)(pos:0<items.size)
  (cmp:∀(i j:Nat)(n g:aL)(s':bf)(Q:015)(E:015),(∀b o,s.heap.get? b=aa o->s'.heap.get? b=aa o)->items[i]?=aa n->items[j]?=aa g->Q (.bool (bt i j)) s'->bH 09 A.in1 (Js .Lt n g) Q E s')
  (h:∀(v:aL)(h':cF)(d:Nat),items[qi bt (items.size-1)]?=aa v->(∀b o,s.heap.get? b=aa o->h'.get? b=aa o)->Q v {s with heap:=h',toks:=d}):bH 09 A (call (.builtin "min") [.ref l]) Q E s:=by
 have r:toString "min"++toString ".loop"="min.loop":=bh;have p:l<s.heap.objs.size:=by obtain⟨o,t,_⟩:=hl;exact dj t
 refine amA PySem.F.kind_min PySem.F.plain_min PySem.F.entry_min (PySem.F.args_min1 _) (aQ (adP (show ayr "min" ["key","default"] 0 #[[],[]]=pure [aj,aj] from rfl) (aQ (bM ?_))));refine aQ (U0 hl (aQ (qD ?_)));rw[r];have f:(s.heap.push {cls:=.type "list_iterator",data:=.fields #v[.ref l,.int 0 0]}).objs.size=s.heap.objs.size+1:=yH ..;have W:=ad0 (prog:=prog) (w:=w) (A:=A.in1) (‹_›) _ l (fH p) items;refine bM #[vf Iu _,?_];have m:∀b o,s.heap.get? b=aa o->b∉[s.heap.objs.size]:=λb o e=>by
  simp;exact fH (dj e)
 have a:∀b o,s.heap.get? b=aa o->b≠(s.heap.push _).objs.size:=λb o e=>by
  rw[f];exact fH (yC (dj e))
 refine arF W cmp (λh h' k c b o e=>c b o (m b o e) (a b o e) (k b o e)) ?_ pos #[#[_,dF _ (ji _ rfl),rfl,rfl],(hl.push _).push _] (λb o e=>dF _ (dF _ e)) (ji _ rfl) λv h' d q c=>?_
 .rw[f];simp only[cB,nM,or_false,not_or]
  exact#[yJ (Nm _),yJ (yC p)]
 .exact h v h' d q λb o e=>c b o (m b o e) (a b o e) (dF _ (dF _ e))
end
theorem amh(G:035)(hu:033):jh X (.builtin "min") (λxs H Q=>∃(p:aH)(aY:056)(sh:List Bool),xs=[.ref p]/\cA X.K H p (aY.map λr=>V.ref r.1)/\0<aY.length/\(∀r∈aY,H r.1=aa (.tup (r.2.map kV))/\r.2.map cL=sh)/\
  ∀r,aY[qi (pL aY) (aY.length-1)]?=aa r->Q (.ref r.1) H):=by
 intro aC s σ H xs us Q I r h;refine hide λGG m=>?_
 obtain⟨p,aY,sh,rfl,y,pos,n,q⟩:=h
 obtain⟨u,rfl,K⟩:=vals1 r
 cases K
 obtain⟨l,r',x,A⟩:=I.list y
 have L:l=aY.map λr=>fY r.1:=by
  clear pos n q x A y;induction aY generalizing l with
  |nil=>cases r';rfl
  |cons a aY ih=>
   cases r' with
   |cons h t=>
    cases h;rw[ih _ t];rfl
 subst L;have w:∀r∈aY,TupAt _ r/\r.2.map cL=sh:=λr z=>by
  obtain⟨_,l,v,t⟩:=(I.hok _ _ (n r z).1)
  exact#[#[l,v,t],(n r z).2]
 refine m (arG (bt:=pL aY) (I.ok.hd G) x.isList (by simpa using pos) (λi j J F s' Q E k hi D q=>?_) λv h' M B k=>?_)
 .have f:(aY.map λr=>fY r.1)[i]?=aa J:=by simpa using hi
  have d:(aY.map λr=>fY r.1)[j]?=aa F:=by simpa using D
  rw[jN] at f d;refine hide λGG m=>?_
  cases ri:aY[i]? with
  |none=>rw[ri] at f;cases f
  |some a=>
   cases rj:aY[j]? with
   |none=>rw[rj] at d;cases d
   |some b=>
    rw[ri] at f;rw[rj] at d;cases f;cases d
    obtain⟨⟨l,v,t⟩,C⟩:=w a (pZ ri)
    obtain⟨⟨g,v2,o⟩,sb⟩:=w b (pZ rj)
    have ta:=(TupAt.keep #[l,v,t] k)
    have tb:=(TupAt.keep  #[g,v2,o] k)
    obtain⟨l,v,t⟩:=ta
    obtain⟨g,v2,o⟩:=tb
    refine m (ad4 t o (by simpa using v) (by simpa using v2) (C.trans sb.symm) (z6 hu) ?_);have e:pL aY i j=iJ a.2 b.2:=by
     unfold pL zc;simp_all
    rwa [<-e]
 .have c:(aY.map λr=>fY r.1)[qi (pL aY) (aY.length-1)]?=aa v:=by simpa using B
  rw[jN] at c;cases rv:aY[qi _ _]? with
  |none=>rw[rv] at c;cases c
  |some a=>
   rw[rv] at c;cases c
   exact#[.ref _,H,I.kept k,rfl,q a rv]
def Ite(K:bw)(a:aH):It:=⟨λi H=>∃xs,cA K H a xs/\i<xs.length,
 λi H v H'=>∃p x,H p=aj/\v=.ref p/\H'=upd H p (.tup [.int i,x])/\∀xs,cA K H a xs->xs[i]?=aa x,
 λi H=>∃xs,cA K H a xs/\i=xs.length⟩
theorem aov{P:dY}{w:cW}{K:bw}{es:057}{k:Nat}{ps:Pos}{a z j:aH}(m:z≠j):
  Turn P w K (.Tuple es k ps) (Ite K a) [z,j] z (λi h=>(∃d,IsEnum h z j i d)/\h.IsListIter j a i) where
 mem:=cg
 obj:=λi h st c b=>by
  obtain⟨⟨_,h1⟩,⟨B,g,_,N⟩⟩:=st
  simp_all;rcases b with rfl|rfl
  .exact#[_,h1,λv q=>by cases q]
  .exact#[_,g,λv q=>by rw[N] at q;cases q]
 keep:=λi h h' st f=>by
  obtain⟨⟨d,h1⟩,⟨B,g,O⟩⟩:=st
  exact#[#[d,f z cg _ h1],#[B,f j cg _ g,O]]
 item:=by
  intro X hP x D b i aC s σ H E I p st hg;subst hP x D;refine hide λGG y=>?_
  obtain⟨xs,r,hi⟩:=hg
  obtain⟨F,C,p1,_⟩:=I.list r
  obtain⟨⟨d,s1⟩,t⟩:=st
  have ex:xs[i]?=aa (xs.getD i .non):=by simp[Gg,hi]
  obtain⟨u,U,L⟩:=C.get ex
  have Q:F.toArray[i]?=aa u:=by simpa using U
  refine y (wpAny_pyNext_enum_item s1 t p1.isList Q m λh' a1 M T a4 f=>#[_,rfl,wpAny_letOwnedTupleGo_enum a1 λh2 R A=>?_]);have l:z<s.heap.objs.size:=dj s1;have G:H s.heap.objs.size=aj:=I.hok.fresh 046;have V:=A.extBut _ _ (yJ l) T
  refine#[.ref s.heap.objs.size,upd H s.heap.objs.size (.tup [.int i,xs.getD i .non]),Inv.J2 (s:=s) (h':=h2) (t':=s.toks+1) (ch:=[z,j]) I (λc o b e=>?_) p (cI.upd G) (λc o e n=>?_) (λc v e=>?_),rfl,#[_,_,G,rfl,rfl,λS h1=>?_],#[#[_,R],M.extBut A.extBut (jW m)],λc b=>?_]
  .simp only[cB,nM,or_false,not_or] at b;exact A.extBut _ _ b.1 (f c o b.1 b.2 e)
  .rwa [di (fH (dj e))]
  .by_cases J:c=s.heap.objs.size
   .subst J;rw[fj] at e;cases e;exact .inr #[by show 2<=cG;decide,[.int i s.toks,u],.cons 05 (.cons L .nil),_,V,rfl,_,rfl]
   .rw[di J] at e;exact .inl e
  .rw[I.Qn h1 r];exact ex
  .rw[di]
   .exact(p c b).1
   .simp only[cB,nM,or_false] at b
    obtain⟨B,g,_⟩:=t
    rcases b with rfl|rfl
    .exact fH l
    .exact fH (dj g)
 done:=by
  intro X hP x D b i aC s σ H E I p st hg;subst hP x D;refine hide λGG y=>?_
  obtain⟨xs,r,hi⟩:=hg
  obtain⟨F,C,p1,_⟩:=I.list r
  obtain⟨⟨d,s1⟩,t⟩:=st
  have W:=C.length;refine y (wpAny_pyNext_enum_end (I.ok.hd b) s1 t p1.isList (by simp;lia) λh' f=>#[rfl,I.J2 (t':=s.toks) (ch:=[z,j]) (λc o b e=>?_) p (cI.refl H) (λ_ _ _ n=>n) λ_ _ e=>.inl e]);simp only[cB,nM,or_false,not_or] at b;exact f _ _ b.2 e
 self:=λ_ _ _ _ _ st h=>by
  obtain⟨⟨_,h1⟩,_⟩:=st
  exact als h1 h
def awk(K:bw)(t:TA):TI:=λσ H R=>t σ H λvs H1=>∃a xs,vs=[.ref a]/\cA K H1 a xs/\R (Ite K a) H1
theorem at6{X:Cx}{es:057}{k:Nat}{ps:Pos}{x:Expr}{t:TA}{p pos:Pos}(hg:Gl X "enumerate")(n:X.mg "enumerate"=aj)(i:PA X [x] t)(hs:bV [x] X.env=[(010 x)]:=by rfl)(v:bV ([]:List Expr) X.env=[]:=by rfl):
  PI X (.Tuple es k ps) (.Call (.Name "enumerate" p) [x] [] pos) (awk X.K t):=by
 intro aC s σ H R I h;refine Call_ (yV I hg n ays (Us (cz (i _ _ s σ H _ I h) λus s1 g=>?_) (‹_›) (rfl)));refine hide λGG f=>?_
 obtain⟨vs,H1,b,l,a,xs,e,h1,q⟩:=g
 subst e
 obtain⟨u,rfl,r⟩:=vals1 l
 cases r
 obtain⟨w,v1,p1,z⟩:=b.list h1
 refine f (call_enumerate_list p1.isList λh' d o z j=>als d ?_);have m:=b.kept (t':=s1.toks) j
 refine#[_,_,_,_,H1,rfl,m,aov (Nat.succ_ne_self _),#[#[_,d],o],λc y=>(b.xZ ?_ (b.hok.fresh ?_)),q]
 all_goals
  grind
def Dv(ds:036):List az:=ds.zipIdx.map λp=>.tuple [.int (p.2:Nat),p.1]
theorem afB{i:Nat}(h:(Dv ds)[i]?=aa d):∃x,ds[i]?=aa x/\d=.tuple [.int i,x]:=by
 unfold Dv at h
 grind
theorem aeF(ds:036):(Dv ds).length=ds.length:=by
 unfold Dv;simp
theorem arH{K:bw}{H:Hp}{a:aH}{vs:041}(g:er P H a=aa (.lst vs))(r:cQ (er P H) ds vs):zJ P P H (Ite K a) (Dv ds):=λi H2 q s1 o n=>by
 have h2:cA K H2 a vs:=cA.of (jB (s1 _ _ g));have l:=lg r
 refine#[λd j=>?_,λhi=>#[vs,h2,by rw[hi,aeF];lia]]
 obtain⟨x,e1,rfl⟩:=afB j
 obtain⟨v,e,k⟩:=yW r e1
 refine#[#[vs,h2,(lW.mp e).1],λy t h=>?_]
 obtain⟨p,s,c,rfl,rfl,f⟩:=h
 have b:=f vs h2;rw[e] at b;cases b;have sp:cI H2 (upd H2 p (.tup [.int i,v])):=cI.upd c
 refine#[sp,p,_,rfl,?_,_,_,rfl,rfl,v,[],rfl,k.same (s1.trans (YD sp)),rfl]
 unfold er;rw[cC (λm=>(n p m).ne c),fj]
def T7(f:FE):FI:=λao C=>match f ao C with
 |some (r,e1,C1)=>match still r with
  |.im (.list ds)=>aa (Dv ds,e1,C1)
  |_=>aj
 |none=>aj
theorem arI(hg:Gl X "enumerate")(i:X.mg "enumerate"=aj)(c:PE X x (tE X.K f))(hs:bV [x] X.env=(010 x)::bV [] X.env:=by rfl)(d:bV [x] X.env=[(010 x)]:=by rfl)(e:bV ([]:List Expr) X.env=[]:=by rfl):
  PI X (.Tuple es k ps) (.Call (.Name "enumerate" p) [x] [] pos) (tI X.K aR (T7 f)):=(at6 hg i (oU c rZ hs) d e).weak λσ H R bz=>by
 refine hide λGG g=>?_
 obtain⟨Z,Θ,ao,C,l,bK,C',S,b,q⟩:=bz
 unfold T7 at b;split at b
 case h_2=>cases b
 rename_i C1 h1;split at b
 case h_2=>trivial
 rename_i h;cases(b);refine g (#[Z,Θ,_,C,_,_,C',S,h1,λv H1 k f R=>?_])
 obtain⟨j,a,vs,rfl,c,r⟩:=R.xQ h
 exact#[a,vs,rfl,cA.of (jB c),q _ H1 k f j (arH c r)]
theorem aeG(h:(gq P w).is k u=aq):RelV (kV k) u:=by
 rcases rO h with⟨i,t,rfl,rfl⟩|⟨x,t,rfl,rfl⟩<;>exact#[t,rfl]
section
variable{prog:dY}{w:cW}{A:fB}{E:aL->bf->Prop}{s:bf}{r d:aH}{au:List (Key×aL)}{ep:Nat}{b c:Bool}{Q:aL->bf->Prop}
def pO(as:040)(dI:List (Key×Key)):List Row:=as.zipWith (λa p=>(a,[p.1,p.2])) dI
theorem alM(V:045)(U:s.heap.IsItemsView r d)(hm:s.heap.DictAt (gq prog w) d au ep)(h64:dI.length<64)(hne:0<dI.length)(L:au.map (·.1)=dI.map (·.1))(X:Vals (dI.map λp=>kV p.2) (au.map (·.2)))(z:∀p∈dI,cL p.1=b/\cL p.2=c)
  (h:∀(as:040)(p:051)(D:aH)(h':cF)(n I:Nat),as.length=dI.length->as.Pairwise (·<·)->(∀a∈as,s.heap.objs.size<=a/\a≠D)->(∀r∈pO as dI,TupAt h' r)->p.Perm (gQ (pO as dI).length)->p=uL ((pO as dI).map (·.2))->s.heap.objs.size<=D->(∀b o,s.heap.get? b=aa o->h'.get? b=aa o)->
   h'.get? D=aa (seqObj "list" ((p.map λi=>(pO as dI).getD i (0,[])).map λr=>fY r.1).toArray n)->Q (.ref D) {s with heap:=h',toks:=I}):
  bH 09 A (call (.builtin "sorted") [.ref r]) Q E s:=by
 have T:au.length=dI.length:=by have:=congrArg sW L;simpa using this
 refine Uu kind_sorted plain_sorted entry_sorted (args_sorted1 _) ?_;unfold qg.«sorted»;refine aQ (m:=checkCount "sorted" 1 1 _) (bM (aQ (kdx_collect (A:=A.in1) (‹_›) U hm (by rw[jV];lia) λh1 I as Z P G=>?_)));have y:as.length=dI.length:=c3;have B:(pO as dI).length=dI.length:=by unfold pO;rw[List.length_zipWith];lia
 have g:∀r∈pO as dI,TupAt h1 r/\r.2.map cL=b::[c]:=λr f=>by
  obtain⟨j,l,rfl⟩:=wQ f
  rw[B] at l;have Y:as[j]?=aa as[j]:=mH aK;have R:dI[j]?=aa dI[j]:=mH l
  obtain⟨J,k,x,e1,e2,W⟩:=G.pairs j _ Y
  have er:(pO as dI)[j]'aK=(as[j],[dI[j].1,dI[j].2]):=by simp[pO]
  rw[er];have v:k=dI[j].1:=by
   have:=congrArg (·[j]?) L;simp only[jN,e1,R,mU] at this;exact nO this
  have kx:RelV (kV dI[j].2) x:=by
   have S:(dI.map λp=>kV p.2)[j]?=aa (kV dI[j].2):=by rw[jN,R];rfl
   obtain⟨u,O,g2⟩:=X.get S
   rw[jN,e1] at O;cases O;exact g2
  refine#[#[[J,x],.cons (v▸aeG e2) (.cons kx .nil),_,W,rfl,_,rfl],?_]
  have:=z dI[j] (BZ l)
  show[cL dI[j].1,cL dI[j].2]=_
  rw[this.1,this.2]
 have eu:as.map fY=(pO as dI).map λr=>fY r.1:=by
  refine Et (by rw[bR,bR];lia) λi h1 h2=>?_
  rw[alN,alN];simp[pO]
 rw[eu];have K:s.heap.objs.size<=h1.objs.size:=by
  have m:as[0]'aK∈as:=BZ _;exact wY (Cu (G.above _ m) (G.there m))
 generalize hR:pO as dI=aY at *;refine aQ (NQ ?_ (by rw[bR,jV];lia));have q:(h1.push (seqObj "list" (aY.map λr=>fY r.1).toArray 0)).get? h1.objs.size=aa (seqObj "list" (aY.map λr=>fY r.1).toArray 0):=ji _ rfl;have up:∀s':bf,Kp h1.objs.size (h1.push (seqObj "list" (aY.map λr=>fY r.1).toArray 0)) s'.heap->∀b o,h1.get? b=aa o->s'.heap.get? b=aa o:=λs' k b o e=>k b o (fH (dj e)) (dF _ e)
 refine aQ (m9 (pC slot_list_sort ⟨_,q,rfl⟩ entry_list_sort (ad3 (κ:=tuples' aq) (lt:=pL aY) (Rl:=λp=>p=uL (aY.map (·.2))) (vs:=aY.map λr=>fY r.1) q (by rw[bR];lia) (λh2=>Xb (by rw[bR]) h2) (λh2=>WN (by rw[bR]) h2)
  (λh2 s' k Q' H=>W9 (λr f=>⟨(g r f).1.keep (up s' k),(g r f).2⟩) (by rw[bR] at h2;lia) Q' H) (λh2 s' k i j hi l C H=>XQ (sh:=b::[c]) (λr f=>⟨(g r f).1.keep (up s' k),(g r f).2⟩) (by simpa using hi) (by simpa using l) C H) λp h' n F t k e=>⟨_,rfl,?_⟩) (args_list_sort _)))
 rw[bR] at F;rw[Xa F] at e;have M:=up {s with heap:=h'} k;subst hR;exact bM #[_,rfl,h as p h1.objs.size h' n I y G.rise (λa N=>#[wY (G.above a N),fH (G.there N)]) (λr f=>(g r f).1.keep M) F t K (λb o e=>M b o (Z b o e)) e]
end
def layR(H:Hp)(aY:056):Hp:=λa=>match aY.find? (λr=>decide (r.1=a)) with
 |some r=>aa (.tup (r.2.map kV))
 |none=>H a
theorem apS(h:∀r∈aY,r.1≠a):layR H aY a=H a:=by
 unfold layR;rw[ak6.mpr λr b=>by rw[jz (h r b)];exact kY]
theorem agT:∀{aY:056},(aY.map (·.1)).Nodup->∀r∈aY,layR H aY r.1=aa (.tup (r.2.map kV))
 |q::aY,nd,r,a=>by
  rw[dN,lM] at nd;unfold layR;rcases cB.mp a with rfl|a
  .simp
  .have ne:¬decide (q.1=r.1)=aq:=λe=>nd.1 (dG.mpr #[r,a,(of_decide_eq_true e).symm])
   rw[List.find?_cons_of_neg (p:=λb:Row=>decide (b.1=r.1)) ne];exact agT nd.2 r a
theorem aow(h:layR H aY a=aa u):H a=aa u\/∃r∈aY,r.1=a/\u=.tup (r.2.map kV):=by
 unfold layR at h
 grind
theorem afC:∀{c:List (Key×Key)}{vs:List (Key×aL)},KV (c.map λp=>(p.1,kV p.2)) vs->vs.map (·.1)=c.map (·.1)/\Vals (c.map λp=>kV p.2) (vs.map (·.2))
 |[],vs,h=>by cases h;exact#[rfl,.nil]
 |p::c,vs,h=>by
  cases h with
  |cons h t=>
   obtain⟨a,b⟩:=afC t
   exact#[by simp_all,.cons h.2 b]
def arJ(td:TE):TE:=λσ H Q=>td σ H λx H1=>∃(d:aH)(dI:List (Key×Key))(b c:Bool),x=.ref d/\uT H1 d (dI.map λp=>(p.1,kV p.2))/\dI.length<64/\0<dI.length/\(∀p∈dI,cL p.1=b/\cL p.2=c)/\
 ∀(l:aH)(aY:056)(H2:Hp),cI H1 H2->H1 l=aj->H2 l=aa (.lst (aY.map λr=>V.ref r.1))->aY.map (·.2)=vY (dI.map λp=>[p.1,p.2])->(∀r∈aY,H2 r.1=aa (.tup (r.2.map kV)))->Q (.ref l) H2
theorem aox(hc:035)(ho:PE X o td)(g1:Gl X "sorted")(m1:X.mg "sorted"=aj)
  (he:bV [.Call (.Attribute o "items" apos) [] [] cpos] X.env=(010 (.Call (.Attribute o "items" apos) [] [] cpos))::bV [] X.env:=by rfl)(K:(jx pos1 (bV [] X.env)).any (·.1)=aR:=by rfl)
  (j:Fg o "items" X.env (eval o X.env)=eval o X.env:=by rfl)(k:(apos.endLine==cpos.line)=aq:=by rfl):
  PE X (.Call (.Name "sorted" p1) [.Call (.Attribute o "items" apos) [] [] cpos] [] pos1) (arJ td):=by
 intro aC s σ H Q I h;refine Iv (yV I g1 m1 (u:=.builtin "sorted") rfl ?_);refine abK ?_ he K;rw[he];show bH _ _ (spliced ((010 (.Call (.Attribute o "items" apos) [] [] cpos))::jx pos1 (bV [] X.env))) _ _ s;refine BR (acq (T:="dict") (id:="dict.items") j rfl k abR akn PySem.F.type_dict_items (cz (ho aC s σ H _ I h) λu s1 bz=>(hide λGG gg=>?_)))
 obtain⟨x,H1,l,rx,d,U,b,c,ex,hd,P,F,L,q⟩:=bz
 subst ex;obtain rfl:u=fY d:=rx
 obtain⟨z,lo,vs,W,A⟩:=vM l.hok hd
 obtain⟨hk,hx⟩:=afC W
 refine gg (#[A.typeIs,A.mapOf.noDict,?_]);show bH _ _ (callWith cpos (.builtin "dict.items") [.ref d] [] []) _ _ s1;refine method_meetsIn akn PySem.F.entry_dict_items rfl (ayv #[rfl,A.typeIs,PySem.F.args_dict_items_1 _,_,meets_dict_items (gq X.prog X.w) d lo,#[vs,A],Iz ?_])
 obtain⟨od,es,ep,G,O⟩:=A
 have sz:(s1.heap.push {cls:=.type "dict_items",data:=.fields #v[.ref d]}).objs.size=s1.heap.objs.size+1:=yH ..;refine alM (l.ok.hd hc) (d:=d) #[_,ji _ rfl,rfl,rfl] (ep:=ep) #[od,es,dF _ G,O] P F hk hx L λas p D h' n tk w M E tu C y hD kk e=>?_
 have S:as.Nodup:=M.imp λh=>fH h
 obtain⟨aY,R⟩:∃aY,aY=pO as U:=05
 rw[<-R] at tu C y e;have Z:aY.map (·.1)=as:=by
  rw[R];refine Et (by simp[pO,w]) λi h1 h2=>?_
  simp[pO]
 have Y:aY.map (·.2)=U.map λp=>[p.1,p.2]:=by
  rw[R];refine Et (by simp[pO,w]) λi h1 h2=>?_
  simp[pO]
 have ra:∀r∈aY,s1.heap.objs.size<=r.1/\r.1≠D:=λr f=>by
  have m:r.1∈as:=by rw[<-Z];exact dG.mpr #[r,f,rfl]
  have:=E _ m;rw[sz] at this
  exact#[aK,this.2]
 rw[sz] at hD;have J:H1 D=aj:=l.hok.fresh aK;have B:∀a,a<s1.heap.objs.size->upd (layR H1 aY) D (.lst ((p.map λi=>aY.getD i (0,[])).map λr=>V.ref r.1)) a=H1 a:=λa g=>by
  rw[di (show a≠D by lia),apS λr f z=>by have:=(ra r f).1;rw[z] at this;lia]
 have N:∀r∈aY,upd (layR H1 aY) D (.lst ((p.map λi=>aY.getD i (0,[])).map λr=>V.ref r.1)) r.1=aa (.tup (r.2.map kV)):=λr f=>by
  rw[di (ra r f).2];exact agT (by rw[Z];exact S) r f
 have sm:cI H1 (upd (layR H1 aY) D (.lst ((p.map λi=>aY.getD i (0,[])).map λr=>V.ref r.1))):=λa u g=>by
  have lt:a<s1.heap.objs.size:=by
   rcases Nat.lt_or_ge a s1.heap.objs.size with h|h
   .exact h
   .rw[l.hok.fresh h] at g;cases g
  rw[B a lt];exact g
 refine#[.ref D,_,Inv.J2 (s:=s1) (h':=h') (t':=tk) (ch:=[]) l (λa o _ q=>kk a o (dF _ q)) (λ_ m=>nomatch m) sm (λa o q n=>by rw[B a (dj q)];exact n) (λa u g=>?_),rfl,q D (p.map λi=>aY.getD i (0,[])) _ sm J fj ((YC C y).trans (by rw[Y])) λr f=>N r ((Qa C).mem_iff.mp f)]
 by_cases hz:a=D
 .subst hz;rw[fj] at g;cases g;refine .inr #[?_,_,n,Qc _,by simpa[seqObj] using e];rw[bR,bR,C.length_eq,tZ,jV];have:=congrArg sW Y;rw[bR,bR] at this;lia
 .rw[di hz] at g;rcases aow g with h|⟨r,f,rfl,rfl⟩
  .exact .inl h
  .obtain⟨aN,v,t⟩:=tu r f
   refine .inr #[?_,aN,v,t];have m:r.2∈U.map λp=>[p.1,p.2]:=by rw[<-Y];exact dG.mpr #[r,f,rfl]
   obtain⟨pp,_,e2⟩:=dG.mp m
   rw[<-e2,jV];show 2<=_;lia
def Lx:List (az×az)->Option (List (Key×Key))
 |[]=>aa []
 |p::r=>(fO p.1).bind λk=>(fO p.2).bind λv=>(Lx r).map λt=>(k,v)::t
theorem afD:∀{au:021}{c:List (Key×Key)}{ks:List Key}{vs:041},Lx au=aa c->cO fO au=aa ks->jb E au vs->ks.zip vs=c.map (λp=>(p.1,kV p.2))/\au.map (λp=>vh [p.1,p.2])=c.map (λp=>.tuple [m5 p.1,m5 p.2])
 |[],c,ks,vs,h,h1,_=>by cases h;cases h1;trivial
 |p::r,c,ks,vs,h,h1,h2=>by
  obtain⟨k,e1,h⟩:=sU.mp h
  obtain⟨v,e2,h⟩:=sU.mp h
  obtain⟨t,d,h⟩:=pY.mp h
  subst h;unfold cO at h1;rw[e1] at h1;cases ha:cO _ r with
  |none=>rw[ha] at h1;trivial
  |some t1=>
   rw[ha] at h1;cases h1
   obtain⟨u,w,rfl,q,h2⟩:=h2
   obtain⟨a,b⟩:=afD d ha h2
   obtain⟨p1,p2⟩:=p
   have e:=ahG e2 q;have f:p1=m5 k:=by cases p1<;>first|(cases e1;rfl)|trivial
   have g:p2=m5 v:=by cases p2<;>first|(cases e2;rfl)|trivial
   simp[*]
def ZV(au:021):Option (List az):=(Lx au).bind λdI=>dI.head?.bind λp=>if dI.length<64/\∀q∈dI,cL q.1=cL p.1/\cL q.2=cL p.2 then aa (yg (au.map λp=>.tuple [p.1,p.2])) else aj
def aav:az->Option (List (az×az))
 |.dict au=>aa au
 |_=>aj
theorem apT(h:aav d=aa au):d=.dict au:=by
 cases d<;>first|(cases h;rfl)|cases h
def Y7(f:FB):FE:=λao C=>(f ao C).bind λp=>(aav p.1).bind λau=>(ZV au).map λl=>(.ow (.list l),ao,p.2.2)
theorem aoy(F:035)(K:PE X o (eN X.K f))(j:Gl X "sorted")(D:X.mg "sorted"=aj)
  (he:bV [.Call (.Attribute o "items" apos) [] [] cpos] X.env=(010 (.Call (.Attribute o "items" apos) [] [] cpos))::bV [] X.env:=by rfl)(n:(jx pos1 (bV [] X.env)).any (·.1)=aR:=by rfl)
  (c:Fg o "items" X.env (eval o X.env)=eval o X.env:=by rfl)(e:(apos.endLine==cpos.line)=aq:=by rfl):
  PE X (.Call (.Name "sorted" p1) [.Call (.Attribute o "items" apos) [] [] cpos] [] pos1) (tE X.K (Y7 f)):=(aox F K j D he n c e).weak λσ H Q bz=>by
 obtain⟨Z,Θ,ao,C,r,bK,C',S,g,q⟩:=bz
 refine hide λGG y=>?_
 obtain⟨⟨d,e1,C1⟩,h1,g⟩:=sU.mp g
 obtain⟨au,I,g⟩:=sU.mp g
 obtain⟨l,hl,g⟩:=pY.mp g
 obtain⟨h,s,hl⟩:=sU.mp hl
 obtain⟨p,E,hl⟩:=sU.mp hl
 split at hl
 case isFalse=>cases hl
 rename_i b;cases hl;cases g;cases apT I;have pos:0<h.length:=by
  cases h with
  |nil=>cases E
  |cons _ _=>exact V1 _
 refine y #[Z,Θ,ao,C,_,e1,C1,S,h1,λv H1 k f J b1=>(hide λM L=>?_)]
 obtain⟨a,vs,rfl,A,x⟩:=b1.dct
 rcases A with⟨ks,a1,a2⟩|⟨ks,⟨ne,a1⟩,a2⟩
 .obtain⟨e2,B⟩:=afD s a1 x
  rw[e2] at a2;refine L #[a,h,_,_,rfl,Il a2,b.1,pos,b.2,λl aY H2 sm w hl G i=>?_];have u:=k.trans (bL.of sm);have t:=S.zm (k.none w) u #[_,hl,λ_ z=>nomatch z] (J.cell.same sm);have es:(aY.map λr=>vh (r.2.map m5))=yg (au.map λp=>.tuple [p.1,p.2]):=by
   unfold yg;rw[B,dJ];have:(h.map (Bb ∘ λp=>vh [m5 p.1,m5 p.2]))=h.map λp=>[p.1,p.2]:=by
    refine wR λq _=>?_
    show(keysOf ([q.1,q.2].map m5)).getD []=[q.1,q.2]
    rw[JH];rfl
   rw[this,<-G,dJ];rfl
  refine q _ H2 u 024 #[l,rfl,k.none w,t,_,hl,?_];rw[<-es];exact JK λr m=>G7 t (i r m)
 .exfalso;cases au with
  |nil=>exact ne rfl
  |cons q r=>
   obtain⟨N,e1,_⟩:=sU.mp s
   unfold cO at a1;split at a1
   .rename_i j _;exact ahH e1 j
   .cases a1
def K3(ks:List (List Key)):Nat:=qi (λi j=>iJ (ks.getD i (ks.headD [])) (ks.getD j (ks.headD []))) (ks.length-1)
theorem anC(aY:056):qi (pL aY) (aY.length-1)=K3 026:=by
 have e:pL aY=λi j=>iJ ((026).getD i ((026).headD [])) ((026).getD j ((026).headD [])):=by
  funext i j;rw[pL,Qw,Qw]
 unfold K3;rw[e,bR]
def ZW(ds:036):Option Vl:=ds.head?.bind λd0=>(zK d0).bind λsh=>if ∀d∈ds,zK d=aa sh then(ds[K3 (ds.map Bb)]?).map .im else aj
def Ry:List az->Option Vl
 |[.list ds]=>ZW ds
 |_=>aj
theorem arK{K:bw}:mD K (λxs H Q=>∃(p:aH)(aY:056)(sh:List Bool),xs=[.ref p]/\cA K H p (aY.map λr=>V.ref r.1)/\0<aY.length/\(∀r∈aY,H r.1=aa (.tup (r.2.map kV))/\r.2.map cL=sh)/\
  ∀r,aY[qi (pL aY) (aY.length-1)]?=aa r->Q (.ref r.1) H) Ry:=by
 intro Z Θ ao C σ H xs ds res S b e Q q;refine hide λGG l=>?_
 unfold Ry at e;split at e
 case h_2=>cases e
 rename_i ds
 obtain⟨z,j,e⟩:=sU.mp e
 obtain⟨sh,_,e⟩:=sU.mp e
 split at e
 case isFalse=>cases e
 rename_i c
 obtain⟨d,g,rfl⟩:=pY.mp e
 obtain⟨v,rfl,y⟩:=pN b
 obtain⟨a,vs,rfl,o,r⟩:=y.lst
 obtain⟨aY,rfl,e2,f⟩:=Yb c r
 have w:ds.map Bb=aY.map (·.2):=by
  rw[e2,dJ];refine wR λr _=>?_
  show(keysOf _).getD []=r.2
  rw[JH];rfl
 rw[w,<-anC] at g;refine l #[a,aY,sh,rfl,cA.of o,?_,λr m=>#[jB (f r m).1,(f r m).2],λr i=>?_]
 .cases aY with
  |nil=>simp_all
  |cons _ _=>exact V1 _
 .have m:=pZ i;have h:=by
   rw[e2,jN,i] at g
   exact(nO g).symm
  obtain⟨u,t,s,k,_⟩:=JK   λx n=>by rw[jU.mp n];exact(f r m).1
  cases s;refine q _ H 009 #[S,?_];rwa[h]
def aaT:az->Bool
 |.list _=>aq
 |.tuple _=>aq
 |_=>aR
theorem Qg(hg:X.A.guards=aa [])(hu:X.A.units+64<fJ):jh X (.type "str") (λxs H Q=>∃v d,xs=[v]/\aaT d=aq/\RD X.K H d v/\d.showable=aq/\d.depth<=60/\d.shown.length<=cG/\Q (.str d.shown) H):=by
 intro aC s σ H xs us Q I r h;refine hide λGG g=>?_
 obtain⟨v,d,rfl,l,b,hs,k,f,q⟩:=h
 obtain⟨u,rfl,c⟩:=vals1 r
 obtain⟨as,R⟩:=b.reads I c
 have j:∃a,v=.ref a:=by
  cases d<;>(cases l)
  all_goals
   obtain⟨a,vs,e1,z,z⟩:=b
   exact#[a,e1]
 obtain⟨a,rfl⟩:=j
 cases c;exact g (str_of_reads R hs (PyData.noDict_hsm b.nodict) hg aK (λz z e=>e) (λh' u m i=>#[.str _,H,I.kept i,05,q]) f)
def za(ds:036):Option Vl:=ds.head?.bind λd=>if aaT d then ZL ds else aj
theorem Rb{K:bw}:mD K (λxs H Q=>∃v d,xs=[v]/\aaT d=aq/\RD K H d v/\d.showable=aq/\d.depth<=60/\d.shown.length<=cG/\Q (.str d.shown) H) za:=by
 intro Z Θ ao C σ H xs ds res S b e Q q;refine hide λGG a=>?_
 obtain⟨d,c,e⟩:=sU.mp e
 split at e
 case isFalse=>lia
 rename_i f;unfold ZL at e;split at e
 case h_2=>lia
 cases(c);split at e
 case isFalse=>lia
 rename_i h;cases e;rw[lJ,lJ,lJ,decide_eq_true_iff,decide_eq_true_iff] at h
 obtain⟨v,rfl,g⟩:=pN b
 exact a (#[v,d,rfl,f,(g.rx h.1.1.1).rd,h.1.1.2,h.1.2,sY h.2,q _ H 009 030])
def Bl(L:Nat)(C:Ce)(b k:Nat):Prop:=C.length=L/\∃x y z:Int,C[b]?=aa (inC [x,y,z])/\0<=x/\0<=z/\z+k<=900000
theorem Bl.mono(h:Bl L C b k)(c:j<=k):Bl L C b j:=by
 obtain⟨l,x,y,z,h1,h2,a,d⟩:=h
 exact#[l,x,y,z,h1,h2,a,c4]
theorem Bl.dec(h:Bl L C b (k+1)):Bl L C b k:=h.mono (Ad k)
theorem Bl.eq(h:Bl L C b k)(h':Bl L C' b' k'):C'.length=C.length:=h'.1.trans h.1.symm
theorem at7(C:Ce)(a:0<=x):Bl (C.length+1) (C++[inC [x,y,0]]) C.length 800000:=by
 refine#[cg,x,y,0,?_,a,Fy _,c4]
 rw[uY 046,Jo];rfl
theorem afE{n s u f i j:Int}(hu:s*u%n=1)(m:0<n)(hi:0<=i)(h:0<=j)(c:i<n)(b:j<n)(e:(f+s*i)%n=(f+s*j)%n):i=j:=by
 have h1:=aj4.mp e
 obtain⟨d,l⟩:=Int.dvd_of_emod_eq_zero h1
 have k:=by
  have:=Int.mul_ediv_add_emod (s*u) n;exact this.symm
 generalize s*u / n=q at k;have a:i-j=n*(u*d-q*(i-j)):=c8
 have h2:=Int.emod_eq_zero_of_dvd #[_,a];have g:=aj4.mpr h2;rwa[U7 hi c,U7 h b] at g
def K4(s:Int):Prop:=(0<s/\s<=675)/\(∃u,s*u%676=1)/\∃u,s*u%26=1
theorem step_at(b:0<=k)(h1:k<6):∃s,eX [kZ 1,.int 3,.int 5,.int 7,.int 25,.int 675] k=aa (.int s)/\K4 s:=by
 have a:k=0\/k=1\/k=2\/k=3\/k=4\/k=5:=c4;rcases a with rfl|rfl|rfl|rfl|rfl|rfl
 .exact#[1,rfl,bh,#[1,bh],#[1,bh]]
 .exact#[3,rfl,bh,#[451,bh],#[9,bh]]
 .exact#[5,rfl,bh,#[541,bh],#[21,bh]]
 .exact#[7,rfl,bh,#[483,bh],#[15,bh]]
 .exact#[25,rfl,bh,#[649,bh],#[25,bh]]
 .exact#[675,rfl,bh,#[675,bh],#[25,bh]]
theorem agU(e:z.cps.toList=l)(h1:1<=l.length)(h2:l.length<=8)(a:∀c∈l,97<=c/\c<=122):nameB z=aq:=by
 have e2:z.length=l.length:=by rw[<-e];rfl
 unfold nameB T5;simp_all
theorem acI(h:∀i j,i<n->j<n->f i=f j->i=j):((gQ n).map f).Nodup:=by
 rw[List.nodup_iff_pairwise_ne,List.pairwise_map];refine ayT  (λ{a b} ha hb hab e=>?_) abX;have:=h a b (Cj.mp ha) (Cj.mp hb) e;lia
def n1(f s:Int)(k:Nat):Str:=#[#v[97+((f+s*k)%26).toNat]]
theorem z1{α}(p:α->Prop)[DecidablePred p](xs:List Int)(r:α)(a:List α)(f:α->Int):xs++((r::a).filter λr=>decide (p r)).map f=(xs++if p r then[f r] else[])++(a.filter λr=>decide (p r)).map f:=by
 rw[ie];congr 1;by_cases c:p r
 .rw[bZ c,List.filter_cons_of_pos (by simpa using c)];rfl
 .rw[cC c,List.filter_cons_of_neg (by simpa using c)];rfl
theorem z0{x y:Int}(h:0<=x)(k:0<=y)(e:x.toNat=y.toNat):x=y:=by rw[<-Int.toNat_of_nonneg h,e,Int.toNat_of_nonneg k]
theorem apU(hs:K4 s)(m:n<=26):Names ((gQ n).map (n1 f s)):=by
 refine#[acI λi j hi h e=>?_,λz b=>?_]
 .obtain⟨_,_,u,g⟩:=hs
  have e1:97+((f+s*i)%26).toNat=97+((f+s*j)%26).toNat:=by
   have:=congrArg (λz:Str=>z.cps.toList) e;simpa[n1] using this
  exact Int.ofNat.inj (afE (n:=26) (f:=f) (i:=i) (j:=j) g bh (Int.natCast_nonneg _) (Int.natCast_nonneg _) (Int.ofNat_lt.mpr (qz hi m)) (Int.ofNat_lt.mpr (qz h m)) (z0 (yF _ bh) (yF _ bh) (Nat.add_left_cancel e1)))
 .obtain⟨k,_,rfl⟩:=dG.mp b
  have a1:0<=(f+s*k)%26:=yF _ bh;have a:(f+s*k)%26<26:=Iw _ bh;refine agU (l:=[97+((f+s*k)%26).toNat]) rfl 046 (by show 1<=8;decide) λc d=>?_
  rw[jU.mp d];lia
def v2(f s:Int)(k:Nat):Int:=(f+s*k)%676
def two(v:Int):Str:=(#[#v[97+(v / 26).toNat]]:Str)++(#[#v[97+(v%26).toNat]]:Str)
def n2(hd tl:Str)(f s:Int)(q:Nat->Int)(k:Nat):Str:=hd++two (v2 f s k)++Txt.slice tl aj (aa (q k))
theorem afF(hd tl:Str)(f s:Int)(q:Nat->Int)(k:Nat):(n2 hd tl f s q k).cps.toList=hd.cps.toList++([97+(v2 f s k / 26).toNat,97+(v2 f s k%26).toNat]++(Txt.slice tl aj (aa (q k))).cps.toList):=by
 show((hd.cps++(#v[97+(v2 f s k / 26).toNat]++#v[97+(v2 f s k%26).toNat]))++(Txt.slice tl aj (aa (q k))).cps).toList=_
 simp
theorem apV(hs:K4 s)(r:n<=36)(o:hd.length<=3)(ht:tl.length<=3)(ch:∀c∈hd.cps.toList,97<=c/\c<=122)(ct:∀c∈tl.cps.toList,97<=c/\c<=122):Names ((gQ n).map (n2 hd tl f s q)):=by
 have b:∀k:Nat,0<=v2 f s k/\v2 f s k<676:=λk=>#[yF _ bh,Iw _ bh]
 refine#[acI λi j hi p e=>?_,λz d=>?_]
 .obtain⟨_,⟨u,m⟩,_⟩:=hs
  have e1:=congrArg (λz:Str=>z.cps.toList) e;simp only[afF] at e1;have e2:=List.append_cancel_left e1;rw[m8,m8,lN,m8,m8,lN] at e2;injection e2 with e3 e4
  injection e4 with e5 _
  have l:v2 f s i=v2 f s j:=by
   rw[<-Int.mul_ediv_add_emod (v2 f s i) 26,<-Int.mul_ediv_add_emod (v2 f s j) 26,z0 (alX (b i).1 bh) (alX (b j).1 bh) (Nat.add_left_cancel e3),z0 (yF _ bh) (yF _ bh) (Nat.add_left_cancel e5)]
  exact Int.ofNat.inj (afE (n:=676) (f:=f) (i:=i) (j:=j) m bh (Int.natCast_nonneg _) (Int.natCast_nonneg _) (Int.ofNat_lt.mpr (qz hi (jw r bh))) (Int.ofNat_lt.mpr (qz p (jw r bh))) l)
 .obtain⟨k,_,rfl⟩:=dG.mp d
  have bk:=b k;have h:hd.cps.toList.length=hd.length:=by show _=hd.cps.size;simp
  have g:(Txt.slice tl aj (aa (q k))).cps.toList.length=(Txt.slice tl aj (aa (q k))).length:=by show _=(Txt.slice tl aj (aa (q k))).cps.size;simp
  have t:=PyProof.Txt.length_slice_le tl aj (aa (q k));refine agU (afF hd tl f s q k) (by rw[fW,fW];show 1<=_+(2+_);lia) (by rw[fW,fW,h,g];show _+(2+_)<=8;lia) λc a=>?_
  rcases gP.mp a with a|a
  .exact ch c a
  .rcases gP.mp a with a|a
   .simp only[cB,nM,or_false] at a;rcases a with rfl|rfl<;>lia
   .exact ct c (arw a)
def sl(z:Str)(n k:Nat):Str:=Txt.slice z (aa (k:Int)) (aa ((k:Int)+(n:Int)))
def sb(z:Str)(n:Nat):List Str:=(gQ (8-n)).map (sl z (n+1))
end L2
namespace L2
section
variable{β:Type}[DecidableEq β]{ws:List (Int×β×β)}{s:β}
inductive iQ(ws:List (Int×β×β)):β->List Int->β->Prop
 |nil (p:β):iQ ws p [] p
 |cons {n:Int} {p q s:β} {r:028}:(n,p,q)∈ws->iQ ws q r s->iQ ws p (n::r) s
def dm(st:List (β×Int))(p:β):Option Int:=(st.find? λx=>decide (x.1=p)).map (·.2)
theorem rQ{p:β}:dm st p=aj↔p∉st.map (·.1):=by
 unfold dm;rw[aku,ak6]
 exact c8
theorem J9(st:List (β×Int))(a:List β)(k:Int)(p:β):dm (st++a.map λg=>(g,k)) p=if p∈st.map (·.1) then dm st p else if p∈a then aa k else aj:=by
 unfold dm;rw[List.find?_append];by_cases h:p∈st.map (·.1)
 .rw[bZ h];cases e:st.find? _ with
  |none=>exact absurd h (rQ.mp (congrArg (·.map Prod.snd) e))
  |some y=>rfl
 .rw[cC h,(aku.mp (rQ.mpr h))];induction a with
  |nil=>rfl
  |cons g a ih=>
   rw[dN];by_cases q:g=p
   .subst q;rw[bZ fV];show((none).or (List.find? _ ((g,k)::_))).map _=_;rw[List.find?_cons_of_pos (p:=λx:β×Int=>decide (x.1=g)) (by simp)];rfl
   .have i:p∈g::a↔p∈a:=by simp[Ne.symm q]
    simp only[i];rw[<-ih];show((none).or (List.find? _ ((g,k)::_))).map _=_;rw[List.find?_cons_of_neg (by simpa using q)]
theorem QV(x:β×Int)(l:List (β×Int))(p:β):dm (x::l) p=if x.1=p then aa x.2 else dm l p:=by
 unfold dm
 grind
structure wK(ws:List (Int×β×β))(s:β)(st:List (β×Int))(new:List β)(k:Nat):Prop where
 sound:∀p d,dm st p=aa d->d<=k/\∃r,iQ ws p r s/\(r.length:Int)=d
 whole:∀p r,iQ ws p r s->r.length<=k->∃d,dm st p=aa d/\d<=r.length
 last:∀p,p∈new↔dm st p=aa (k:Int)
 nd:(st.map (·.1)).Nodup
 sub:∀p∈st.map (·.1),p=s\/p∈ws.map (·.2.1)
 low:∀p d,dm st p=aa d->d+1<=st.length
theorem wK.init(ws:List (Int×β×β))(s:β):wK ws s [(s,0)] [s] 0 where
 sound p d h:=by
  unfold dm at h;rw[alV] at h;by_cases e:s=p
  .subst e;rw[f9 rfl] at h;cases h
   exact#[Fy _,[],.nil _,rfl]
  simp_all
 whole p r h l:=by
  cases h with
  |nil=>exact#[0,by unfold dm;simp,Fy _]
  |cons _ _=>trivial
 last p:=by
  unfold dm
  grind
 nd:=cg
 sub p hp:=.inl (jU.mp hp)
 low p d h:=by
  unfold dm at h
  exact c8
theorem wK.step{st:List (β×Int)}{u c:List β}{k:Nat}(B:wK ws s st u k)(F:c.Nodup)(i:∀g,g∈c↔∃w∈ws,w.2.2∈u/\w.2.1∉st.map (·.1)/\w.2.1=g):wK ws s (st++c.map λg=>(g,(k:Int)+1)) c (k+1) where
 sound p d h:=by
  rw[J9] at h;split at h
  .obtain⟨h1,h2⟩:=B.sound p d h
   exact#[c4,h2]
  .split at h
   .rename_i m;cases h
    refine#[c4,?_]
    obtain⟨w,j,v,o,rfl⟩:=(i p).mp m
    obtain⟨_,r,E,I⟩:=B.sound _ _ ((B.last _).mp v)
    exact#[w.1::r,.cons (p:=w.2.1) (q:=w.2.2) j E,by rw[eZ];simp[*]]
   .cases h
 whole p r h l:=by
  rw[J9];by_cases f:p∈st.map (·.1)
  .rw[bZ f];cases e:dm st p with
   |none=>exact absurd f (rQ.mp e)
   |some d=>
    refine#[d,rfl,?_]
    by_cases H:r.length<=k
    .obtain⟨D,t,h'⟩:=B.whole p r h H
     rw[e] at t;cases t;exact h'
    .have:=(B.sound p d e).1;lia
  .rw[cC f];cases h with
   |nil=>
    obtain⟨d,e,_⟩:=B.whole s [] (.nil s) (lO _)
    rw[rQ.mpr f] at e;cases e
   |cons hw hr=>
    rename_i n q r;rw[eZ] at l⊢
    obtain⟨d,e,L⟩:=B.whole q r hr c4
    obtain⟨J,G,z,K⟩:=B.sound q d e
    by_cases y:d=k
    .subst y;have m:p∈c:=(i p).mpr #[_,hw,(B.last q).mpr e,f,rfl];rw[bZ m]
     exact#[_,rfl,c3]
    .obtain⟨D,t,_⟩:=B.whole p (n::G) (.cons hw z) (by rw[eZ];lia)
     rw[rQ.mpr f] at t;cases t
 last p:=by
  rw[J9];constructor
  .intro m
   obtain⟨w,j,v,o,rfl⟩:=(i p).mp m
   rw[cC o,bZ m];rfl
  .intro e;split at e
   .have:=(B.sound p _ e).1;lia
   .split at e
    .rename_i m;exact m
    .cases e
 nd:=by
  rw[kj,dJ,show((λx:β×Int=>x.1) ∘ λg=>(g,(k:Int)+1))=id from rfl,Wi];refine qF.mpr #[B.nd,F,λa C b A e=>?_];subst e
  obtain⟨w,_,_,o,rfl⟩:=(i a).mp A
  exact o C
 sub p f:=by
  rw[kj,dJ,show((λx:β×Int=>x.1) ∘ λg=>(g,(k:Int)+1))=id from rfl,Wi] at f;rcases gP.mp f with f|f
  .exact B.sub p f
  .obtain⟨w,j,_,_,rfl⟩:=(i p).mp f
   exact .inr (dG.mpr #[w,j,rfl])
 low p d h:=by
  rw[J9] at h;rw[fW,bR];split at h
  .have:=B.low p d h;lia
  .split at h
   .rename_i m;cases h
    obtain⟨w,j,v,o,rfl⟩:=(i p).mp m
    have:=B.low _ _ ((B.last _).mp v);have:=List.length_pos_of_mem m;lia
   .cases h
theorem len_sub:∀{l m:List β},l.Nodup->(∀x∈l,x∈m)->l.length<=m.length
 |[],_,_,_=>lO _
 |a::l,m,hn,h=>by
  have c:=h a fV;have:=len_sub (lM.mp hn).2 λx b=>(List.mem_erase_of_ne (show x≠a from λz=>(lM.mp hn).1 (z▸b))).mpr (h x (fU _ b))
  grind
theorem wK.few(B:wK ws s st new k):st.length<=ws.length+1:=by
 have h:(st.map (·.1)).length<=(s::ws.map (·.2.1)).length:=by
  refine len_sub B.nd λp a=>?_
  rcases B.sub p a with rfl|h
  .simp
  simp[*]
 simpa using h
structure wL(ws:List (Int×β×β))(s:β)(st:List (β×Int)):Prop where
 sound:∀p d,dm st p=aa d->∃r,iQ ws p r s/\(r.length:Int)=d
 whole:∀p r,iQ ws p r s->∃d,dm st p=aa d/\d<=r.length
 few:∀p d,dm st p=aa d->d<=ws.length
 nd:(st.map (·.1)).Nodup
theorem wK.done{st:List (β×Int)}{k:Nat}(B:wK ws s st [] k):wL ws s st where
 sound p d h:=(B.sound p d h).2
 nd:=B.nd
 few p d h:=by
  have:=B.low p d h;have:=B.few;lia
 whole p r h:=by
  induction h with
  |nil p=>exact B.whole p [] (.nil p) (lO _)
  |cons hw hr ih=>
   rename_i p q s' r
   obtain⟨d,e,f⟩:=ih B
   obtain⟨i,g,a,j⟩:=B.sound q d e
   have:d≠k:=λz=>by
    subst z;exact nomatch(B.last q).mpr e
   obtain⟨b,c,h'⟩:=B.whole p _ (.cons hw a) 07
   grind
theorem wL.iff(B:wL ws s st)(p:β):p∈st.map (·.1)↔∃r,iQ ws p r s:=by
 constructor
 .intro h;cases e:dm st p with
  |none=>exact absurd h (rQ.mp e)
  |some d=>
   obtain⟨r,h,_⟩:=B.sound p d e
   exact#[r,h]
 .rintro⟨r,h⟩
  obtain⟨d,e,_⟩:=B.whole p r h
  apply akd;intro n;rw[rQ.mpr n] at e;cases e
def rG(ws:List (Int×β×β))(a b:β):Prop:=∃r,iQ ws a r b
theorem iQ.snoc(h:iQ ws a r b)(d:(n,b,c)∈ws):iQ ws a (r++[n]) c:=by
 induction h with
 |nil p=>exact .cons d (.nil _)
 |cons h1 _ ih=>exact .cons h1 (ih d)
def sy(w:Int×β×β):Int×β×β:=(w.1,w.2.2,w.2.1)
theorem JM:(n,a,b)∈ws.map sy↔(n,b,a)∈ws:=by
 rw[dG];constructor
 .rintro⟨w,h,e⟩
  injection e with e1 e2
  exact c8
 .exact λh=>#[_,h,rfl]
theorem iQ.turn(h:iQ (ws.map sy) a r b):iQ ws b r.reverse a:=by
 induction h with
 |nil p=>exact .nil p
 |cons h1 _ ih=>
  rw[alu];exact ih.snoc (JM.mp h1)
theorem iQ.Kr(h:iQ ws a r b):iQ (ws.map sy) b r.reverse a:=by
 induction h with
 |nil p=>exact .nil p
 |cons h1 _ ih=>
  rw[alu];exact ih.snoc (JM.mpr h1)
theorem wL.Yi(B:wL (ws.map sy) s st)(h:rG ws s p):∃r,iQ ws s r p/\r.length<=ws.length:=by
 obtain⟨r,h⟩:=h
 obtain⟨d,e,_⟩:=B.whole p _ h.Kr
 obtain⟨r',h',l⟩:=B.sound p d e
 have:=B.few p d e
 exact#[_,h'.turn,c8]
theorem wL.keys(B:wL (ws.map sy) s st)(p:β):p∈st.map (·.1)↔rG ws s p:=by
 rw[B.iff p]
 exact#[λ⟨r,h⟩=>#[_,h.turn],λ⟨r,h⟩=>#[_,h.Kr]]
theorem aeH:∀{l m:List β},l.Nodup->m.Nodup->(∀x,x∈l↔x∈m)->l.Perm m:=λh g e=>(List.perm_ext_iff_of_nodup h g).mpr e
def lexLe:List Int->List Int->Prop
 |[],_=>True
 |_::_,[]=>False
 |a::r,b::q=>a<b\/(a=b/\lexLe r q)
theorem aed:∀{r q:028},r.length=q.length->lexLe r q->lexLe q r->r=q
 |[],[],_,_,_=>rfl
 |a::r,b::q,l,h,h'=>by
  have e:a=b:=by rcases h with h|h<;>rcases h' with h'|h'<;>lia
  subst e;rw[aed (Oi l) (h.resolve_left aK).2 (h'.resolve_left aK).2]
def qW(ws:List (Int×β×β))(p s:β)(r:028):Prop:=iQ ws p r s/\∀r',iQ ws p r' s->r.length<r'.length\/(r.length=r'.length/\lexLe r r')
theorem qW.unique(h:qW ws p s r)(h':qW ws p s r'):r=r':=by
 rcases h.2 r' h'.1 with l|⟨l,a⟩
 .rcases h'.2 r h.1 with c|⟨c,_⟩<;>lia
 .rcases h'.2 r h.1 with c|⟨_,b⟩
  .lia
  .exact aed l a b
theorem qW.self(ws:List (Int×β×β))(s:β):qW ws s s []:=⟨.nil s,λr' k=>by
 cases r' with
 |nil=>exact .inr #[rfl,trivial]
 |cons _ _=>simp⟩
theorem qW.go(v:∀w∈ws,∀w'∈ws,w.1=w'.1->w=w')(B:wL ws s st)(u:dm st p=aa d)(l:(n,p,q)∈ws)(j:∃e,dm st q=aa e/\e<d)(b:∀a c e,(a,p,c)∈ws->dm st c=aa e->e<d->n<=a)(i:qW ws q s r):qW ws p s (n::r):=by
 obtain⟨e,j,x⟩:=j
 obtain⟨m,f,z⟩:=B.sound q e j
 have t:r.length<=m.length:=by rcases i.2 m f with h|h<;>lia
 refine#[.cons l i.1,λr' h'=>?_]
 obtain⟨A,o,k⟩:=B.whole p r' h'
 rw[u] at o;cases o;rw[eZ];cases h' with
 |nil=>
  grind
 |cons hw' hr'=>
  rename_i a c r';rw[eZ] at k⊢
  obtain⟨e2,h2,y⟩:=B.whole c r' hr'
  by_cases hl:r.length<r'.length
  .lia
  .refine .inr #[c4,?_];have C:=b a c e2 hw' h2 c4;by_cases g:n<a
   .exact .inl g
   .have:n=a:=c3;subst this;have:=v _ l _ hw' rfl;cases this;refine .inr #[rfl,?_];rcases i.2 r' hr' with h|h
    .lia
    .exact h.2
end
end L2
namespace L2
open PySem PySem.Spec PyProof.Rows PySem.W
def avu(i j k:Nat)(ta:TA):TS:=λD σ H=>ta σ H λvs H1=>vs.length=3/\(∀v w z,vs=[v,w,z]->D.nx (((σ.set i (aa v)).set j (aa w)).set k (aa z)) H1)
theorem arL{kt k2 rD}(O:035)(hN:049)(hi:X.N[i]?=aa x)(K:X.N[j]?=aa y)(G:X.N[k]?=aa z)(m:i≠j)(n:i≠k)(l:j≠k)
  (t:X.env.scope.names.lookup x=aa .local)(r:023)(hz:X.env.scope.names.lookup z=aa .local)(L:PA X [a,b,c] ta)
  (E:Cq [.Tuple [.Name x px,.Name y py,.Name z pz] kt pt] (.Tuple [a,b,c] k2 rD) X.env=pure (aa [x,y,z]))
  (hs:Cp [.Tuple [.Name x px,.Name y py,.Name z pz] kt pt] (.Tuple [a,b,c] k2 rD) pos.line X.env=pure aR:=by rfl):
  PS X (.Assign [.Tuple [.Name x px,.Name y py,.Name z pz] kt pt] (.Tuple [a,b,c] k2 rD) pos) (avu i j k ta):=by
 intro aC s σ H D I h;refine aQ (Ab ?_);refine aQ (bM ?_);refine aQ (Tuple_ (cz (L _ aC s σ H _ I h) λus s1 J=>hide λGG F=>?_))
 obtain⟨vs,H1,P,d,f,B⟩:=J
 cases d with
 |nil=>cases f
 |cons rv d=>
 cases d with
 |nil=>cases f
 |cons rw' d=>
 cases d with
 |nil=>cases f
 |cons rz d=>
 cases d with
 |cons _ _=>cases f
 |nil=>
 rename_i p w u T q;refine F (qD ?_ (by show 3<=cG;decide));have Q:Inv X aC σ H1 {s1 with heap:=s1.heap.push {cls:=.type "tuple",data:=.seq [p,u,q].toArray}}:=P.kept  λb o e=>dF _ e
 rw[E];refine aQ (bM (aQ (wZ (aQ (unpackItems_tuple (items:=#v[p,u,q]) (I.ok.hd O) (IsTup.new s1.heap _) λh' g=>?_)))));have N:=Q.kept  (t':=s1.toks) λb o e=>g b o (fH (dj e)) e
 refine aQ (assignInOrder_cons (Nx (xr N hN G (.inl hz) rz (λR C=>assignInOrder_cons (Nx (xr C hN K (.inl r) rw' (λU M=>(assignInOrder_cons (Nx (xr M hN hi (.inl t) rv (λS A=>assignInOrder_nil (bM ?_)) (.inr t))))) (.inr r)))) (.inr hz))));rw[Vy _ _ (jW m),Vy _ _ (jW n),Vy _ _ (jW l)] at A
 exact#[_,H1,A,B _ _ _ rfl]
theorem Y8{kt k2 rD}(G:035)(hN:049)(hi:X.N[i]?=aa x)(A:X.N[j]?=aa y)(s:X.N[k]?=aa z)(h:i≠j)(l:i≠k)(f:j≠k)
  (u:X.env.scope.names.lookup x=aa .local)(p:023)(hz:X.env.scope.names.lookup z=aa .local)(E:PA X [a,b,c] (Bu X.K g))
  (n:Cq [.Tuple [.Name x px,.Name y py,.Name z pz] kt pt] (.Tuple [a,b,c] k2 rD) X.env=pure (aa [x,y,z]))
  (hs:Cp [.Tuple [.Name x px,.Name y py,.Name z pz] kt pt] (.Tuple [a,b,c] k2 rD) pos.line X.env=pure aR:=by rfl):
  PS X (.Assign [.Tuple [.Name x px,.Name y py,.Name z pz] kt pt] (.Tuple [a,b,c] k2 rD) pos) (tS X.K (o7 [i,j,k] g)):=(arL G hN hi A s h l f u p hz E n hs).weak λD σ H bz=>by
 refine hide λGG o=>?_
 obtain⟨Z,Θ,ao,C,J,bK,C',S,d,q⟩:=bz
 unfold o7 at d;split at d
 case h_2=>cases d
 rename_i xs e1 C1 h1;split at d
 case isFalse=>cases d
 rename_i hl;cases(d);refine o (#[Z,Θ,_,C,xs,e1,C',S,h1,λvs as H1 F B n1 I a1=>#[by rw[Q8 a1,<-hl.1];rfl,λv w K e=>?_]])
 obtain⟨t,r⟩:=YH a1 hl.1 (cI.refl _) I
 subst e;refine q Θ _ H1 #[jT.refl _ _,rT F,λb m=>?_,t];rcases r b m with m|m
 .exact .inl (B.own.subset m)
 .exact .inr (n1 b m)
theorem apW(b:KV au vs):∀{us:042},us.length=vs.length->(∀(i:Nat)(v:aL),us[i]?=aa v->∃k x,vs[i]?=aa (k,x)/\(gq P w).is k v=aq)->Vals (au.map λd=>kV d.1) us:=by
 induction b with
 |nil=>
  intro us h2 a;cases us with
  |nil=>exact .nil
  |cons _ _=>trivial
 |@cons p w ps ws hp _ ih=>
  intro us h2 a;cases us with
  |nil=>trivial
  |cons u us=>
   refine .cons ?_ (ih (Oi h2) λi v e=>a (i+1) v e)
   obtain⟨k,x,e1,e2⟩:=a 0 u rfl
   have c:k=p.1:=by simp_all
   subst c;exact aeG e2
section
variable{X:Cx}
theorem NK(L:035):jh X (.builtin "sorted") (λxs H Q=>∃(d:aH)(au:List (Key×V))(ns:014),xs=[.ref d]/\uT H d au/\au.map (·.1)=ns.map .inr/\ns.length<64/\∀(l:aH)(ns':014),H l=aj->ns'.Perm ns->sortedS ns'=aq->Q (.ref l) (upd H l (.lst (ns'.map V.str)))):=by
 intro aC s σ H xs us Q I r h;refine hide λGG G=>?_
 obtain⟨d,au,ns,rfl,M,n,few,q⟩:=h
 obtain⟨u,rfl,O⟩:=vals1 r
 cases O
 obtain⟨z,lo,vs,f,E⟩:=vM I.hok M
 obtain⟨ep,F⟩:=E.dictAt
 have lv:=(Paired.length f).symm;refine G (Uu kind_sorted plain_sorted entry_sorted (args_sorted1 _) ?_);refine aQ  (bM (aQ (adQ  (kdl_dict   lo) (I.ok.hd L) F (by rwa[lv]) λh1 K bu g C a=>?_)));have B:=apW   f  (by exact a.1) λi v e=>let ⟨k,x,h⟩:=a.2 i v (by rwa[<-ab1]);#[k,x,h]
 have B:Vals (ns.map V.str) bu.toList:=by
  rwa [show ns.map V.str=(ns.map lX).map kV by rw[dJ];rfl,<-n,dJ]
 have p:=Pu B;have R:bu.toList.length=ns.length:=by rw[<-B.length,bR]
 refine aQ (NQ ?_ (by rw[jV];lia));have t:(h1.push _).get? _=aa (seqObj "list" bu.toList.toArray 0):=ji _ rfl;refine aQ (m9 (pC slot_list_sort #[_,t,rfl] entry_list_sort (list_sort_treeK strKind_oneLt t p.keysOf (λv1 v2 rest e=>keyKind_strs (by rwa[<-e])) aK λst j y=>#[_,rfl,?_]) (args_list_sort _)))
 obtain⟨ns',b1,b2,b3⟩:=sorted_out_str p j y
 obtain⟨c,J⟩:=sortedHeap_at  t
 have N:∀b o,s.heap.get? b=aa o->(sortedHeap (h1.push (seqObj "list" bu.toList.toArray 0)) _ bu.toList ((arrOf st).map (·.2))).get? b=aa o:=λb o e=>by
  have D:=dj (C b o e);rw[sortedHeap_old (fH D) (by rw[yH];exact yC D)];exact dF _ (C b o e)
 exact bM #[_,rfl,.ref _,_,I.laid (o:=.lst _)  N g #[by rw[bR,b2.length_eq,jV];omega,_,c,P0 b1,by rwa[Array.toArray_toList]],rfl,q _ ns' (I.hok.fresh g) b2 b3]
def xF:List az->Option Vl
 |[.dict au]=>(strsOf (au.map (·.1))).bind λns=>bif decide (ns.length<64) then aa (005 ((jL strLt ns).map .str)) else aj
 |_=>aj
theorem aeI:∀{au:021}{ns:014},strsOf (au.map (·.1))=aa ns->cO fO au=aa (ns.map .inr)
 |[],ns,h=>by cases h;rfl
 |(.str z,v)::au,ns,h=>by
  obtain⟨ns',h1,rfl⟩:∃ns',strsOf (au.map (·.1))=aa ns'/\ns=z::ns':=by
   have h:(strsOf (gR z::au.map _))=aa ns:=h;unfold strsOf at h
   grind
  unfold cO;rw[aeI h1];rfl
 |(.none,v)::au,ns,h=>by cases h
 |(.bool _,v)::au,ns,h=>by cases h
 |(.int _,v)::au,ns,h=>by cases h
 |(.list _,v)::au,ns,h=>by cases h
 |(.tuple _,v)::au,ns,h=>by cases h
 |(.dict _,v)::au,ns,h=>by cases h
theorem QW{K:bw}:mD K (λxs H Q=>∃(d:aH)(au:List (Key×V))(ns:014),xs=[.ref d]/\uT H d au/\au.map (·.1)=ns.map .inr/\ns.length<64/\∀(l:aH)(ns':014),H l=aj->ns'.Perm ns->sortedS ns'=aq->Q (.ref l) (upd H l (.lst (ns'.map V.str)))) xF:=by
 intro Z Θ ao C σ H xs ds res S b e Q q;refine hide λGG i=>?_
 unfold xF at e;split at e
 case h_2=>cases e
 obtain⟨ns,f,e⟩:=dB e
 cases hl:decide (ns.length<64) with
 |false=>simp_all
 |true=>
 rw[hl] at e;cases e;have hl:=of_decide_eq_true hl
 obtain⟨v,rfl,k⟩:=pN b
 obtain⟨a,vs,rfl,h,r⟩:=k.dct
 have c:=aeI f;rcases h with⟨ks,h1,ha⟩|⟨ks,⟨ne,h2⟩,ha⟩
 .rw[c] at h1;cases h1;have m:vs.length=(ns.map (lX:Str->Key)).length:=by rw[Dd r,vA c]
  refine i #[a,_,ns,rfl,Il ha,by rw[alK c4],hl,λl ns' g p j=>?_];rw[ZP p j];exact q _ _ (bL.upd g) (qN S (XX _) g)
 .exact absurd (xu c h2) ne
end
def at8(K:bw)(tl td:TE):TE:=λσ H Q=>tl σ H λx H1=>td σ H1 λy H2=>∃(a:aH)(ns:028),x=.ref a/\y=.bl aq/\cA K H2 a 050/\ns.length<64/\∀(l:aH)(ns':028),H2 l=aj->ns'.Perm ns->Ordered aq ns'->Q (.ref l) (upd H2 l (.lst (ns'.map V.int)))
theorem apY(G:035)(hl:PE X l tl)(hd:PE X de td)(hg:Gl X "sorted")(D:X.mg "sorted"=aj)(he:bV [l] X.env=(010 l)::bV [] X.env:=by rfl):PE X (.Call (.Name "sorted" p) [l] [#[aa "reverse",de,kp]] pos) (at8 X.K tl td):=by
 intro aC s σ H Q I h;refine Iv (yV I hg D (u:=.builtin "sorted") rfl ?_);have c:jx pos (bV [l] X.env)=(010 l)::jx pos (bV [] X.env):=by rw[he];rfl
 refine callWith_kw (e:=l) (rest:=[]) ?_ (he:=c) (hplain:=by rw[c];rfl);rw[he];refine BR (cz (hl aC s σ H _ I h) λv s1 ⟨x,H1,C,B,n⟩=>Iz (kws_cons (cz (hd aC s1 σ H1 _ C n) λu d ⟨y,H2,f,F,a,ns,ex,w,z,A,m⟩=>kws_nil ?_)));refine hide λGG r=>?_
 subst ex w;cases B;cases F
 obtain⟨j,k,t,_⟩:=f.list z
 have hi:IntsAre j ns:=intsAre_of k;have g:=k.length;rw[bR] at g;refine r (sorted_ints_rev (b:=aq) t.isList hi aK λout ns' a1 i E=>?_)
 obtain⟨e,he⟩:=sortedAll_at d.heap j out
 have q:ns'.length<=cG:=by rw[i.length_eq,jV];lia
 exact#[.ref (d.heap.objs.size+1),_,f.laid (o:=.lst (ns'.map V.int)) (t':=d.toks) (λ_ _=>sortedAll_old) (Ad _) #[by rw[bR];exact q,out.toList,e,PN a1,by simpa[seqObj] using he],rfl,m _ ns' (f.hok.fresh (Ad _)) i E]
def ZX(f g:FB):FE:=λao C=>(f ao C).bind λp=>(g p.2.1 p.2.2).bind λq=>(match p.1,q.1 with|.list ds,.bool true=>intsOf ds|_,_=>aj).bind λns=>bif decide (ns.length<64) then aa (.ow (.list ((jL ltI ns).reverse.map .int)),ao,q.2.2) else aj
theorem apZ(u:035)(hl:PE X l (eN X.K f))(hd:PE X de (eN X.K g))(hg:Gl X "sorted")(y:X.mg "sorted"=aj)(he:bV [l] X.env=(010 l)::bV [] X.env:=by rfl):
  PE X (.Call (.Name "sorted" p) [l] [#[aa "reverse",de,kp]] pos) (tE X.K (ZX f g)):=(apY u hl hd hg y he).weak λσ H Q bz=>by
 refine hide λGG o=>?_
 obtain⟨Z,Θ,ao,C,r,bK,C',S,c,q⟩:=bz
 obtain⟨p1,h1,c⟩:=dB c
 obtain⟨p2,h2,c⟩:=dB c
 obtain⟨ns,d,c⟩:=dB c
 cases b:decide (ns.length<64) with
 |false=>rw[b] at c;cases c
 |true=>
 rw[b] at c;cases(c);have b:=of_decide_eq_true b
 obtain⟨z,e1,C1⟩:=p1
 obtain⟨A,e2,C2⟩:=p2
 split at d
 case h_2=>cases d
 rename_i i h;subst i h;refine o (#[Z,Θ,_,C,_,e1,C1,S,h1,λv H1 i B n b1=>#[Z,Θ,e1,C1,_,e2,C2,n,h2,λw H2 h x s b2=>?_]])
 obtain⟨a,vs,rfl,k,r⟩:=(b1.go n h x).lst
 rw[QG d r] at k
 refine#[a,ns,rfl,b2,cA.of k,b,λD ns' m p t=>?_]
 have e:ns'=(jL ltI ns).reverse:=by
  rw[<-sortI ((List.reverse_perm _).trans p) (akE.mpr t),List.reverse_reverse]
 rw[e];have j:=i.trans h;exact q _ _ (j.trans (bL.upd m)) 024 ((qN (S.go j s.cell) (afj _) m).from j)
inductive gn(K:bw)(x:Str)(st:dH):Prop
 |mk {f:aH} {oc:aL} {od an:Option aH} {osl:Array (Option aL)} {kV doc pm cdv ct:aL} (a:pD K jA x=aa (aa (.ref f))) (l:K.lookup f=aa #[oc,od,.func (Cr x x (Gv st) (yR st) (cN st) .none kV doc pm an cdv ct),osl]) (c:Vq K cdv x=aq) (k:EY K (.ref f)=aq):gn K x st
abbrev ZZ(x:Str)(st:dH)(ps:List Str):Prop:=∀(kV doc pm:aL)(an:Option aH)(cdv ct:aL)(us:List aL),us.length=ps.length->bindArgs (Cr x x (Gv st) (yR st) (cN st) .none kV doc pm an cdv ct) #[us,[]]=pure (ps.zip us)
section
variable{P:dY}{w:cW}{K:bw}{x:Str}{st:dH}{k:Nat}{ps:List Str}{sp:Sp}
theorem gn.has(d:gn K x st)(X:K.In h)(G:h.Ns jA mg)(o:∀f fd,fM K x x st f fd->eV P w K mg base eY k f fd ps sp)(e:ZZ x st ps):cX P w K mg base x k ps sp:=by
 obtain⟨a,l,c,b⟩:=d
 have F:=ZC l c b
 exact#[_,_,Vz X G a,b,F.binds e,o _ _ F]
theorem gn.awl(d:gn K x st)(X:K.In h)(G:h.Ns jA mg)(o:∀f fd,mg x=aa (.ref f)->EY K (.ref f)=aq->Binds K fd ps []->fM K x x st f fd->cX P w K mg base x k ps sp)(e:ZZ x st ps):cX P w K mg base x k ps sp:=by
 obtain⟨a,l,c,b⟩:=d
 have F:=ZC l c b;exact o _ _ (Vz X G a) b (F.binds e) F
theorem gn.law{y:Str}(d:gn K x st)(X:K.In h)(G:h.Ns jA mg)(b:mg x=aa (.ref fa))(o:∀base f fd,fM K x x st f fd->eV P w K mg base eY k f fd [y] sp)(i:ZZ x st [y]):
  ∃fd:um,(∀(s:bf)(v:aL),Gu s fd #[[v],[]] [(y,v)])/\∀base:cF,K.In base->base.Ns jA mg->eV P w K mg base eY k fa fd [y] sp:=by
 refine hide λGG g=>?_
 obtain⟨a,l,c,j⟩:=d
 have e:=b.symm.trans (Vz X G a);cases e;exact g (#[_,λs v=>.of_eq (i _ _ _ _ _ _ _ rfl),λbase z z=>o _ _ _ (ZC l c j)])
theorem iR{B:List aL->Prop}(h:B []):∀us:List aL,us.length=0->B us
 |[],_=>h
theorem cu{B:List aL->Prop}(h:∀a,∀us:List aL,us.length=n->B (a::us)):∀us:List aL,us.length=n+1->B us
 |a::us,e=>h a us (Oi e)
end
section
open PySem.SeqAt
open PySem.AutoSeq1 (wpAny_loadPart')
open PySem.MeetsSeq PySem.MeetsSeq2 PySem.MeetsSeq3
theorem agV{xs:Array aL}(h:xs.toList.drop i=x::r):xs[i]?=aa x/\xs.toList.drop (i+1)=r:=by
 have h1:=by
  have:=congrArg (·[0]?) h;simpa using this
 refine#[‹_›,?_]
 rw[<-List.tail_drop,h,List.tail_cons]
theorem agW(l b:aH)(items items2:Array aL)(n n2:Nat)(v k:Option aH)(sl j:Array (Option aL))(hsz:items.size=items2.size):
  ∀(ns m:List Key)(i:Nat),Vals (ns.map kV) (items.toList.drop i)->Vals (m.map kV) (items2.toList.drop i)->ns.map cL=m.map cL->Meets (qg.«list.__eq__.loop» #[[.ref l,.ref b,mK i,mK 0],[]])
   (λ_ R s=>s.heap.get? l=aa {cls:=.type "list",dict:=v,data:=.seq items n,slots:=sl}/\s.heap.get? b=aa {cls:=.type "list",dict:=k,data:=.seq items2 n2,slots:=j}/\R (.ok (.ret (.bool (iJ ns m)))) s)
 |[],[],i,h1,h2,_=>λprog w A R s h=>by
  obtain⟨t,g,d,u,q⟩:=s;obtain⟨hl,f,h⟩:=h
  have r:=h1.length;rw[Vc,p6] at r;have r:0=items.size-i:=r;have o:items[((i:Nat):Int).toNat]?=aj:=by simp;lia
  have p:items2[((i:Nat):Int).toNat]?=aj:=by simp;lia
  wp_walk using sV hl,sV f;rw[o,p];wp_walk using sV hl,sV f;show R (.ok (.ret (.bool (decide (items.size<items2.size))))) _;rw[jz aK];exact h
 |a::ns,c::m,i,h1,h2,ht=>λprog w A R s h=>by
  obtain⟨t,g,d,u,q⟩:=s;obtain⟨hl,f,h⟩:=h
  generalize e1:items.toList.drop i=xs at h1;generalize e2:items2.toList.drop i=ys at h2;cases h1 with
  |cons r1 t1=>
   cases h2 with
   |cons r2 t2=>
    obtain⟨o,y⟩:=agV e1
    obtain⟨p,z⟩:=agV e2
    have x:cL a=cL c:=(Fi ht).1;have B:((i:Int)+1)=((i+1:Nat):Int):=rfl;unfold iJ at h;wp_walk using sV hl,sV f;rw[Er,o,p];refine aQ (XN A.in1 #[t,g,d,u,q] r1 r2 x prog w _ _ ?_);by_cases e:a=c
    .rw[bZ e] at h;rw[f9 e];wp_walk;rw[B]
     refine#[vf plain_eq_loop _,wW entry_eq_loop ?_]
     rw[ab4 plain_eq_loop _];exact agW l b items items2 n n2 v k sl j hsz ns m (i+1) (by rw[y];exact t1) (by rw[z];exact t2) (Fi ht).2 prog w A R _ #[hl,f,h]
    .rw[cC e] at h;rw[jz e];have C:=Qv A.in1 #[t,g,d,u,q] r1 r2 x prog w;wp_walk using sV hl,sV f;rw[o,p];wp_walk using C;simpa using h
theorem arM(l b:aH)(items items2:Array aL)(n n2:Nat)(e d:Option aH)(sl a:Array (Option aL))(hsz:items.size=items2.size)(ns c:List Key)(h1:Vals (ns.map kV) items.toList)(h2:Vals (c.map kV) items2.toList)(ht:ns.map cL=c.map cL):
  Meets (qg.«list.__lt__» #[[.ref l,.ref b],[]])
   (λ_ R s=>s.heap.get? l=aa {cls:=.type "list",dict:=e,data:=.seq items n,slots:=sl}/\s.heap.get? b=aa {cls:=.type "list",dict:=d,data:=.seq items2 n2,slots:=a}/\R (.ok (.ret (.bool (iJ ns c)))) s):=by
 intro prog w A R s h
 obtain⟨hl,f,h⟩:=h
 have g:=AutoSeq1.sub_list_list;wp_walk using sV hl,sV f
 exact#[vf plain_eq_loop _,wW entry_eq_loop (agW l b _ _ n n2 e _ sl a hsz ns c 0 h1 h2 ht _ w A R _ #[hl,f,h])]
def aja(A:fB)(s:bf)(x y:aL)(r:Bool):Prop:=∀(prog:dY)(w:cW)(E Q:015),Q (.bool r) s->bH 09 A (Js .Lt x y) Q E s
theorem anD(hl:s.heap.IsList l items)(o:s.heap.IsList b items2)(h1:Vals (ns.map kV) items.toList)(h2:Vals (ms.map kV) items2.toList)(ht:ns.map cL=ms.map cL)(hu:A.units<fJ):aja A s (.ref l) (.ref b) (iJ ns ms):=λprog w E Q h=>by
 refine hide λGG m=>?_
 obtain⟨⟨cls,k,data,sl⟩,j,g,n,i⟩:=id hl
 obtain⟨⟨f,p,e,q⟩,a,c,n2,d⟩:=id o
 simp only at g i c d;subst g i c d;have r:=by have:=h1.length;simpa using this
 have u:=by have:=h2.length;simpa using this
 have t:=by have:=congrArg sW ht;simpa using this
 exact m (abW ⟨_,j,rfl⟩ ⟨_,a,rfl⟩ PySem.F.slot_list_lt PySem.F.entry_list_lt (PySem.F.args_list_lt_2 _ _) (arM l b _ _ n n2 k _ sl _ c4 ns ms h1 h2 ht)
  ⟨j,a,⟨(λx=>nomatch x),h⟩⟩ hu)
inductive zu(A:fB)(s:bf):List aL->List aL->Bool->Prop
 |nil:zu A s [] [] aR
 |eq:EqAt A s x y aq->zu A s xs ys r->zu A s (x::xs) (y::ys) r
 |ne:EqAt A s x y aR->aja A s x y r->xs.length=ys.length->zu A s (x::xs) (y::ys) r
theorem zu.len(h:zu A s xs ys r):xs.length=ys.length:=by
 induction h with
 |nil=>rfl
 |eq _ _ ih=>grind
 |ne _ _ e=>grind
theorem ap0(l b:aH)(items items2:Array aL)(n n2:Nat)(p i:Option aH)(sl f:Array (Option aL))(r:Bool):
  Meets (qg.«tuple.__lt__» #[[.ref l,.ref b],[]])
   (λA R s=>s.heap.get? l=aa {cls:=.type "tuple",dict:=p,data:=.seq items n,slots:=sl}/\s.heap.get? b=aa {cls:=.type "tuple",dict:=i,data:=.seq items2 n2,slots:=f}/\zu A.in1 s items.toList items2.toList r/\R (.ok (.ret (.bool r))) s):=
 .of_wp λprog w A R s h=>by
  obtain⟨k,g,d,m,j⟩:=s;obtain⟨hl,q,a,h⟩:=h
  have u:=akg;have o:=a.len;rw[p6,p6] at o;wp_walk using sV hl,sV q,acr _ (λrest b s'=>b.1=aj/\s'=#[k,g,d,m,j]/\∃vs ws,rest=vs.zip ws/\zu A.in1 #[k,g,d,m,j] vs ws r) _
  case turn=>
   rintro⟨y,x⟩ rest b s' ⟨hb',rfl,vs,ws,hz,a⟩
   cases a with
   |nil=>cases hz
   |eq e t=>
    rw[UW] at hz;cases hz;refine aQ (e prog w _ _ ?_);wp_walk
    exact#[rfl,rfl,_,_,rfl,t]
   |ne e c _=>
    rw[UW] at hz;cases hz;refine aQ (e prog w _ _ ?_);have c:=c prog w;wp_walk using c
    exact#[_,rfl,by simpa using h]
  case fin=>
   rintro⟨b1,b2⟩ s' ⟨hb',rfl,vs,ws,hz,a⟩
   simp only at hb';subst hb';cases a with
   |nil=>
    wp_walk
    exact#[_,rfl,by simpa[aj5,o] using h]
   |eq=>cases hz
   |ne=>cases hz
  case h=>exact#[rfl,rfl,_,_,rfl,a]
end
theorem Yj:∀{ns:List Key}{xs:042}{j:Nat}{v:aL},Vals (ns.map kV) xs->xs[j]?=aa v->∃x,ns[j]?=aa x/\RelV (kV x) v:=by
 intro ns;induction ns with
 |nil=>intro xs j v d h;cases d;cases h
 |cons n ns ih=>
  intro xs j v d h;cases d with|cons r t=>
  cases j with
  |zero=>exact#[n,rfl,nO h▸r]
  |succ j=>exact ih t h
theorem aoz{ns a:List Key}(hl:s.heap.IsList l items)(f:s.heap.IsList b items2)(h1:Vals (ns.map kV) items.toList)(h2:Vals (a.map kV) items2.toList)(ht:ns.map cL=a.map cL)(hs:l=b->ns=a)(hu:A.units<fJ):Cz A s (.ref l) (.ref b) (decide (ns=a)):=by
 by_cases e:l=b
 .subst e;rw[f9 (hs rfl)];exact Vh _
 .have m:=by have:=h1.length;simpa using this
  have o:=by have:=h2.length;simpa using this
  have n:=by have:=congrArg sW ht;simpa using this
  have d:∀j (a1:j<items.size)(c:j<items2.size),∃x y,ns[j]?=aa x/\a[j]?=aa y/\Cz A.in1 s _ _ _:=λj a1 c=>by
   obtain⟨x,e1,g⟩:=Yj h1 (j:=j) (v:=items[j]) (by simp[*])
   obtain⟨y,e2,k⟩:=Yj h2 (j:=j) (v:=items2[j]) (by simp[c])
   refine#[x,y,e1,e2,XN _ _ g k ?_]
   have:=congrArg (·[j]?) ht
   grind
  refine UL e ?_;have:=SeqAt.RcAt.lists (e:=λj=>decide (ns[j]?=a[j]?)) hl f c4 hu (λj a1 c=>by
   obtain⟨x,y,e1,e2,h⟩:=d j a1 c
   rw[e1,e2];simpa using h)
  have eq:(gQ items.size).all (λj=>decide (ns[j]?=a[j]?))=decide (ns=a):=by
   rw[Cg,u6,decide_eq_true_iff]
   refine#[λh=>aco λi=>?_,λh j z=>by lia]
   grind
  rwa [<-eq]
theorem ahW:∀ks:List Key,iJ ks ks=aR
 |[]=>rfl
 |k::ks=>by
  unfold iJ;rw[bZ rfl];exact ahW ks
def ajb:R2:=λx y H Q=>∃a b i j l m ks js,x=.ref a/\y=.ref b/\H a=aa (.tup [.int i,.ref l])/\H b=aa (.tup [.int j,.ref m])/\H l=aa (.lst (ks.map kV))/\H m=aa (.lst (js.map kV))/\(i=j->ks.map cL=js.map cL)/\Q (.bl (if i=j then iJ ks js else decide (i<j))) H
theorem at9(hu:033):dX X (iu .Lt) ajb:=by
 intro aC s σ H x y v u Q I rx V h;refine hide λGG gg=>?_
 obtain⟨a,b,i,j,l,m,ks,js,rfl,rfl,ha,hb,hl,M,ht,q⟩:=h
 have hu:=z6 hu;cases rx;cases V
 obtain⟨L,U,p1,_⟩:=I.tuple (dW.of (K:=X.K) ha)
 obtain⟨C,r2,p2,_⟩:=I.tuple (dW.of (K:=X.K) hb)
 obtain⟨i3,P,D,_⟩:=I.list (cA.of (K:=X.K) hl)
 obtain⟨i4,J,G,_⟩:=I.list (cA.of (K:=X.K) M)
 obtain⟨w1,w2,e1,T,Y⟩:=U.two
 obtain⟨w3,w4,e2,W,Z⟩:=r2.two
 obtain⟨B,rfl⟩:=T
 obtain⟨N,rfl⟩:=W
 cases Y;cases Z;have z:zu X.A.in1 s L C (if i=j then iJ ks js else decide (i<j)):=by
  rw[e1,e2];have o:=ak4 (A:=X.A.in1) (s:=s) i B j N;by_cases h:i=j
  .rw[beq_iff_eq.mpr h] at o;rw[bZ h];refine .eq o ?_;have g:=aoz (A:=X.A.in1) D.isList G.isList P J (ht h) (λe=>by
    subst e;have:=nO (hl.symm.trans M);injection this with this
    exact agk this) hu
   by_cases k:ks=js
   .rw[f9 k] at g;rw[k,ahW];exact .eq g .nil
   .rw[jz k] at g;exact .ne g (anD D.isList G.isList P J (ht h) hu) rfl
  .rw[beq_eq_false_iff_ne.mpr h] at o;rw[cC h];exact .ne o (λprog w E Q q=>Qv (a:=.inl i) (b:=.inl j) X.A.in1 s #[B,rfl] #[N,rfl] rfl prog w E Q q) rfl
 obtain⟨⟨cls,dd,data,sl⟩,S,R,n,F⟩:=id p1
 obtain⟨⟨O,r,p,t⟩,d,c,n2,f⟩:=id p2
 simp only at R F c f;subst R F c f;exact gg (abW (op:=.Lt) ⟨_,S,rfl⟩ ⟨_,d,rfl⟩ akD aks (akl _ _) (ap0 a b L.toArray C.toArray n n2 dd r sl t _)
  ⟨S,d,z,⟨(λx=>nomatch x),iW I q rfl⟩⟩ c4)
def K5:az->az->Option Vl
 |.tuple [.int a,.list xs],.tuple [.int b,.list ys]=>(keysOf xs).bind λks=>(keysOf ys).bind λjs=>if a=b->ks.map cL=js.map cL then aa (.im (.bool (if a=b then iJ ks js else decide (a<b)))) else aj
 |_,_=>aj
theorem aaw(h:er P H a=aa o):H a=aa o:=by
 unfold er at h;simp_all
theorem aua{K:bw}:jt K ajb K5:=by
 intro Z Θ ao C σ H x y dx p res S g f e Q q;unfold K5 at e;refine hide λGG d=>?_
 split at e
 .obtain⟨ks,h1,e⟩:=sU.mp e
  obtain⟨js,h2,e⟩:=sU.mp e
  split at e
  .rename_i ht;cases e
   obtain⟨a,vs,rfl,j,v1,z,rfl,i,z,z,rfl,⟨l,ls,rfl,hl,n⟩,rfl⟩:=g.tup
   obtain⟨b,ws,rfl,h,v2,z,rfl,k,z,z,rfl,⟨m,r,rfl,c,o⟩,rfl⟩:=f.tup
   cases i
   cases k
   rw[Ae h1 n] at hl;rw[Ae h2 o] at c;exact d (#[a,b,_,_,l,m,ks,js,rfl,rfl,j,h,aaw hl,aaw c,ht,q _ _ 009 030])
  lia
 lia
section
variable{X:Cx}{e es:Expr}{p2 pos:Pos}
end
theorem aoA{k:Nat}{sl:Array (Option aL)}(j:s.heap.get? a=aa {cls:=.type "list",dict:=aj,data:=.seq xs k,slots:=sl})(r:045)
  (h:∀h' l,(∀b o,s.heap.get? b=aa o->h'.get? b=aa o)->Q aj {s with heap:=h',toks:=l}):bH 09 A (getAttr? 043 "keys") Q E s:=by
 obtain⟨p,g,d,l,i⟩:=s
 have m:∀tk',(#[p,g,d,tk',i]:bf).TypeIs (.ref a) "list":=λw=>#[_,j,rfl]
 have x:=sub_AttributeError;have z:=F.slot_list_getattribute.lookup;have u:=F.slot_list_getattribute.bind 043;have v:=am_list_getattr_none;have t:typeLookup (.type "list") "keys"=pure aj:=am_miss_of_fast bG;unfold getAttr? getAttrBy? getAttrBy
 repeat (any_goals (first|assumption|exact m _|((with_reducible show bH _ _ (call (Value.builtin "list.__getattribute__") _ _) _ _ _);refine WL F.slot_list_getattribute (m _) am_entry_list_getattribute (F.args_list_getattribute_2 _ _) (meets_getattribute_miss_list a xs k sl "keys" _ t bh bh) #[j,r,λh' tk' e c=>?_])|wp_step))
 obtain⟨B,y,q⟩:=c.there
 have n:∀f,(#[h',g,d,f,i]:bf).TypeIs (.ref e) "AttributeError":=λw=>#[_,q,rfl]
 unfold ak7
 repeat (any_goals ((wp_step)))
 exact h _ _ c.keeps
theorem aeJ:Qx table "dict.update.loop"=aa qg.«dict.update.loop»:=alH (rfl)
theorem aeK:plainId "dict.update.loop"=aq:=bG
def Z0(knd:Aa prog w Key)(h:cF)(p:Key×aL)(v:aL):Prop:=∃t kv o c,v=.ref t/\knd.is p.1 kv=aq/\h.get? t=aa o/\o.cls=.type "tuple"/\o.data=.seq #v[kv,p.2] c
theorem pair_items(a:s.heap.get? t=aa o)(b:o.cls=.type "tuple")(hd:o.data=.seq xs c)(h:Q xs.toList s):bH 09 A (ayY (.ref t)) Q E s:=by
 exact aQ (Ft #[o,a,b] (aQ (Ck a hd (bM h))))
theorem arN{I D:aH}{fp wr:040}{n:Nat}{St:Nat->cF->Prop}{s0:cF}{prs:List (Key×aL)}{res:aL}(W:Ay prog w A.in1 I fp wr n Pv St)(d:∀j v,Pv j v->∃p,prs[j]?=aa p/\Z0 (gq prog w) s0 p v)(i:∀b o,s0.get? b=aa o->b∉wr/\b≠D)(out:D∉fp)(S:prs.length=n):
  ∀(m j:Nat)(s:bf)(vs:List (Key×aL)),n-j=m->j<=n->St j s.heap->(∀b o,s0.get? b=aa o->s.heap.get? b=aa o)->s.heap.DictOf (gq prog w) D vs->vs.length+m<=cG->
  (∀h' h,h'.DictOf (gq prog w) D ((prs.drop j).foldl (λvs p=>stored vs p.1 p.2) vs)->(∀b o,s0.get? b=aa o->h'.get? b=aa o)->R (.ok (.ret res)) {s with heap:=h',toks:=h})->
  nQ 09 A (.builtin "dict.update.loop" #[[.ref D,.ref I,mK j,res],[]]) R s:=by
 have E:D∉wr:=λz=>out ((W).sub _ z)
 intro m;induction m with
 |zero=>
  intro j s vs P J st u k hl x;have f:j=n:=c4;refine wW aeJ (aQ (W.done s _ _ (f▸st) λh' h a=>(aQ (bM (bM (x h' h ?_ λb o e=>a b o (i b o e).1 (u b o e)))))));rw[akv c4]
  obtain⟨o,es,ep,g,r⟩:=k
  exact#[o,es,ep,a D o E g,r]
 |succ m ih=>
  intro j s vs P J st u k hl x;refine wW aeJ ?_;refine aQ (W.item j s _ _ c4 st λv h' h pv C a=>(hide λGG G=>?_))
  obtain⟨p,K,t,T,o,c,rfl,H,g,N,O⟩:=d j v pv
  have F:=λb o e=>a b o (i b o e).1 (u b o e)
  have L:h'.DictOf (gq prog w) D vs:=by
   obtain⟨o,es,ep,g,r⟩:=k
   exact#[o,es,ep,a D o E g,r]
  refine G (aQ (m9 (aQ (NB (pair_items (F t o g) N O (m9 (akU (hsz:=c4) H L λh2 y sb=>bM #[vf aeK _,ih (j+1) _ _ c8 c4 (W.frame _ _ _ C λb q o e=>(sb.2 b λz=>out (z▸q)).trans e) (λb o e=>(sb.2 b (i b o e).2).trans (F b o e)) y ?_ λM B Q l=>?_])))))))
  .have:=stored_length_le vs p.1 p.2;lia
  .refine x M B ?_ l;have:prs.drop j=p::prs.drop (j+1):=by
    obtain⟨lt,e⟩:=lW.mp K
    rw[Uw lt,e]
   rwa [this,z7]
theorem anE{l:aH}{items:Array aL}{k:Nat}{sl:Array (Option aL)}{prs:List (Key×aL)}(x:s.heap.get? l=aa {cls:=.type "list",dict:=aj,data:=.seq items k,slots:=sl})(z:045)(G:prs.length=items.size)(hz:prs.length<=cG)
  (f:∀(j:Nat) v,items[j]?=aa v->∃p,prs[j]?=aa p/\Z0 (gq prog w) s.heap p v)
  (h:∀h' q,h'.DictOf (gq prog w) s.heap.objs.size (prs.foldl (λvs p=>stored vs p.1 p.2) [])->(∀b o,s.heap.get? b=aa o->h'.get? b=aa o)->Q 048 {s with heap:=h',toks:=q}):bH 09 A (call (.type "dict") [.ref l]) Q E s:=by
 refine callType_codes (Q₁:=λobj s₁=>obj=.ref s.heap.objs.size/\s₁={s with heap:=s.heap.push _}) F.kt_called_dict (F.kt_typeCall_dict_1 _) F.entry_dict_init (kt_code_dict_new _ #[rfl,rfl]) ?_;rintro obj s₁ ⟨rfl,rfl⟩;have a:(s.heap.push _).DictOf (gq prog w) s.heap.objs.size []:=Heap.DictOf.new s.heap;have c:(s.heap.push {cls:=.type "dict",data:=.dict #v[]}).get? l=aa _:=dF _ x
 refine#[a.typeIs,F.args_dict_init_2 _ _,?_]
 unfold qg.«dict.__init__»;refine aQ ?_;unfold ayU;refine aQ (ab0 a.typeIs (bM ?_));show bH _ _ (ako "dict.__init__" s.heap.objs.size (.ref l) [] .none) _ _ _;unfold ako;refine aQ (Ft (T:="list") #[_,c,rfl] ?_);rw[bZ bh];refine aQ (aoA c (‹_›) λh1 t g=>?_);have i:=g l _ c;have d:h1.IsList l items:=#[_,i,rfl,_,rfl]
 have m:s.heap.objs.size<h1.objs.size:=by
  obtain⟨o,es,ep,u,_⟩:=a
  exact dj (g _ o u)
 have B:l<s.heap.objs.size:=dj x;have y:∀b o,s.heap.get? b=aa o->b<s.heap.objs.size:=λb o e=>dj e
 refine aQ (wZ (aQ (U0 (s:={s with heap:=h1,toks:=t}) d ?_)));have W:=ad0 (prog:=prog) (w:=w) (A:=A.in1.in1) (‹_›) h1.objs.size l (fH (Cu B m)) items;refine bM #[vf aeK _,(arN (s0:=s.heap) (prs:=prs) (n:=items.size) W f (λb o e=>#[by simp;exact fH (Cu (y b o e) m),fH (y b o e)]) (by simp only[cB,nM,or_false,not_or];exact#[fH m,yJ B]) G _ 0 _ [] rfl (lO _) #[#[_,ji _ rfl,rfl,rfl],d.push _] (λb o e=>dF _ (g b o (dF _ e))) ?_ (by show 0+(items.size-0)<=_;lia) λh' q C H=>?_)]
 .refine hide λGG D=>?_;obtain⟨o,es,ep,u,r⟩:=a
  exact D (#[o,es,ep,dF _ (g _ o u),r])
 .exact#[rfl,h h' q C H]
theorem aee:∀(prs bu:List (Key×aL)),((bu++prs).map (·.1)).Nodup->prs.foldl (λvs p=>stored vs p.1 p.2) bu=bu++prs
 |[],bu,_=>(jg _).symm
 |p::prs,bu,h=>by
  have e:stored bu p.1 p.2=bu++[p]:=by
   unfold stored
   grind
  rw[z7,e,aee _ _ 07,ie];rfl
abbrev S9:=aH×Key×V
theorem anF(M:035):jh X (.type "dict") (λxs H Q=>∃(p:aH)(aY:List S9),xs=[.ref p]/\cA X.K H p (aY.map λr=>V.ref r.1)/\(∀r∈aY,H r.1=aa (.tup [kV r.2.1,r.2.2]))/\(aY.map (·.2.1)).Nodup/\∀D e,H D=aj->Q (.ref D) (upd H D (.dK 026 e))):=by
 intro aC s σ H xs us Q I r h;refine hide λGG i=>?_
 obtain⟨p,aY,rfl,F,g,S,q⟩:=h
 obtain⟨u,rfl,P⟩:=vals1 r
 cases P
 obtain⟨b,r',B,z⟩:=I.list F
 rw[bR] at z;have m:∀(aY:List S9)(b:042),(∀r∈aY,H r.1=aa (.tup [kV r.2.1,r.2.2]))->Vals (aY.map λr=>V.ref r.1) b->∃prs:List _,prs.length=b.length/\KV 026 prs/\prs.map (·.1)=aY.map (·.2.1)/\∀(j:Nat) v,b[j]?=aa v->∃p,prs[j]?=aa p/\Z0 (gq X.prog X.w) _ p v:=λaY=>by
  induction aY with
  |nil=>
   intro b _ r;cases r
   exact#[[],rfl,.nil,rfl,λj v e=>by cases e]
  |cons a aY ih=>
   intro b g r;refine hide λGG i=>?_
   cases r with
   |cons h t=>
    rename_i b;cases h
    obtain⟨prs,l,k,ks,f⟩:=ih b (λr N=>g r (fU _ N)) t
    obtain⟨U,R,p2,_⟩:=I.tuple (dW.of  (g a fV))
    obtain⟨C,G,e1,A,J⟩:=R.two
    subst e1
    obtain⟨o,w,x,c,O⟩:=p2
    refine i (#[(a.2.1,G)::prs,by rw[eZ,eZ,l],.cons #[rfl,J] k,by rw[dN,dN,ks],λj v e=>?_]);cases j with
    |zero=>cases e;exact#[_,rfl,_,C,o,c,rfl,zb A,w,x,O]
    |succ j=>exact f j v (by simpa using e)
 obtain⟨prs,l,k,ks,f⟩:=m aY b g r'
 have T:=by
  have:=congrArg sW ks;simpa using this
 obtain⟨o,n,w,h1,h2,y⟩:=B
 obtain⟨cls,dct,data,sl⟩:=o
 simp only at h1 h2 y;subst h1 h2 y;refine i (anE  w (I.ok.hd M) (by rw[l,u5]) c4 (λj v e=>f j v (by simpa using e)) λh' L d E=>?_);rw[aee _ [] (by rwa [lN,ks])] at d
 obtain⟨ep,d⟩:=d.dictAt
 exact#[.ref _,_,I.laid  E 046 (Kf (by rwa [bR]) (beq_eq_false_iff_ne.mpr (jW (fH I.big))) k d),rfl,q _ ep (I.hok.fresh 046)]
def pairsOf:List az->Option (List (az×az))
 |[]=>aa []
 |.tuple [k,v]::r=>(pairsOf r).map λt=>(k,v)::t
 |_=>aj
def Rz:List az->Option Vl
 |[.list ds]=>(pairsOf ds).bind λau=>(cO fO au).bind λks=>if ks.Nodup then aa (.ow (.dict au)) else aj
 |_=>aj
theorem afG:∀{ds:036}{au:021}{ks:List Key}{vs:041},pairsOf ds=aa au->cO fO au=aa ks->cQ E ds vs->∃aY:List S9,vs=aY.map (λr=>V.ref r.1)/\(∀r∈aY,E r.1=aa (.tup [kV r.2.1,r.2.2]))/\aY.map (·.2.1)=ks/\jb E au (aY.map (·.2.2))
 |[],au,ks,vs,h1,h2,r=>by
  cases h1;cases h2;cases r
  exact#[[],rfl,λz h=>(nomatch h),rfl,rfl]
 |d::ds,au,ks,vs,h1,h2,r=>by
  unfold pairsOf at h1;split at h1
  .cases ‹_=[]›
  .rename_i k v t e;cases e
   obtain⟨c,j,rfl⟩:=pY.mp h1
   unfold cO at h2;split at h2
   .rename_i f s b o;cases h2
    obtain⟨w,n,rfl,⟨a,us,rfl,p,x,l,rfl,rx,y,z,rfl,g,rfl⟩,i⟩:=r
    obtain⟨aY,rfl,q,rfl,rd⟩:=afG j o i
    have ex:x=kV f:=by
     cases k<;>first|(cases b;trivial)|cases b
    refine#[(a,f,y)::aY,rfl,λr m=>?_,rfl,#[y,_,rfl,g,rd]]
    grind
   simp_all
  trivial
theorem arO{K:bw}:mD K (λxs H Q=>∃(p:aH)(aY:List S9),xs=[.ref p]/\cA K H p (aY.map λr=>V.ref r.1)/\(∀r∈aY,H r.1=aa (.tup [kV r.2.1,r.2.2]))/\(aY.map (·.2.1)).Nodup/\∀D e,H D=aj->Q (.ref D) (upd H D (.dK 026 e))) Rz:=by
 intro Z Θ ao C σ H xs ds res S b e Q q;unfold Rz at e;refine hide λGG g=>?_
 split at e
 .obtain⟨au,h1,e⟩:=sU.mp e
  obtain⟨ks,h2,e⟩:=sU.mp e
  split at e
  .rename_i f;cases e
   obtain⟨v,rfl,k⟩:=pN b
   obtain⟨a,vs,rfl,i,r⟩:=k.lst
   obtain⟨aY,rfl,j,rfl,rd⟩:=afG h1 h2 r
   refine g (#[a,_,rfl,cA.of i,λr c=>aaw (j r c),f,λD ep d=>q _ _ (bL.upd d) (agB S (λz h=>nomatch h) (.inl #[_,h2,ep,?_]) rd d)])
   show(if D=D then aa _ else _)=_
   grind
  lia
 lia
theorem avv(d:az):HW (.im d)=aR:=rfl
theorem avw(d:az):HW (.ow d)=aR:=rfl
theorem avx(n:Nat):HW (.ce n)=aR:=rfl
end L2
namespace HT
open PySem PySem.Spec PyProof.Rows
open Sem (wp)
open Builtin
end HT
namespace L2
open PySem PySem.Spec PyProof.Rows PySem.W
section
variable{X:Cx}
def ajc(d:az):Str:=match d with
 |.str x=>x
 |d=>d.shown
end
def T8(x:Str):Prop:=∀c∈x.cps.toList,c<16^8
theorem arP(c:Char):c.toNat<16^8:=c.val.toNat_lt
theorem ahX(s:String):T8 (gV s):=λc a=>by
 rw[Str.ofString_eq_toList] at a
 obtain⟨k,_,rfl⟩:=dG.mp a
 exact arP k
structure Th(e B:Nat)(M:Int)(d:az):Prop where
 nd:iK d=aq
 sh:lH e B d
 tl:(ajc d).length<=B
 cp:T8 (ajc d)
 mg:∀i,d=.int i->-M<=i/\i<=M
theorem arQ:Th 0 10 M .none:=#[rfl,#[rfl,(lO _),by decide],by show(vo _).length<=10;trivial,by show T8 _;exact ahX _,λi k=>nomatch k]
theorem arR(b:Bool):Th 0 10 M (.bool b):=by
 refine#[rfl,#[rfl,(lO _),?_],?_,?_,λi k=>nomatch k]
 .simp only[vo];cases b<;>decide +kernel
 .show(vo _).length<=10;simp only[vo];cases b<;>decide +kernel
 .show T8 _;cases b<;>exact ahX _
theorem JN(h:∀d∈ds,lH e B d)(a:ds.length<=C):lH (e+1) (C*(B+2)+3) (.list ds):=by
 obtain⟨h1,h2,c⟩:=Y4 h
 refine#[by trivial,by simp[vm];omega,?_]
 simp only[vo];have:=listText_len_le (Jc ds);have hl:=akt ds;have b:=akL B a;lia
end L2
namespace HT
open PySem PySem.Spec PyProof.Rows
open Sem (wp)
open Builtin
end HT
namespace L2
open PySem PySem.Spec PyProof.Rows PySem.W
def ItK(a:aH)(au:List (Key×V))(ep:Nat):It:=
 #[λi H=>H a=aa (.dK au ep)/\i<au.length,λi H x H'=>H'=H/\∃kv,au[i]?=aa kv/\x=kV kv.1,λi H=>H a=aa (.dK au ep)/\au.length<=i]
theorem aoB:∀{l:List PX}{vs:List (Key×aL)}{au:List (Key×V)},Pairs (gq P w) l vs->KV au vs->∀(i:Nat)(e:PX),l[i]?=aa e->∃c,au[i]?=aa c/\RelV (kV c.1) e.key:=by
 intro l vs au p;induction p generalizing au with
 |nil=>simp
 |cons h1 h2 h3 ih=>
  intro r i e h;cases r with
  |@cons a b as bs hr t=>
   cases i with
   |zero=>
    simp at h;subst h
    refine#[a,rfl,?_]
    rw[hr.1];rcases rO h1 with⟨i,t,e3,e4⟩|⟨y,t,e3,e4⟩
    .rw[e3,e4];exact#[t,rfl]
    .rw[e3,e4];exact#[t,rfl]
   |succ i=>
    obtain⟨c,f,d⟩:=ih t i e 07
    simp_all
theorem aoC{P:dY}{w:cW}{K:bw}{tg:Expr}{J:It}{a it:aH}{n ep:Nat}
  (F:∀(X:Cx)(aC:007)(σ:St)(H:Hp)(s:bf),X.prog=P->X.w=w->Inv X aC σ H s->∀i,J.go i H->∃es,vX s.heap a es ep/\es.size=n/\∃(e:PX)(x:V),es[i]?=aa e/\RelV x e.key/\J.Mi i H x H)
  (t:∀(X:Cx)(aC:007)(σ:St)(H:Hp)(s:bf),X.prog=P->X.w=w->Inv X aC σ H s->∀i,J.stop i H->∃es,vX s.heap a es ep/\es.size=n/\n<=i):
  Turn P w K tg J [it] it (λi h=>h.IsKeyIter it a i n ep) where
 mem:=cg
 obj:=λi h st b f=>by
  have e:=by simpa using f
  subst e
  obtain⟨o,e,c,d⟩:=st
  exact#[o,e,λv z=>by rw[d] at z;cases z]
 keep:=λi h h' st k=>st.at λo e=>k it cg o e
 item:=by
  intro X hP j C M i aC s σ H E I m st hg;refine hide λGG q=>?_
  obtain⟨es,g,D,e,x,B,rx,y⟩:=F X _ σ H s hP j I i hg
  subst hP j C D
  obtain⟨u,A,Q,G,p,r⟩:=m it cg
  obtain⟨L,e1⟩:=Array.getElem?_eq_some_iff.mp B
  refine q (afd st g L λh' l sb=>?_);have O:=I.turned (t':=s.toks) (λb o f e=>(sb.2 b f).trans e) u A G p r
  obtain⟨o,R,c,d⟩:=id l
  exact#[_,rfl,RM R c d (rfl) #[x,H,O,by rwa [e1],y,l,λb f=>(m b f).1]]
 done:=by
  intro X hP j C M i aC s σ H E I m st hg;refine hide λGG q=>?_
  obtain⟨es,g,D,B⟩:=t X _ σ H s hP j I i hg
  subst hP j C D
  obtain⟨u,A,Q,G,p,r⟩:=m it cg
  exact q (agr (I.ok.hd M) st g B λh' N=>#[rfl,I.turned (λb o f e=>N b o f e) u A G p r])
 self:=λ_ _ _ _ _ st h=>akK st h
theorem Z1{X:Cx}{σ:St}{H:Hp}{a:aH}{ep:Nat}(I:03)(h:H a=aa (.dK au ep)):
  (a==qH)=aR/\∃es,vX s.heap a es ep/\es.size=au.length/\∀(i:Nat)(e:PX),es[i]?=aa e->∃c,au[i]?=aa c/\RelV (kV c.1) e.key:=by
 refine hide λGG f=>?_
 obtain⟨z,lo,vs,b,o,es,h1,h2,g,j,d,n⟩:=(I.hok a _ h)
 have l:=d.length;have k:=Paired.length b;refine f (#[lo,es,#[o,h1,h2,g],?_,λi e m=>aoB d b i e 07])
 grind
theorem arT{K:bw}{tg:Expr}(a it:aH)(au:List (Key×V))(ep:Nat):Turn P w K tg (ItK a au ep) [it] it (λi h=>h.IsKeyIter it a i au.length ep):=
 aoC (λX aC σ H s k k I i hg=>by
  obtain⟨lo,es,b,c,d⟩:=Z1 I hg.1
  have hi:i<es.size:=by rw[c];exact hg.2
  obtain⟨e,e1,e2⟩:=d i _ (oJ hi)
  exact⟨es,b,c,_,_,oJ hi,e2,rfl,e,e1,rfl⟩) λX aC σ H s k k I i hg=>by
  obtain⟨lo,es,b,c,d⟩:=Z1 I hg.1
  exact#[es,b,c,hg.2]
def awm(tl:TE):TI:=λσ H R=>tl σ H λx H1=>∃a au ep,x=.ref a/\H1 a=aa (.dK au ep)/\R (ItK a au ep) H1
theorem arU(hl:PE X l tl):PI X tg l (awm tl):=by
 intro aC s σ H R I h;refine cz (hl aC s σ H _ I h) λv s1 g=>hide λGG f=>?_
 obtain⟨x,H1,c,k,a,au,ep,e,j,q⟩:=g
 subst e;cases k
 obtain⟨lo,es,d,m,n⟩:=Z1 c j
 refine f (afc lo d #[_,_,_,_,H1,rfl,c.kept  λb o e=>dF _ e,arT a _ au ep,#[_,ji _ rfl,rfl,by rw[<-m];rfl],λb i=>?_,q]);have e:=by simpa using i
 subst e;exact c.xZ 046 (c.hok.fresh 046)
def T9:az->Option (List az)
 |.dict au=>if(cO fO au).isSome then aa (au.map (·.1)) else aj
 |_=>aj
theorem aub(h:T9 d=aa aN):∃au ks,d=.dict au/\cO fO au=aa ks/\aN=au.map (·.1):=by
 unfold T9 at h;refine hide λGG a=>?_
 split at h
 .split at h
  .rename_i hs;cases h
   obtain⟨ks,b⟩:=wN.mp hs
   exact a (#[_,ks,rfl,b,rfl])
  lia
 trivial
theorem rE.keyd(c:rE H a au vs)(b:cO fO au=aa ks):∃ep,H a=aa (.dK (ks.zip vs) ep):=by
 rcases c with⟨ks',h1,h2⟩|⟨ks',⟨ne,h1⟩,h2⟩
 .grind
 .exact absurd (xu b h1) ne
theorem avy(c:er T H a=aa (.dK (ks.zip vs) ep))(b:cO fO au=aa ks)(hl:vs.length=au.length):zJ P T H (ItK a (ks.zip vs) ep) (au.map (·.1)):=λi H2 k s1 f n=>by
 have h2:=jB (f _ _ c);have e:=vA b;have h:(ks.zip vs).length=au.length:=by simp_all
 refine#[λd g=>?_,λhi=>#[h2,c8]]
 have hi:i<au.length:=c8
 refine#[#[h2,by lia],λx l y=>?_]
 obtain⟨rfl,j,e1,rfl⟩:=y
 obtain⟨v,e2,r⟩:=yW (Yd b (by rw[e,hl])) g
 rw[jN,e1] at e2;cases e2
 exact#[cI.refl _,r]
def iKB(f:FB):FI:=λao C=>(f ao C).bind λp=>(T9 p.1).map λaN=>(aN,p.2)
theorem avz(h:PE X e (eN X.K f)):PI X tg e (tI X.K aq (iKB f)):=(arU h).weak λσ H R bz=>by
 refine hide λGG m=>?_
 obtain⟨Z,Θ,ao,C,o,bK,C',S,c,q⟩:=bz
 obtain⟨p,h1,c⟩:=dB c
 obtain⟨g,h2,c⟩:=pY.mp c
 obtain⟨d,e1,C1⟩:=p
 cases c
 obtain⟨au,ks,rfl,i,rfl⟩:=aub h2
 refine m (#[Z,Θ,_,C,_,_,C',S,h1,λv H1 k f n b=>?_])
 obtain⟨a,vs,rfl,l,r⟩:=b
 obtain⟨ep,j⟩:=l.keyd i
 exact#[a,_,ep,rfl,jB j,q _ H1 k f n (avy j i (Dd r))]
theorem aU(i:Nat)(hN:X.N[i]?=aa x:=by rfl)(b:Ie X.env.scope x:=by first|exact uz rfl|exact Aq (uz rfl)|exact Aq (Aq rfl))(hd:017=aR:=by decide)(a:(x==("__classdict__":Str))=aR:=by decide):PE X (.Name x pos) (eN X.K (aM i)):=atw (Zo hN b hd a)
theorem aV(i:Nat)(hN:X.N[i]?=aa x:=by rfl)(b:Ie X.env.scope x:=by first|exact uz rfl|exact Aq (uz rfl)|exact Aq (Aq rfl))(hd:017=aR:=by decide)(a:(x==("__classdict__":Str))=aR:=by decide):PE X (.Name x pos) (tE X.K (aO i)):=atv (Zo hN b hd a)
theorem dO:PE X (.Constant (.int i) j pos) (tE X.K (aW (.int i))):=iH asR
theorem bY:PE X (.Constant (.int i) j pos) (eN X.K (aG (aW (.int i)))):=aZ dO
theorem iz(d:PE X a (eN X.K fa))(c:PE X b (eN X.K fb)):PE X (.BinOp a .Add b pos) (tE X.K (aX cZ fa fb)):=iI ard atx d c
theorem cU(d:jZ k X.A)(e:PE X a (eN X.K fa))(c:PE X b (eN X.K fb))(hs:JX b:=by exact λ_ _=>rfl):PE X (.Subscript a b pos) (tE X.K (aX bW fa fb)):=au1 (atz d.jl) au4 e c hs
theorem cj(F:cX X.prog X.w X.K X.mg X.base x k ps (spT X.K f))(c:jZ n X.A)(d:PA X (e::es) (wH X.K g))(h:k<=n:=by decide)(hg:Gl X x:=by rfl)(a:017=aR:=by decide)
  (he:bV (e::es) X.env=(010 e)::bV es X.env:=by rfl)(b:(jx pos (bV es X.env)).any (·.1)=aR:=by rfl):PE X (.Call (.Name x p) (e::es) [] pos) (tE X.K (bO f g)):=aiu F (c.mono h) hg d a he b
theorem jq(i:Nat)(hN:049)(hi:X.N[i]?=aa x:=by rfl)(a:Loc X.env.scope x:=by first|exact .inl rfl|exact .inr rfl)(b:X.fn x=aq\/X.env.scope.names.lookup x=aa .local:=by first|exact .inl rfl|exact .inr rfl|assumption):PG X (.Name x pos) (qQ i):=agd hN hi a b
theorem fK(i:Nat)(hN:049)(he:PE X e (tE X.K f))(hi:X.N[i]?=aa x:=by rfl)(a:Loc X.env.scope x:=by first|exact .inl rfl|exact .inr rfl)(hs:p7 e (aa (.Name x pos')) pos.line X.env=pure aR:=by rfl)(b:X.fn x=aq\/X.env.scope.names.lookup x=aa .local:=by first|exact .inl rfl|exact .inr rfl|assumption):
  PS X (.Assign [.Name x pos'] e pos) (tS X.K (cP i f)):=atF hN hi a he hs b
theorem fL(h:PE X e (tE X.K f)):jQ X [.Return (aa e) pos] (tS X.K (eU f)):=gB (atE h)
theorem gU(d:jh X (.builtin bid) r)(L:mD X.K r op)(c:X.mg x=aj)(h:PA X (e::es) (zO X.K g))(hg:Gl X x:=by rfl)(f:uc x=aa (.builtin bid):=by decide +kernel)(i:x≠"__name__":=by decide)(a:017=aR:=by decide)
  (he:bV (e::es) X.env=(010 e)::bV es X.env:=by rfl)(b:(jx pos (bV es X.env)).any (·.1)=aR:=by rfl):PE X (.Call (.Name x p) (e::es) [] pos) (tE X.K (dz op g)):=apB d L hg c f h i a he b
section
open PySem.Builtin PySem.Builtin.Str
end
def sp:Str:=gV " "
def nl:Str:=gV ""
inductive Bi where
 |dat (d:az)
 |lst (ds:036)
 |lG (au:021)
abbrev Box:=List (Str×Bi)
def Bi.tree:Bi->az
 |.dat d=>d
 |.lst ds=>.list ds
 |.lG au=>.dict au
def My(H H':Hp):Prop:=∀a vs,H a=aa 039->H' a=aa 039
mutual
theorem RZ.vR(k:My H H'):∀{d:az}{v:V},gb d=aq->RZ H d v->RZ H' d v
 |.none,_,_,h=>h
 |.bool _,_,_,h=>h
 |.int _,_,_,h=>h
 |.str _,_,_,h=>h
 |.list ds,_,n,h=>by cases n
 |.tuple ds,_,n,h=>by
  obtain⟨a,vs,e,q,r⟩:=h
  exact#[a,vs,e,k _ _ q,cQ.vR k n r]
 |.dict au,_,n,h=>by cases n
theorem cQ.vR(k:My H H'):∀{ds:036}{vs:041},gJ ds=aq->cQ H ds vs->cQ H' ds vs
 |[],_,_,h=>h
 |d::ds,vs,n,h=>by
  obtain⟨v,r,e,q,t⟩:=h
  have a:gb d=aq/\gJ ds=aq:=by rw[gJ,lJ] at n;exact n
  exact#[v,r,e,RZ.vR k a.1 q,cQ.vR k a.2 t]
end
theorem jb.vR(k:My H H'):∀{ds:021}{vs:041},pW ds=aq->jb H ds vs->jb H' ds vs
 |[],_,_,h=>h
 |(x,d)::ds,vs,n,h=>by
  obtain⟨v,r,e,q,t⟩:=h
  have a:=by
   rw[pW,lJ] at n;exact n
  exact#[v,r,e,RZ.vR k a.1 (q),jb.vR k a.2 t]
def wu(H:Hp):Bi->V->List aH->Prop
 |.dat d,v,as=>as=[]/\gb d=aq/\RZ H d v
 |.lst ds,v,as=>∃a vs,v=.ref a/\as=[a]/\H a=aa (.lst vs)/\gJ ds=aq/\cQ H ds vs
 |.lG au,v,as=>∃a vs,v=.ref a/\as=[a]/\rE H a au vs/\pW au=aq/\jb H au vs
theorem rE.keep(e:∀o,H a=aa o->H' a=aa o)(h:rE H a au vs):rE H' a au vs:=by
 rcases h with⟨ks,k,ep,h⟩|⟨ks,k,ep,h⟩
 .exact .inl #[ks,k,ep,e _ h]
 .exact .inr #[ks,k,ep,e _ h]
theorem wu.keep(k:My H H')(e:∀a∈as,∀o,H a=aa o->H' a=aa o)(h:wu H x v as):wu H' x v as:=by
 cases x with
 |dat d=>exact#[h.1,h.2.1,RZ.vR k h.2.1 h.2.2]
 |lst ds=>
  obtain⟨a,vs,e1,rfl,q,n,r⟩:=h
  exact#[a,vs,e1,rfl,e a fV _ q,n,cQ.vR k n r]
 |lG au=>
  obtain⟨a,vs,e1,rfl,q,n,r⟩:=h
  exact#[a,vs,e1,rfl,q.keep (e a fV),n,jb.vR k n r]
def shV:Vl->Bool
 |.im d=>gb d
 |.ow (.list ds)=>gJ ds
 |.ow (.dict au)=>pW au
 |.ce _=>aq
 |_=>aR
def qx:Vl->Option Bi
 |.im d=>if gb d=aq then aa (.dat d) else aj
 |.ow (.list ds)=>if gJ ds=aq then aa (.lst ds) else aj
 |.ow (.dict au)=>if pW au=aq then aa (.lG au) else aj
 |_=>aj
section
variable{K:bw}{ao:En}{C:Ce}{σ:St}
theorem RB{r:Vl}{x:Bi}(h:qx r=aa x)(R:Res K Z Θ ao C σ H H' r v):∃as,wu H' x v as/\(∀a∈as,H a=aj)/\Sm K (as++Z) Θ ao C σ H':=by
 refine hide λGG b=>?_
 cases r with
 |im d=>
  unfold qx at h;dsimp only at h;split at h
  .rename_i n;cases h;exact b (#[[],#[rfl,n,R.2.same (vN _ _)],λk m=>(nomatch m),R.1])
  lia
 |ow d=>
  obtain⟨a,rfl,g,S,f⟩:=R
  cases d<;>first|cases h|skip
  .unfold qx at h;dsimp only at h;split at h
   .rename_i n;cases h
    obtain⟨vs,e,q⟩:=f
    exact b (#[_,#[a,vs,rfl,rfl,e,n,q.same (vN _ _)],λc m=>by rwa[jU.mp m],S])
   trivial
  .unfold qx at h;dsimp only at h;split at h
   .rename_i n;cases h
    obtain⟨vs,e,q⟩:=f
    exact b (#[_,#[a,vs,rfl,rfl,e,n,q.same (vN _ _)],λc m=>by rwa[jU.mp m],S])
   lia
 |ce n=>cases h
 |sc ns=>cases h
 |ks ns=>cases h
 |tp=>cases h
theorem agX(S:001)(k:bL Θ H H'):My H H':=λa vs e=>k.keep _ _ e λm=>by
 obtain⟨u,b,n⟩:=S.cell.dom a m
 grind
end
theorem Z2(h:f ao C=aa (.nx,e1,C1)):bN f g ao C=g e1 C1:=by
 unfold bN
 simp_all
structure rH(e:Nat)(d:az):Prop where
 lay:d.canLay0=aq
 dep:d.depth<=e
 nd:iK d=aq
theorem Ks(i:Int):rH 0 (.int i):=#[rfl,(lO _),rfl]
theorem auc(h:Oh z=aq):rH 0 (.str z):=#[by trivial,(lO _),rfl]
theorem Y9(h:nameB z=aq):rH 0 (.str z):=auc (CJ h)
theorem Z3:∀{ds:036},(∀d∈ds,rH e d)->BX ds=aq/\yE ds<=e/\jP ds=aq
 |[],_=>#[rfl,(lO _),rfl]
 |d::ds,h=>by
  obtain⟨h1,h2,b⟩:=Z3 λx a=>h x (fU _ a)
  have g:=h d fV
  refine#[by simp[BX,g.lay,h1],?_,?_]
  .simp only[yE];have:=g.dep;lia
  .show(iK d&&jP ds)=aq
   rw[g.nd,b];rfl
theorem aud(h:∀d∈ds,rH e d):rH (e+1) (.tuple ds):=by
 obtain⟨h1,h2,a⟩:=Z3 h
 exact#[by trivial,by simp[vm];omega,a]
theorem Z4(h:∀d∈ds,rH e d):rH (e+1) (.list ds):=by
 obtain⟨h1,h2,a⟩:=Z3 h
 exact#[by trivial,by simp[vm];omega,a]
theorem rH.shaped(h:rH e d)(he:e<=64):jk d=aq:=by
 unfold jk;rw[h.lay,f9 (jw h.dep he)];rfl
theorem aoD(h:rH e d)(he:e<=64)(a:nA d=aR):j5 d d=aa (.im 037):=by
 have s:=h.shaped he;have n:=h.nd;have e1:uV d d=aa aq:=by
  have:uV d d=if iK d&&iK d&&(jk d&&jk d) then aa (xq d d) else aj:=by
   cases d<;>first|rfl|cases a
  rw[this,n,s,PySem.SeqAt.eqv_refl d h.lay];rfl
 unfold j5;simp_all
theorem eq_nil(h:rH e (.list ds))(he:e<=64):uV (.list ds) (.list [])=aa ds.isEmpty:=by
 have a:=(Z4 (e:=0) (ds:=[]) λk m=>nomatch m).shaped bh
 show(if iK _&&iK _&&(jk _&&jk _) then aa _ else aj)=_
 rw[h.nd,h.shaped he];show aa _=_;cases ds<;>simp[xq,NZ]
theorem ajd(h:rH e (.list ds))(he:e<=64):j6 (.list ds) (.list [])=aa (.im (.bool (!ds.isEmpty))):=by
 unfold j6;rw[eq_nil h he];rfl
theorem agY(l:028):rH 1 (.list (l.map .int)):=Z4 λd a=>by
 obtain⟨i,_,rfl⟩:=dG.mp a
 exact Ks i
theorem nn0:j6 (.list []) (.list [])=aa (.im (.bool aR)):=ajd (agY []) bh
def Ua:List FE->En->Ce->Option (List Bi×En×Ce)
 |[],ao,C=>aa ([],ao,C)
 |f::r,ao,C=>(f ao C).bind λp=>(qx p.1).bind λx=>(Ua r p.2.1 p.2.2).bind λq=>aa (x::q.1,q.2)
def HF(H:Hp):List Bi->List V->List aH->Prop
 |[],vs,as=>vs=[]/\as=[]
 |x::r,vs,as=>∃v t a1 a2,vs=v::t/\as=a1++a2/\wu H x v a1/\HF H r t a2
theorem HF.len:∀{b:List Bi}{vs:041}{as:040},HF H b vs as->vs.length=b.length
 |[],_,_,h=>by rw[h.1];rfl
 |p::r,vs,as,h=>by
  obtain⟨v,t,a1,a,rfl,_,_,h2⟩:=h
  rw[eZ,eZ,HF.len h2]
def Mz(K:bw):List FE->TA
 |[]=>Ss
 |f::r=>Ht (tE K f) (Mz K r)
theorem agZ{K:bw}:∀(l:List FE){Z:040}{ao bK:En}{C C':Ce}{H:Hp}{b:List Bi}{Q:List V->Hp->Prop},Sm K Z Θ ao C σ H->Ua l ao C=aa (b,bK,C')->
  (∀ws as H',bL Θ H H'->Fz ao bK->Sm K (as++Z) Θ bK C' σ H'->HF H' b ws as->(∀a∈as,H a=aj)->Q ws H')->Mz K l σ H Q
 |[],Z,ao,bK,C,C',H,b,Q,S,hf,q=>by
  cases(hf);exact q [] [] H 009 024 S #[rfl,rfl] λ_ m=>nomatch m
 |f::l,Z,ao,bK,C,C',H,b,Q,S,hf,q=>by
  obtain⟨⟨r,e1,C1⟩,h1,s⟩:=dB hf
  obtain⟨x,h2,w⟩:=dB s
  obtain⟨⟨b2,e2,C2⟩,u,y⟩:=dB w
  cases(y)
  refine#[Z,Θ,_,C,r,e1,C1,S,h1,λv1 H1 j d R=>?_]
  obtain⟨a1,t,z,g⟩:=RB h2 R
  refine agZ l g u λws as H' i e p n v=>?_
  have k:=λc m=>g.gh.2.2.2 c (pB _ m)
  refine q _ _ H' (j.trans i) (d.trans e) (p.perm ?_) #[v1,ws,a1,as,rfl,rfl,t.keep (agX g i) λc m o h=>i.keep _ _ h (k c m),n] λc m=>?_
  .grind
  .rcases gP.mp m with m|m
   .exact z c m
   .exact j.none (v c m)
def jr:List Bi->Ce->List Ci×Ce
 |[],C=>([],C)
 |.dat d::r,C=>(.dat d::(jr r C).1,(jr r C).2)
 |.lst ds::r,C=>(.iM C.length::(jr r (C++[.lst (ds.map .dat)])).1,(jr r (C++[.lst (ds.map .dat)])).2)
 |.lG au::r,C=>(.iM C.length::(jr r (C++[.lG (au.map λp=>(p.1,.dat p.2))])).1,(jr r (C++[.lG (au.map λp=>(p.1,.dat p.2))])).2)
theorem ag0:∀{ds:036}{vs:041},gJ ds=aq->cQ H ds vs->jo Θ H (ds.map .dat) vs
 |[],_,_,h=>h
 |d::ds,vs,n,h=>by
  obtain⟨v,r,e,q,t⟩:=h
  have a:gb d=aq/\gJ ds=aq:=by rwa [gJ,lJ] at n
  exact#[v,r,e,#[a.1,q],ag0 a.2 t]
theorem afH:∀{au:021}{vs:041},pW au=aq->jb H au vs->jo Θ H ((au.map λp=>(p.1,Ci.dat p.2)).map (·.2)) vs
 |[],_,_,h=>h
 |(k,d)::au,vs,n,h=>by
  obtain⟨v,r,e,q,t⟩:=h
  have a:L2.gb d=aq/\L2.pW au=aq:=by
   rwa [pW,lJ] at n
  exact#[v,r,e,#[a.1,q],afH a.2 t]
theorem Xk{f:az->Option κ}:∀au:List (az×az),cO f ((au.map λp=>(p.1,Ci.dat p.2)).map λp=>(p.1,am0))=cO f au
 |[]=>rfl
 |p::au=>by
  have:=Xk (f:=f) au;rw[dN,dN];unfold cO
  simp_all
theorem wu.cat(h:wu H (.lst ds) v [a]):v=.ref a/\rF Θ H a (.lst (ds.map .dat)):=by
 refine hide λGG c=>?_
 obtain⟨b,vs,e,e1,q,n,r⟩:=h
 cases e1;exact c (#[e,vs,q,ag0 n r])
theorem wu.awn(h:wu H (.lG au) v [a]):v=.ref a/\rF Θ H a (.lG (au.map λp=>(p.1,.dat p.2))):=by
 obtain⟨b,vs,e,e1,q,n,r⟩:=h
 cases e1
 refine#[e,vs,?_,afH n r]
 rcases q with⟨ks,k,ep,q⟩|⟨ks,k,ep,q⟩
 .exact .inl #[ks,by rwa [Xk],ep,q]
 .refine .inr #[ks,#[?_,by rw[Xk];lia],ep,q];simp[*]
theorem wu.one(h:wu H x v as):(∃d,x=.dat d/\as=[])\/∃a,as=[a]:=by
 cases x with
 |dat d=>exact .inl #[d,rfl,h.1]
 |lst ds=>obtain⟨a,vs,_,e,_⟩:=h;grind
 |lG au=>obtain⟨a,vs,_,e,_⟩:=h;grind
section
variable{K:bw}{σ:St}{H:Hp}
theorem Gk:∀{b:List Bi}{vs:041}{as Θ:040}{C:Ce},Sm K (as++Z) Θ ao C σ H->HF H b vs as->Sm K Z (Θ++as) ao (jr b C).2 σ H/\jo (Θ++as) H (jr b C).1 vs
 |[],vs,as,Θ,C,S,h=>by
  rw[h.2,jg];rw[h.2] at S
  exact#[S,h.1]
 |x::b,vs,as,Θ,C,S,h=>by
  obtain⟨v,t,a1,j,rfl,rfl,h1,h2⟩:=h
  have g:∀a:aH,(Θ++([a]++j))[C.length]?=aa a:=λa=>by rw[S.cell.len,uY 046,Jo];rfl
  rcases h1.one with⟨d,rfl,rfl⟩|⟨a,rfl⟩
  .obtain⟨g,f⟩:=Gk S h2
   exact#[g,v,t,rfl,#[h1.2.1,h1.2.2],f]
  .have i:=S;cases x with
   |dat d=>obtain⟨e,_⟩:=h1;cases e
   |lst ds=>
    obtain⟨rfl,c⟩:=h1.cat
    obtain⟨k,f⟩:=Gk (i.J6 c) h2
    rw[ie] at k f
    exact#[k,_,t,rfl,#[a,rfl,g a],f]
   |lG au=>
    obtain⟨rfl,c⟩:=h1.awn
    obtain⟨k,f⟩:=Gk (i.J6 c) h2
    rw[ie] at k f
    exact#[k,_,t,rfl,#[a,rfl,g a],f]
theorem WY{Θ A1:040}{g:Hp}{env0:En}{C:Ce}{p:aH}{i:Nat}(S:Sm K Z A1 ao C σ H)(d:H p=aj)(aN:jo A1 H xs vs)(t:jT Θ A1 g)(k:bL Θ g H)(f:Fz env0 ao):
  gj K Z Θ env0 σ g (A1++[p]) (ao.set i (aa (.ce C.length))) (C++[.lst xs]) (σ.set i (aa (.ref p))) (upd H p (.lst vs)):=by
 have o:Sm K _ A1 _ C σ (upd H p (.lst vs)):=S.push d _ λy z=>nomatch z
 have cl:=S.cell.len;have j:=o.J6 (c:=.lst xs) #[vs,fj,aN.keep (λa ws h=>cI.upd d _ _ h) Dn];have l:Sm K Z _ (ao.set i (aa (.ce C.length))) _ _ _:=
  j.sG (λ_ z=>nomatch z) #[p,rfl,by grind]
 obtain⟨Δ,e,n⟩:=t.ex
 refine#[#[_,by rw[e,ie],λa m=>?_],rT (k.trans (bL.upd d)),λb m=>.inl (f.own.subset ?_),l]
 .rcases gP.mp m with m|m
  .exact n a m
  .rw[jU.mp m];exact k.none d
 .rcases uw m with m|⟨⟨y,z⟩,y⟩
  .exact m
  trivial
end
def K6(i:Nat)(l:List FE):FS:=λao C=>(Ua l ao C).bind λq=>if q.1.length<=fG then aa (.nx,q.2.1.set i (aa (.ce (jr q.1 q.2.2).2.length)),(jr q.1 q.2.2).2++[.lst (jr q.1 q.2.2).1]) else aj
theorem aoE{K:bw}:∀D σ H,tS K (K6 i l) D σ H->vV (aaM (Mz K l)) (qQ i) D σ H:=by
 rintro D σ H ⟨Z,Θ,ao,C,fl,bK,C',S,a,q⟩
 obtain⟨⟨b,e1,C1⟩,h1,a⟩:=dB a
 dsimp only at a;split at a
 case isFalse=>lia
 rename_i hl;cases(a);refine agZ l S h1 λws as H1 k f j c h=>#[by rw[c.len];exact sY hl,λp e=>?_]
 obtain⟨d,g⟩:=Gk j c
 exact q _ _ _ (WY d e g #[as,rfl,h] k f)
theorem arV{X:Cx}{p1 pos a:Pos}(hN:049)(hi:X.N[i]?=aa x)(b:044)(he:PA X es (Mz X.K l))(hs:p7 (.List es p1) (aa (.Name x a)) pos.line X.env=pure aR:=by rfl)(c:X.fn x=aq\/X.env.scope.names.lookup x=aa .local:=by first|exact .inl rfl|exact .inr rfl|assumption):
  PS X (.Assign [.Name x a] (.List es p1) pos) (tS X.K (K6 i l)):=(G5 hN hi b (Zx he) hs c).weak aoE
theorem jo.app:∀{xs ys:List Ci}{vs ws:041},jo Θ H xs vs->jo Θ H ys ws->jo Θ H (xs++ys) (vs++ws)
 |[],_,_,_,h,g=>by rwa [h]
 |x::xs,_,_,_,h,g=>by
  obtain⟨v,r,rfl,q,s⟩:=h
  exact#[v,_,rfl,q,s.app g]
def xW(i:Nat)(f:FE):FS:=λao C=>match ao[i]? with
 |some (some (.ce n))=>(o8 C[n]?).bind λ_=>(f ao C).bind λp=>(qx p.1).bind λx=>(o8 p.2.2[n]?).bind λxs=>if xs.length<fG then aa (.nx,p.2.1,(jr [x] p.2.2).2.set n (.lst (xs++(jr [x] p.2.2).1))) else aj
 |_=>aj
section
variable{K:bw}{C:Ce}{σ:St}{H:Hp}
theorem Sm.aue{n:Nat}{xs:List Ci}(S:001)(b:Θ[n]?=aa a)(aN:jo Θ H xs vs):Sm K Z Θ ao (C.set n (.lst xs)) σ (upd H a (.lst vs)):=
 S.go (bL.cell (pZ b)) (S.cell.write S.gh.2.1 b λH' d c=>#[_,c,aN.keep d λ_ _ h=>h])
end
section
variable{pos:Pos}
theorem Rc(L:PE X o (lA i))(he:PE X e (tE X.K f))
  (p:p7 (.Call (.Attribute o "append" apos) [e] [] cpos) aj pos.line X.env=pure aR:=by rfl)
  (g:Fg o "append" X.env (eval o X.env)=eval o X.env:=by rfl)
  (l:((jx cpos (bV [e] X.env)).all (λx=>!x.1)&&(Qp cpos (O3 [] X.env)).all (λx=>x.1.isSome)
   &&decide (([e]:List Expr).length+([]:List yP).length+(if([]:List yP).isEmpty then 0 else 1)<30))=aq:=by rfl)
  (j:(apos.endLine==cpos.line)=aq:=by rfl)(hs:bV [e] X.env=(010 e)::bV [] X.env:=by rfl)(hplain:(jx cpos (bV [] X.env)).any (·.1)=aR:=by rfl):
  PS X (.Expr (.Call (.Attribute o "append" apos) [e] [] cpos) pos) (tS X.K (xW i f)):=
 (agc (aak akm ab8 akh (Ea.r W8) L (oU he rZ hs) g l j hs hplain) p).weak λD σ H bz=>by
  obtain⟨Z,Θ,ao,C,N,bK,C',S,c,q⟩:=bz
  unfold xW at c;split at c
  case h_2=>cases c
  rename_i n J
  obtain⟨A,s,c⟩:=dB c
  obtain⟨⟨r,e1,C1⟩,h1,c⟩:=dB c
  obtain⟨x,z,c⟩:=dB c
  obtain⟨xs,hl,c⟩:=dB c
  dsimp only at c hl;split at c
  case isFalse=>cases c
  rename_i lt;cases(c)
  obtain⟨v0,I,a,rfl,d⟩:=S.slot i _ J
  obtain⟨O,t,_⟩:=S.cell.at_ n a _ d (Ak s)
  refine#[_,I,.inl #[rfl,_,cA.of t],Z,Θ,_,C,r,_,C1,S,h1,λv H1 k f R=>?_]
  obtain⟨as,B,M,w⟩:=RB z R
  obtain⟨vs,E,u⟩:=w.cell.at_ n a _ d (Ak hl)
  obtain⟨y,F⟩:=Gk (b:=[x]) w #[v,[],as,[],rfl,(jg _).symm,B,rfl,rfl]
  refine#[a,vs,v,rfl,rfl,E,by rw[u.len,jV];unfold fG at lt;lia,?_]
  have K:=pZ d;have G:=y.aue (Dn n a d) ((u.keep (λ_ _ h=>h) Dn).app F);exact q _ σ _ #[#[as,rfl,M],rT (k.trans (bL.cell K)),λb m=>.inl (f.own.subset m),G]
end
abbrev MF:=List Vl->Ce->Option (Nat×Ce)
def Lz(K:bw)(f:MF):Sp:=λvs H Q _=>∃Z Θ C xs m C',Sm K Z Θ [] C [] H/\xM K (er (bQ Z Θ [] []) H) Θ xs vs/\f xs C=aa (m,C')/\
 ∀v H' A',jT Θ A' H->bL Θ H H'->Sm K Z A' [] C' [] H'->(∃a,v=.ref a/\A'[m]?=aa a)->Q v H'
def Ip(k n:Nat)(body:FS):MF:=λxs C=>if xs.length=k then match body (xs.map aa++fX (n-xs.length) aj) C with
  |some (.rt (.ce m),_,C')=>aa (m,C')
  |_=>aj
 else aj
theorem auf{P:dY}{w:cW}{K:bw}{base:cF}{x b:Str}{st:dH}{f:aH}{fd:um}{k:Nat}{body:FS}{g p:Nat}(F:fM K x b st f fd)(S:gw N ps (cN st))
  (r:∀(d:aL)(A:fB)(outer:List Env)(s:bf)(H:Hp)(E:XK),jZ k (A.deeper (envOfC b (cN st) s.heap.objs.size f d))->jQ (Bh eY P w K mg base N b (cN st) f d A outer s H E).Ih (yR st) (tS K body))
  (e1:g=ps.length:=by rfl)(e2:p=N.length:=by rfl):eV P w K mg base eY (k+1) f fd ps (Lz K (Ip g p body)):=by
 subst e1 e2;refine F.ok S (λvs H Q E h=>?_) (λd A outer s H vs Q E t h=>#[_,r _ A _ s H E t,?_])
 .obtain⟨Z,Θ,C,xs,m,C',o,a,c,z⟩:=h
  unfold Ip at c;split at c
  .rename_i hl;rw[JG a,hl]
  trivial
 .obtain⟨Z,Θ,C,xs,m,C',o,a,c,q⟩:=h
  unfold Ip at c;split at c
  case isFalse=>trivial
  have lv:=JG a
  obtain⟨l,j⟩:=o.start (n:=N.length-vs.length) a
  rw[lv] at l j;have hs:start N vs=vs.map aa++fX (N.length-xs.length) aj:=by unfold start;simp_all
  rw[hs];split at c
  case h_2=>trivial
  rename_i u C1 e;cases(c)
  refine#[Z,Θ,_,C,_,u,C',l,e,λA' v H' R=>?_]
  have i:=R.kp;rw[j,jg] at i;exact q v H' A' R.th i R.ok.1 R.ok.2
section
variable{K:bw}{ao:En}{σ:St}{H H':Hp}
theorem Sm.avA(S:001)(k:bL Θ H H')(t:jT Θ A' H)(f:Sm K (Z++cR ao σ) A' [] C' [] H'):Sm K Z A' ao C' σ H':=by
 obtain⟨Δ,e,n⟩:=t.ex
 subst e;have l:∀a,a∈bQ Z _ _ σ->a∈bQ Z Θ ao σ\/H a=ud:=λa m=>by
  rcases oR.mp m with m|m|m
  .exact .inl (oR.mpr (.inl m))
  .rcases gP.mp m with m|m
   .exact .inl (oR.mpr (.inr (.inl m)))
   .exact .inr (n a m)
  .exact .inl (oR.mpr (.inr (.inr m)))
 refine#[S.len,?_,λb m=>f.dom b (pB _ m),λi x e=>?_,f.cell]
 .have p:(bQ (Z++cR ao σ) (Θ++Δ) [] []).Perm (bQ Z (Θ++Δ) ao σ):=by
   show((Z++cR _ σ)++((Θ++Δ)++[])).Perm (Z++((Θ++Δ)++cR _ σ));rw[jg,ie];exact List.Perm.append_left Z List.perm_append_comm
  exact p.nodup_iff.mp f.nd
 .obtain⟨v,e1,r⟩:=S.slot i x e
  refine#[v,e1,?_]
  have c:=r.same (nC k S.tV l) λd a ex p o q=>k.keep _ _ q (by
   subst ex p
   exact(S.pI (oO.mpr ⟨i,d,e,e1⟩)).2)
  cases x with
  |ce m=>obtain⟨b,j,g⟩:=c;exact#[b,j,Dn _ _ g]
  |im d=>exact c
  |ow d=>exact c
  |sc ns=>exact c
  |ks ns=>exact c
  |tp=>exact c
end
def K7(i:Nat)(f:MF)(g:FA):FS:=λao C=>(g ao C).bind λa=>(f a.1 a.2.2).bind λr=>aa (.nx,a.2.1.set i (aa (.ce r.1)),r.2)
theorem aoF{K:bw}{g:FA}:∀D σ H,tS K (K7 i f g) D σ H->vV (RP (Lz K f) [] E0 (wH K g)) (qQ i) D σ H:=by
 rintro D σ H ⟨Z,Θ,ao,C,fl,bK,C',S,c,q⟩
 obtain⟨⟨xs,e1,C1⟩,h1,c⟩:=dB c
 obtain⟨⟨m,C2⟩,h2,c⟩:=dB c
 cases(c)
 refine#[Z,Θ,_,C,xs,e1,C1,S,h1,λvs H1 h k j a1=>?_]
 rw[jg];have e2:er _ H1=er (bQ Z Θ e1 σ) H1:=uD Q7;rw[<-e2] at a1
 refine#[_,Θ,C1,xs,m,_,j.bare,a1,h2,λv H2 A' t k2 S2 ha=>?_]
 obtain⟨a,rfl,d⟩:=ha
 have l:=j.avA k2 t S2;have o:=l.sG (i:=i) (x:=.ce m) (λ_ z=>nomatch z) #[a,rfl,d]
 obtain⟨Δ,e,n⟩:=t.ex
 refine q A' _ H2 #[#[Δ,e,λb mb=>h.none (n b mb)],rT (h.trans k2),λb mb=>.inl (k.own.subset ?_),o];rcases uw mb with mb|⟨⟨_,z⟩,_⟩
 .trivial
 trivial
theorem arW{X:Cx}{f:MF}{g:FA}{p pos1 pos a:Pos}(hN:049)(hi:X.N[i]?=aa z)(h:Loc X.env.scope z)(F:cX X.prog X.w X.K X.mg X.base x k ps (Lz X.K f))(l:jZ k X.A)(hg:Gl X x)(j:PA X (e::es) (wH X.K g))(c:017=aR:=by decide)
  (he:bV (e::es) X.env=(010 e)::bV es X.env:=by rfl)(b:(jx pos1 (bV es X.env)).any (·.1)=aR:=by rfl)(hs:p7 (.Call (.Name x p) (e::es) [] pos1) (aa (.Name z a)) pos.line X.env=pure aR:=by rfl)(d:X.fn z=aq\/X.env.scope.names.lookup z=aa .local:=by first|exact .inl rfl|exact .inr rfl|assumption):
  PS X (.Assign [.Name z a] (.Call (.Name x p) (e::es) [] pos1) pos) (tS X.K (K7 i f g)):=(G5 hN hi h (aip F l hg j c he b) hs d).weak aoF
def MJ(look:Nat->Option az):Ci->Option az
 |.dat d=>aa d
 |.iM m=>look m
def rB(look:Nat->Option az):List Ci->Option (List az)
 |[]=>aa []
 |x::xs=>(MJ look x).bind λd=>(rB look xs).bind λds=>aa (d::ds)
def aax(look:Nat->Option az):List (az×Ci)->Option (List (az×az))
 |[]=>aa []
 |p::xs=>(MJ look p.2).bind λd=>(aax look xs).bind λds=>aa ((p.1,d)::ds)
def clL(look:Nat->Option az):Cl->Option az
 |.lst xs=>(rB look xs).map .list
 |.lG au=>(aax look au).map .dict
 |.yp=>aj
def mj(C:Ce)(lo:Nat):Nat->Nat->Option az
 |0,_=>aj
 |f+1,n=>if lo<=n then(C[n]?).bind (clL (mj C lo f)) else aj
theorem ahY(f:∀a vs,H a=aa 039->E a=aa 039)(hl:∀m b d,Θ[m]?=aa b->look m=aa d->RZ E d (.ref b))(h:uM Θ H x v)(e:MJ look x=aa d):RZ E d v:=by
 cases x with
 |dat d'=>cases e;exact RZ.gb f h.1 h.2
 |iM m=>obtain⟨b,rfl,c⟩:=h;exact hl m b d c e
theorem ag1(c:∀a vs,H a=aa 039->E a=aa 039)(hl:∀m b d,Θ[m]?=aa b->look m=aa d->RZ E d (.ref b)):∀{xs:List Ci}{vs:041}{ds:036},jo Θ H xs vs->rB look xs=aa ds->cQ E ds vs
 |[],_,_,h,e=>by cases e;exact h
 |x::xs,vs,ds,h,e=>by
  obtain⟨v,r,rfl,q,s⟩:=h
  obtain⟨d,h1,e⟩:=dB e
  obtain⟨f,h2,e⟩:=dB e
  cases e
  exact#[v,r,rfl,ahY c hl q h1,ag1 c hl s h2]
theorem afI(c:∀a vs,H a=aa 039->E a=aa 039)(hl:∀m b d,Θ[m]?=aa b->look m=aa d->RZ E d (.ref b)):∀{xs:List (az×Ci)}{vs:041}{ds:021},jo Θ H (xs.map (·.2)) vs->aax look xs=aa ds->jb E ds vs/\ds.map (·.1)=xs.map (·.1)
 |[],_,_,h,e=>by cases e;trivial
 |x::xs,vs,ds,h,e=>by
  obtain⟨v,r,rfl,q,s⟩:=h
  obtain⟨d,h1,e⟩:=dB e
  obtain⟨g,h2,e⟩:=dB e
  cases e
  obtain⟨f,i⟩:=afI c hl s h2
  exact#[#[v,r,rfl,ahY c hl q h1,f],by simp_all]
theorem aeL{f:az->Option κ}:∀{a b:021},a.map (·.1)=b.map (·.1)->cO f a=cO f b
 |[],[],_=>rfl
 |p::a,q::b,h=>by
  rw[dN] at h;injection h with h1 h2
  unfold cO;rw[h1,aeL h2]
 |[],_::_,h=>by cases h
 |_::_,[],h=>by cases h
theorem ag2(c:jJ Θ C H)(j:∀a vs,H a=aa 039->E a=aa 039){lo:Nat}(l:∀m a,lo<=m->Θ[m]?=aa a->∀o,H a=aa o->E a=aa o):∀(f:Nat)(m:Nat)(b:aH)(d:az),Θ[m]?=aa b->mj C lo f m=aa d->RZ E d (.ref b)
 |0,_,_,_,_,e=>by cases e
 |f+1,m,b,d,hb,e=>by
  unfold mj at e;split at e
  case isFalse=>cases e
  rename_i h
  obtain⟨cl,r,e⟩:=dB e
  have n:=ag2 c j l f;have at_:=c.at_ m b cl hb r;have g:=l m b h hb;cases cl with
  |lst xs=>
   obtain⟨ds,h1,rfl⟩:=pY.mp e
   obtain⟨vs,h2,i⟩:=at_
   exact#[b,vs,rfl,g _ h2,ag1 j n i h1]
  |lG au=>
   obtain⟨ds,h1,rfl⟩:=pY.mp e
   obtain⟨vs,h2,i⟩:=at_
   obtain⟨q,t⟩:=afI j n i h1
   have s:∀{κ:Type}{f:az->Option κ},cO f ds=cO f (au.map λp=>(p.1,am0)):=λ{κ f}=>aeL (by simp[*])
   refine#[b,vs,rfl,?_,q]
   rcases h2 with⟨ks,k,ep,h2⟩|⟨ks,k,ep,h2⟩
   .exact .inl #[ks,c8,ep,g _ h2]
   .refine .inr #[ks,#[?_,c8],ep,g _ h2];intro z;simp_all
  |yp=>cases e
def frC(C:Ce):Option Vl->Option Vl
 |some (.ce n)=>(mj C 0 4 n).map .im
 |x=>x
def aje:Option Vl->Bool
 |some (.ce _)=>aq
 |_=>aR
def LC:En->En->En
 |x::e,y::f=>(bif aje x then x else y)::LC e f
 |_,_=>[]
def lQ(f:FE):FE:=λao C=>(f (ao.map (frC C)) []).bind λp=>if shV p.1=aq/\p.2.2=[] then aa (p.1,LC ao p.2.1,C) else aj
theorem RC(C:Ce):∀(ao:En)(σ:St),cR (ao.map (frC C)) σ=cR ao σ
 |[],_=>rfl
 |x::e,[]=>rfl
 |x::e,v::s=>by
  rw[dN,cR,RC C e s];congr 1;cases x with
  |none=>rfl
  |some y=>
   cases y with
   |ce n=>
    show own1 ((mj C 0 4 n).map _) v=_;cases mj C 0 4 n<;>(rfl)
   |_=>rfl
theorem ag3:∀{ao e1:En},Fz (ao.map (frC C)) e1->Fz ao (LC ao e1)
 |[],[],_=>trivial
 |[],_::_,h=>nomatch h
 |_::_,[],h=>nomatch h
 |x::e,y::f,h=>by
  refine#[?_,ag3 h.2]
  cases hx:aje x with
  |true=>exact .inl rfl
  |false=>
   have e1:frC C x=x:=by
    cases x with
    |none=>rfl
    |some z=>cases z<;>(trivial)
   have:=h.1
   lia
theorem Sm.view{K:bw}{C:Ce}{σ:St}{H:Hp}(S:001):Sm K Z [] (ao.map (frC C)) [] σ H:=by
 have gh:=S.gh;have k:∀a,a∈bQ Z [] (ao.map (frC C)) σ->a∈bQ Z Θ _ σ:=λa m=>by
  rcases oR.mp m with m|m|m
  .grind
  .simp_all
  .rw[RC] at m;exact oR.mpr (.inr (.inr m))
 have sm:cI (er _ H) _:=vG k
 refine#[by rw[bR];exact S.len,?_,S.dom,λi x e=>?_,#[rfl,λn a c e w=>by grind]]
 .show(Z++([]++cR _ σ)).Nodup
  rw[RC];have h:=S.nd
  grind
 .rw[jN] at e
  obtain⟨y,l,e⟩:=pY.mp e
  cases y with
  |none=>cases e
  |some z=>
   obtain⟨v,e1,r⟩:=S.slot i z l
   refine#[v,e1,?_]
   cases z with
   |ce n=>
    obtain⟨d,p,rfl⟩:=pY.mp e
    obtain⟨a,rfl,j⟩:=r
    refine ag2 S.cell (λb vs g=>De (λc m=>S.sI c (k c m)) g) (λs b w f o g=>?_) 4 n a d j p;unfold er;rw[cC]
    .exact g
    .intro m;have mb:=pZ f;rcases oR.mp m with m|m|m
     .grind
     .nomatch m
     .rw[RC] at m
      exact(S.pI m).2 mb
   |im d=>cases e;exact RZ.same sm r
   |ow d=>cases e;obtain⟨a,e,q⟩:=r;exact#[a,e,q.same sm λw h=>h]
   |sc ns=>cases e;obtain⟨a,e,q⟩:=r;exact#[a,e,sm.seq q]
   |ks ns=>cases e;obtain⟨a,e,q⟩:=r;exact#[a,e,sm.HS q]
   |tp=>trivial
theorem aeM{K:bw}:∀σ H Q,tE K (lQ f) σ H Q->tE K f σ H Q:=by
 rintro σ H Q ⟨Z,Θ,ao,C,res,bK,C',S,g,q⟩
 obtain⟨⟨r,e1,C1⟩,h1,g⟩:=dB g
 dsimp only at g;split at g
 case isFalse=>lia
 rename_i hs;cases(g)
 obtain⟨p,rfl⟩:=hs
 refine#[Z,[],_,[],_,e1,[],S.view,h1,λv H1 k f R=>?_]
 have fz:=ag3 f;have s:=S.fz fz;have l:bL Θ H H1:=#[λa o e n=>k.keep a o e (λm=>nomatch m),k.dom]
 have t:=S.cell.keep (λa vs e=>k.keep _ _ e λm=>nomatch m) λa m o e=>k.keep _ _ e λm=>nomatch m
 have w:=s.go l t;refine q v H1 l fz ?_;cases res with
 |im d=>
  obtain⟨x,rz⟩:=R
  exact#[w,RZ.gb (λb vs i=>De w.sI (jB i)) p rz]
 |ow d=>
  obtain⟨a,rfl,j,x,u⟩:=R
  cases d<;>first|trivial|skip
  .obtain⟨vs,c,rz⟩:=u
   have h:=s.zm j l #[_,c,λy z=>nomatch z] t
   exact#[a,rfl,j,h,vs,c,cQ.gb (λb ws i=>De h.sI (jB i)) p rz]
  .obtain⟨vs,c,rz⟩:=u
   have nt:NT (H1 a):=by
    rcases c with⟨ks,k,ep,c⟩|⟨ks,k,ep,c⟩
    .exact#[_,c,λy z=>nomatch z]
    .exact#[_,c,λy z=>nomatch z]
   have h:=s.zm j l nt t
   exact#[a,rfl,j,h,vs,c,jb.vR (λb ws i=>De h.sI (jB i)) p rz]
 |ce n=>obtain⟨y,a,y,e⟩:=R;trivial
 |sc ns=>trivial
 |ks ns=>trivial
 |tp=>trivial
theorem Ka(h:PE X e (tE X.K f)):PE X e (tE X.K (lQ f)):=h.weak aeM
def Ub:Ci->Vl
 |.dat d=>.im d
 |.iM m=>.ce m
def Dw(n j:Nat)(body:FS):Nat->Nat->FS
 |0,_=>λ_ _=>aj
 |f+1,i=>λao C=>(o8 C[n]?).bind λxs=>match xs[i]? with
  |none=>aa (.nx,ao,C)
  |some x=>match body (ao.set j (aa (Ub x))) C with
   |some (.nx,e,C1)=>Dw n j body f (i+1) e C1
   |some (.ct,e,C1)=>Dw n j body f (i+1) e C1
   |some (.bk,e,C1)=>aa (.nx,e,C1)
   |some (.rt r,e,C1)=>aa (.rt r,e,C1)
   |none=>aj
def R4(i j:Nat)(body:FS):FS:=λao C=>match ao[i]? with
 |some (some (.ce n))=>Dw n j body 100000 0 ao C
 |_=>aj
section
variable{K:bw}{C C':Ce}{σ F':St}{H H':Hp}
theorem jT.at{n:Nat}(t:jT Θ A' H)(h:Θ[n]?=aa a):A'[n]?=aa a:=by
 obtain⟨Δ,e,_⟩:=t.ex
 grind
theorem Sm.avB(S:001){x:Ci}(h:uM Θ H x v):Sm K Z Θ (ao.set j (aa (Ub x))) C (σ.set j (aa v)) H:=by
 cases x with
 |dat d=>exact S.sG (λ_ z=>nomatch z) (RZ.gb (λb vs a=>De S.sI a) h.1 h.2)
 |iM m=>exact S.sG (λ_ z=>nomatch z) h
theorem auh(m:b∈cR (ao.set j (aa (Ub x))) (σ.set j (aa v))):b∈cR ao σ:=by
 rcases uw m with m|⟨⟨d,z⟩,_⟩
 .exact m
 .cases x<;>cases z
end
theorem aoG{K:bw}:∀D σ H,tS K (R4 i j body) D σ H->aaG (aah K (lA i)) (qQ j) (tS K body) D σ H:=by
 rintro D σ H ⟨Z,Θ,ao,C,fl,bK,C',S,hf,q⟩;unfold R4 at hf;split at hf
 case h_2=>trivial
 rename_i n F
 obtain⟨v,G,a,rfl,f⟩:=S.slot i _ F
 have E:∃xs,o8 C[n]?=aa xs:=by
  obtain⟨xs,r,_⟩:=dB hf
  exact#[xs,r]
 obtain⟨B,u⟩:=E
 obtain⟨I,w,_⟩:=S.cell.at_ n a _ f (Ak u)
 refine#[_,G,a,rfl,#[_,cA.of w],λk m F2 H2=>∃A2 e2 C2,gj K Z Θ _ σ H A2 e2 C2 F2 H2/\Dw n j _ m k e2 C2=aa _,#[_,Θ,_,C,gj.same S,hf],?_]
 rintro k m F2 H2 ⟨A2,e2,C2,p2,hl⟩;cases m with
 |zero=>trivial
 |succ m=>
 obtain⟨xs,r,hl⟩:=dB hl
 have o:=p2.th.at f
 obtain⟨vs,s,A⟩:=p2.sm.cell.at_ n a _ o (Ak r)
 split at hl
 .rename_i p;cases(hl);refine .inl #[#[vs,cA.of s,?_],q A2 F2 H2 p2];rw[A.len];exact Uv.mp p
 .rename_i p
  obtain⟨v,x,hi⟩:=A.at p
  refine .inr #[#[vs,v,cA.of s,x],_,λF' H' h=>#[m,Nm m,h],λy J t=>?_]
  obtain⟨rfl,t⟩:=t
  have z:=t vs (cA.of s);rw[x] at z;cases z;have g:=p2.sm.avB (j:=j) hi;have l:=p2.trans #[jT.refl _ _,bL.refl _ _,λb m=>.inl (auh m),g];split at hl
  .rename_i e c d
   exact#[Z,A2,_,C2,_,e,c,g,d,λA5 F5 H5 p5=>#[A5,e,c,l.trans p5,hl]]
  .rename_i e c d
   exact#[Z,A2,_,C2,_,e,c,g,d,λA5 F5 H5 p5=>#[A5,e,c,l.trans p5,hl]]
  .rename_i d;cases(hl)
   exact#[Z,A2,_,C2,_,_,C',g,d,λA5 F5 H5 p5=>q A5 F5 H5 (l.trans p5)]
  .rename_i c d;cases(hl)
   exact#[Z,A2,_,C2,_,_,C',g,d,λA5 v H5 p5=>q A5 v H5 (l.ret p5)]
  trivial
theorem arX{X:Cx}{f:FS}{x:Str}{h pos:Pos}(g:PK 02 X.A X.env X.xe)(d:035)(hN:049)(c:X.N[j]?=aa x)(b:044)(e:PE X o (lA i))(a:jQ X body (tS X.K f))
  (k:X.fn x=aq\/X.env.scope.names.lookup x=aa .local:=by first|exact .inl rfl|exact .inr rfl|assumption)(hs:∀x,tY o X.env x=pure x:=by intro _;rfl):PS X (.For (.Name x h) o body [] pos) (tS X.K (R4 i j f)):=
 (aht g d (JV e) (agd hN c b k) a hs).weak aoG
def H9(C:Ce):List Ci->Option (List Ci)
 |[]=>aa []
 |.dat _::r=>H9 C r
 |.iM m::r=>(o8 C[m]?).bind λ_=>(H9 C r).map (.iM m::·)
def HH(i j:Nat):FS:=λao C=>match ao[j]? with
 |some (some (.ce n))=>(o8 C[n]?).bind λxs=>(H9 C xs).bind λys=>if xs.length<=fG then aa (.nx,ao.set i (aa (.ce C.length)),C++[.lst ys]) else aj
 |_=>aj
abbrev awp(K:bw):List V->Hp->VK->Prop:=λxs H Q=>∃x n t b,xs=[x,.ty n]/\nF K H x t/\z9 K t (.type n)=aa b/\Q (.bl b) H
abbrev aaU(K:bw):TT:=tB (Tr (awp K) (Ht (lA 0) (Ht (tC (.ty "list")) Ss)))
theorem avC{K:bw}{Θ:040}{C:Ce}{H:Hp}{x:Ci}{v:V}(c:jJ Θ C H)(h:uM Θ H x v)(f:∀m,x=.iM m->∃xs,C[m]?=aa (.lst xs)):∃t,nF K H v t/\z9 K t (.type "list")=aa (match x with|.dat _=>aR|.iM _=>aq):=by
 cases x with
 |dat d=>
  obtain⟨n,r⟩:=h
  have ty:nF K H v (TV d)/\wg "list" d=aa aR:=by
   cases d with
   |none=>exact#[RX.ty r,rfl]
   |bool b=>exact#[RX.ty r,rfl]
   |int i=>exact#[RX.ty r,rfl]
   |str z=>exact#[RX.ty r,rfl]
   |list ds=>cases n
   |tuple ds=>
    obtain⟨a,vs,rfl,e,_⟩:=r
    exact#[.tup e,rfl]
   |dict au=>cases n
  exact#[_,ty.1,Ko rfl ty.2]
 |iM m=>
  obtain⟨b,rfl,g⟩:=h
  obtain⟨xs,j⟩:=f m rfl
  obtain⟨vs,e,_⟩:=c.at_ m b _ g j
  exact#[_,.lst e,Ko (d:=.list []) rfl rfl]
theorem aoH{K:bw}:∀D σ H,tS K (HH i j) D σ H->vV (Tz K (aah K (lA j)) .one (λ_=>aaU K) (λ_=>lA 0) []) (qQ i) D σ H:=by
 rintro D σ H ⟨Z,Θ,ao,C,fl,bK,C',S,f,q⟩;unfold HH at f;refine hide λGG P=>?_
 split at f
 case h_2=>cases f
 rename_i n V
 obtain⟨xs,U,f⟩:=dB f
 obtain⟨ys,Q,f⟩:=dB f
 split at f
 case isFalse=>cases f
 rename_i hl;cases(f)
 obtain⟨v,W,a,rfl,E⟩:=S.slot j _ V
 obtain⟨vs,A,M⟩:=S.cell.at_ n a _ E (Ak U)
 refine P (#[_,W,a,rfl,#[vs,cA.of A],λp r b=>?_]);have G:a≠p:=λz=>by grind
 have up:∀bu,upd H p (.lst bu) a=aa _:=λbu=>by rwa [di G]
 refine#[λk m H2=>m=xs.length-k/\k<=xs.length/\∃l s bu,H9 C (xs.drop k)=aa s/\ys=l++s/\jo Θ H l bu/\bu.length<=k/\H2=upd H p (.lst bu),#[_,rfl,lO _,[],ys,[],Q,rfl,rfl,cH _,rfl],?_]
 rintro k m H2 ⟨rfl,hk,l,s,bu,h1,rfl,h3,h4,rfl⟩;cases hd:xs[k]? with
 |none=>
  have u:=Uv.mp hd;rw[akv u] at h1;cases h1;refine .inl #[#[vs,cA.of (up bu),by rwa [M.len]],?_];rw[jg] at q;exact q _ _ _ (WY S r h3 (jT.refl _ _) 009 024)
 |some x=>
  obtain⟨g,X⟩:=lW.mp hd
  obtain⟨v,J,hi⟩:=M.at hd
  rw[Uw g,X] at h1;have lt:xs.length-(k+1)<xs.length-k:=c8;refine .inr #[#[vs,v,cA.of (up bu),J],λy H3 F=>?_]
  obtain⟨rfl,F⟩:=F
  have L:=F vs (cA.of (up bu));rw[J] at L;cases L
  refine#[_,rfl,?_]
  have R:=S.zf (cI.upd (o:=.lst bu) r);have w:uM Θ (upd H p (.lst bu)) x v:=hi.keep (λb ws T=>cI.upd r _ _ T) λ_ _ h=>h
  have B:∀m,x=.iM m->∃xs,C[m]?=aa (.lst xs):=λm e=>by
   subst e
   obtain⟨zs,I,_⟩:=dB h1
   exact#[zs,Ak I]
  obtain⟨t,ty,O⟩:=avC R.cell w B
  refine#[v,rfl,v,_,t,_,rfl,ty,O,_,rfl,?_]
  cases x with
  |dat d=>exact yc #[_,lt,rfl,g,l,s,bu,h1,rfl,h3,aK,rfl]
  |iM m=>
   obtain⟨zs,I,h1⟩:=dB h1
   obtain⟨N,Y,rfl⟩:=pY.mp h1
   refine ye #[v,rfl,_,fj,?_,_,lt,rfl,g,l++[.iM m],N,_,Y,by rw[ie];rfl,h3.app #[v,[],rfl,hi,rfl],by simp_all,?_]
   .rw[jV];unfold fG at hl;lia
   .funext c;by_cases z:c=p
    .subst z;rw[fj,fj]
    .rw[di z,di z,di z]
theorem aui:PA X [] (Mz X.K []):=rZ
theorem arY{X:Cx}{x t:Str}{i j:Nat}{p1 p2 pos1 pos a:Pos}(hN:049)(hi:X.N[i]?=aa x)(f:X.env.scope.names.lookup x=aa .local)(B:oX X [t] [] [] scope)(g:035)(h:PE X o (lA j))(ht:∀b,PT (X.bk ([t]++[]) scope b) c (aaU X.K))(he:∀b,PE (X.bk ([t]++[]) scope b) (.Name t p1) (lA 0))
  (d:p7 (.ListComp (.Name t p1) [#[.Name t p2,o,[c],0]] scope pos1) (aa (.Name x a)) pos.line X.env=pure aq:=by rfl)(e:∀x,tY o X.env x=pure x:=by intro _;rfl):
  PS X (.Assign [.Name x a] (.ListComp (.Name t p1) [#[.Name t p2,o,[c],0]] scope pos1) pos) (tS X.K (HH i j)):=
 (XH (T:=.one) B #[_,05,rfl] g (JV h) (λb=>#[ago (ht b),he b]) d hN hi f e).weak aoH
theorem ap1{X:Cx}{i:Nat}{y:Str}{NT NF:014}{js:051}{scope:kI}{T:kW}{fi:FI}{ifs:057}{ft:FT}{fe:FE}(B:031)(d:qZ tg NT T)(e:035)(hi:PI X tg iter (tI X.K aq fi))
  (hin:∀b,pX (X.bk (NT++NF) scope b) ifs (gY X.K ft)/\PE (X.bk (NT++NF) scope b) elt (tE X.K fe))
  (a:p7 (.ListComp elt [#[tg,iter,ifs,0]] scope pos) (aa (.Name y pos')) spos.line X.env=pure aq)(hN:049)(f:X.N[i]?=aa y)(c:023)
  (hs:∀x,tY iter X.env x=pure x:=by intro _;rfl):PS X (.Assign [.Name y pos'] (.ListComp elt [#[tg,iter,ifs,0]] scope pos) spos) (tS X.K (cP i (lQ (gM fi T ft fe js)))):=(XH B d e hi hin a hN f c hs).weak (QF λσ H Q h=>YM σ H Q (aeM σ H Q h))
theorem auj{p pos:Pos}(h:PE X a (lA 0))(ht:PE X t (tC (.ty "list")))(hg:Gl X "isinstance")(e:X.mg "isinstance"=aj)(g:uc "isinstance"=aa (.builtin "isinstance"))
  (he:bV [a,t] X.env=(010 a)::bV [t] X.env:=by rfl)(d:bV [t] X.env=(010 t)::bV [] X.env:=by rfl)(c:(jx pos (bV [t] X.env)).any (·.1)=aR:=by rfl)
  (f:∀b,isTrue (.Call (.Name "isinstance" p) [a,t] [] pos) X.env b=(do let v <-b;xx (Expr.Call (.Name "isinstance" p) [a,t] [] pos).pos;rR [v] (truthy v)):=by intro _;rfl):
  PT X (.Call (.Name "isinstance" p) [a,t] [] pos) (aaU X.K):=asS (Jz adM hg e g (oU h (oU ht rZ d) he) bh (rfl) he c) f
inductive jF(C:Ce)(lo:Nat):List Ci->List Bi->Prop
 |nil:jF C lo [] []
 |dat {xs:List Ci} {bs:List Bi} (d:az) (h:jF C lo xs bs):jF C lo (.dat d::xs) (.dat d::bs)
 |lst {xs:List Ci} {bs:List Bi} (m:Nat) (ds:036) (hm:lo<=m) (hc:C[m]?=aa (.lst (ds.map .dat))) (h:jF C lo xs bs):jF C lo (.iM m::xs) (.lst ds::bs)
def awq:Ci->Option Nat
 |.iM m=>aa m
 |_=>aj
def rC(xs:List Ci):List Nat:=xs.filterMap awq
theorem Av{C Δ:Ce}{n:Nat}(h:C[n]?=aa c):(C++Δ)[n]?=aa c:=c8
theorem jF.more{lo:Nat}(h:jF C lo xs bs):jF (C++Δ) lo xs bs:=by
 induction h with
 |nil=>exact .nil
 |dat d _ ih=>exact .dat d ih
 |lst m ds hm hc _ ih=>exact .lst m ds hm (Av hc) ih
theorem jF.low{C:Ce}{lo a:Nat}(hl:a<=lo)(h:jF C lo xs bs):jF C a xs bs:=by
 induction h with
 |nil=>exact .nil
 |dat d _ ih=>exact .dat d ih
 |lst m ds hm hc _ ih=>exact .lst m ds (jw hl hm) hc ih
theorem jF.app{C:Ce}{lo:Nat}(h:jF C lo xs bs)(g:jF C lo ys cs):jF C lo (xs++ys) (bs++cs):=by
 induction h with
 |nil=>exact g
 |dat d _ ih=>exact .dat d ih
 |lst m ds hm hc _ ih=>exact .lst m ds hm hc ih
theorem jF.len{C:Ce}{lo:Nat}(h:jF C lo xs bs):xs.length=bs.length:=by
 induction h with
 |nil=>rfl
 |dat d _ ih=>simp[*]
 |lst m ds hm hc _ ih=>simp_all
theorem jF.bound{C:Ce}{lo:Nat}(h:jF C lo xs bs):∀m∈rC xs,lo<=m/\m<C.length:=by
 induction h with
 |nil=>intro m b;cases b
 |dat d _ ih=>trivial
 |lst m ds b hc _ ih=>
  intro k a;rcases cB.mp a with rfl|a
  .grind
  .exact ih k a
theorem Gq(xs ys:List Ci):rC (xs++ys)=rC xs++rC ys:=List.filterMap_append
def R7:Bi->Bool
 |.lG _=>aR
 |_=>aq
theorem Gr:∀(bs:List Bi)(C:Ce),bs.all R7=aq->∃Δ,(jr bs C).2=C++Δ/\jF (C++Δ) C.length (jr bs C).1 bs/\(rC (jr bs C).1).Pairwise (·<·)
 |[],C,_=>#[[],(jg C).symm,.nil,BW]
 |.dat d::bs,C,h=>by
  obtain⟨Δ,e,r,p⟩:=Gr bs C 07
  exact#[Δ,e,.dat d r,p]
 |.lst ds::bs,C,h=>by
  obtain⟨Δ,e,r,p⟩:=Gr bs _ 07
  rw[ie] at e r;rw[fW] at r
  refine#[_,e,.lst _ ds 046 ?_ (r.low (Ca _ _)),?_]
  .simp
  .refine rM.mpr #[λm a=>?_,p];have:=(r.bound m a).1;trivial
 |.lG _::bs,C,h=>by trivial
structure Told(lo:Nat)(C:Ce)(n:Nat)(bs:List Bi):Prop where
 ex:∃xs,C[n]?=aa (.lst xs)/\jF C lo xs bs/\(rC xs).Nodup/\n∉rC xs
 Bx:lo<=n
theorem ap2(C:Ce)(hd:cs.all R7=aq):∃Δ,(jr cs C).2=C++Δ/\Told C.length ((jr cs C).2++[.lst (jr cs C).1]) (jr cs C).2.length cs:=by
 obtain⟨Δ,e,a,p⟩:=Gr cs C hd
 refine#[Δ,e,#[_,?_,?_,p.imp λh=>fH h,λm=>?_],?_]
 .simp
 .rw[e];exact a.more
 .rw[e] at m;have:=a.bound _ m;lia
 simp[*]
theorem aoI(he:Ua l ao C=aa (cs,ao,C))(hd:cs.all R7=aq)(hl:cs.length<=1000):∃n Δ,K6 i l ao C=aa (.nx,ao.set i (aa (.ce n)),C++Δ)/\Told C.length (C++Δ) n cs:=by
 obtain⟨Δ,e,T⟩:=ap2 C hd
 refine#[(jr cs C).2.length,Δ++[.lst (jr cs C).1],?_,?_]
 .unfold K6;simp only[he,ir];rw[bZ (by unfold fG;lia),e,ie]
 simp_all
section
variable{prog:dY}{w:cW}{K:Type}[DecidableEq K]{knd:HeapKind prog w K}{A:fB}{E:aL->bf->Prop}{s:bf}
end
end L2
namespace L2
end L2
namespace L2
open PySem
end L2
namespace L2
open PySem PySem.Spec PyProof.Rows PySem.W
def Be(i:Nat)(f:FE):FS:=λao C=>(f ao C).bind λp=>(qx p.1).bind λx=>match x with
 |.lst ds=>aa (.nx,p.2.1.set i (aa (.ce p.2.2.length)),p.2.2++[.lst (ds.map .dat)])
 |.dat d=>aa (.nx,p.2.1.set i (aa (.im d)),p.2.2)
 |.lG _=>aj
theorem aoJ{K:bw}:∀D σ H,tS K (Be i f) D σ H->vV (tE K f) (qQ i) D σ H:=by
 rintro D σ H ⟨Z,Θ,ao,C,fl,bK,C',S,g,q⟩
 obtain⟨⟨r,e1,C1⟩,h1,g⟩:=dB g
 obtain⟨x,t,g⟩:=dB g
 refine#[Z,Θ,_,C,r,e1,C1,S,h1,λv H1 k f R=>?_]
 obtain⟨as,j,u,h⟩:=RB t R
 have l:∀(y:Vl),(∀d,y≠.ow d)->∀b∈cR _ (σ.set i (aa v)),b∈cR _ σ:=λy o b m=>by
  rcases uw m with m|⟨⟨d,e⟩,_⟩
  .exact f.own.subset m
  .exact absurd e (o d)
 cases x with
 |dat d=>
  obtain⟨rfl,n,rz⟩:=j
  cases(g);exact q Θ _ H1 #[jT.refl _ _,rT k,λb m=>.inl (l (.im d) (λ_ z=>nomatch z) b m),h.sG (λ_ z=>nomatch z) (RZ.gb (λb vs s=>De h.sI s) n rz)]
 |lst ds=>
  rcases j.one with⟨d,e,_⟩|⟨a,rfl⟩
  .cases e
  obtain⟨rfl,c⟩:=j.cat (Θ:=Θ++[a])
  cases(g);have cl:=h.cell.len;have p:=Sm.J6 h c;exact q _ _ H1 #[#[_,rfl,u],rT k,λb m=>.inl (l (.ce C1.length) (λ_ z=>nomatch z) b m),p.sG (λ_ z=>nomatch z) #[a,rfl,by simp_all]]
 |lG au=>cases g
theorem arZ{f:FE}{pos a:Pos}(hN:049)(hi:X.N[i]?=aa x)(b:044)(he:PE X e (tE X.K f))(hs:p7 e (aa (.Name x a)) pos.line X.env=pure aR:=by rfl)(c:X.fn x=aq\/X.env.scope.names.lookup x=aa .local:=by first|exact .inl rfl|exact .inr rfl|assumption):
  PS X (.Assign [.Name x a] e pos) (tS X.K (Be i f)):=(G5 hN hi b he hs c).weak aoJ
def MK:Option (Option Vl)->Option Ci
 |some (some (.ce m))=>aa (.iM m)
 |some (some (.im d))=>if gb d=aq then aa (.dat d) else aj
 |_=>aj
theorem auk{K:bw}{C:Ce}{σ:St}{H:Hp}{k:Nat}{it:Ci}(S:001)(h:MK ao[k]?=aa it):∃v,σ[k]?=aa (aa v)/\uM Θ H it v:=by
 unfold MK at h;split at h
 .rename_i e;cases h
  obtain⟨v,a,r⟩:=S.slot k _ e
  exact#[v,a,r]
 .rename_i e;split at h
  case isFalse=>cases h
  rename_i n;cases h
  obtain⟨v,a,r⟩:=S.slot k _ e
  exact#[v,a,n,RZ.same (vN _ _) r]
 trivial
def Dy(i j k:Nat)(f:FE):FS:=λao C=>match ao[i]? with
 |some (some (.ce n))=>(MK ao[k]?).bind λit=>(f ao C).bind λp=>(qx p.1).bind λx=>(o8 p.2.2[n]?).bind λxs=>if xs.length+2<=fG then aa (.nx,p.2.1.set j (aa (.ce (jr [x] p.2.2).2.length)),(jr [x] p.2.2).2++[.lst (xs++it::(jr [x] p.2.2).1)]) else aj
 |_=>aj
theorem aoK{K:bw}:∀D σ H,tS K (Dy i j k f) D σ H->vV (DX aaN (lA i) (aaM (Ht (lA k) (Ht (tE K f) Ss)))) (qQ j) D σ H:=by
 rintro D σ H ⟨Z,Θ,ao,C,fl,bK,C',S,c,q⟩;unfold Dy at c;split at c
 case h_2=>cases c
 rename_i n J
 obtain⟨it,e,c⟩:=dB c
 obtain⟨⟨r,e1,C1⟩,h1,c⟩:=dB c
 obtain⟨x,y,c⟩:=dB c
 obtain⟨xs,hl,c⟩:=dB c
 split at c
 case isFalse=>cases c
 rename_i lt;cases(c)
 obtain⟨v0,L,a,rfl,l⟩:=S.slot i _ J
 obtain⟨t,g,d⟩:=auk S e
 refine#[_,L,_,g,Z,Θ,_,C,r,e1,C1,S,h1,λv H1 s z R=>?_]
 obtain⟨as,A,M,u⟩:=RB y R
 obtain⟨vs,B,o⟩:=u.cell.at_ n a _ l (Ak hl)
 obtain⟨w,F⟩:=Gk (b:=[x]) u #[v,[],as,[],rfl,(jg _).symm,A,rfl,rfl]
 have I:jo (Θ++as) H1 [it] _:=jo.keep (agX S s) Dn #[t,[],rfl,d,rfl]
 refine#[BK rfl,λp E=>?_]
 have sm:cI H1 (upd H1 p (.lst [t,v])):=cI.upd E
 refine#[a,p,vs,_,rfl,rfl,sm _ _ B,fj,by rw[o.len];exact sY lt,λp2 m=>?_]
 have G:=w.zf sm;have up:∀{ys:List Ci}{ws:041},jo (Θ++as) H1 ys ws->jo _ _ ys ws:=λh=>h.keep (λa ws h=>sm _ _ h) λ_ _ h=>h
 exact q _ _ _ (WY G m ((o.keep (λa ws h=>sm _ _ h) Dn).app ((up I).app (up F))) #[as,rfl,M] (s.trans (bL.of sm)) z)
theorem ar3{f:FE}{p1 p2 pos a:Pos}(hN:049)(c:X.N[j]?=aa x)(b:044)(g:PE X o (lA i))(hz:PE X z (lA k))(he:PE X e (tE X.K f))
  (d:bV [z,e] X.env=(010 z)::bV [e] X.env:=by rfl)(h:bV [e] X.env=(010 e)::bV [] X.env:=by rfl)
  (hs:p7 (.BinOp o .Add (.List [z,e] p1) p2) (aa (.Name x a)) pos.line X.env=pure aR:=by rfl)(l:X.fn x=aq\/X.env.scope.names.lookup x=aa .local:=by first|exact .inl rfl|exact .inr rfl|assumption):
  PS X (.Assign [.Name x a] (.BinOp o .Add (.List [z,e] p1) p2) pos) (tS X.K (Dy i j k f)):=(G5 hN c b (aim ahv g (Zx (oU hz (oU he rZ h) d))) hs l).weak aoK
section
variable{P:dY}{w:cW}{T:Type}[DecidableEq T]{kd:HeapKind P w T}{A:fB}{E:aL->bf->Prop}{s:bf}
theorem ar4(hu:kd.room A)(g:kd.is s.heap k a)(B:s.heap.DictOfH kd d xs)(hz:xs.length<=cG)
  (h1:∀p,vL xs k=aa p->Q p.2 {s with toks:=s.toks+kd.draws k})
  (h2:vL xs k=aj->∀h',h'.DictOfH kd d (storedH xs k a u)->vg d s.heap h'->Q u {s with heap:=h',toks:=s.toks+kd.draws k}):
  bH (model P w) A (dictSetDefault d 043 u) Q E s:=by
 obtain⟨o,es,ep,c,t,b,f,hi,i⟩:=B
 refine m9 (aQ (kd.pyHash hu g (aQ (wpAny_dictFind_heap hu g c b f hi i (λq=>?_) λj p l=>?_))))
 .have n:=atKey_none_of_get q;have v:=not_mem_keys_of_get q;have z:es.size<=cG:=by rwa [size_of_entries f]
  refine aQ (wZ (aQ (wpAny_updateDictKeys (hz:=z) c b (bM (h2 n _ ?_ (rK ..))))))
  refine#[_,_,_,zY _ c (Obj.isFreed_of_dict (akM b _)),t.mapDictKeys _,akM b _,?_,?_,?_]<;>rw[storedH_new n]
  .simp[f,entryOfKey]
  .intro x h;rcases gP.mp h with m|m
   .exact kd.keeps (hi x m) c b (rK ..)
   .cases jU.mp m;exact kd.keeps g c b (rK ..)
  .rw[kj,qF]
   exact#[i,cg,λx h y r e=>v (by rwa [e,jU.mp r] at h)]
 .refine aQ (U6 c b ?_);rw[entry_at f j,l];exact aQ (wZ (bM (h1 p (atKey_of_get i l))))
theorem aoL(hd:(d==qH)=aR)(u:aL):MeetsIn P w (qg.«dict.setdefault» ⟨[.ref d,.ref a,u],[]⟩) (λA R s=>kd.room A.in1/\∃k xs,kd.is s.heap k a/\s.heap.DictOfH kd d xs/\xs.length<=cG/\
   (∀p,vL xs k=aa p->R (.ok (.ret p.2)) {s with toks:=s.toks+kd.draws k})/\
   (vL xs k=aj->∀h',h'.DictOfH kd d (storedH xs k a u)->vg d s.heap h'->R (.ok (.ret u)) {s with heap:=h',toks:=s.toks+kd.draws k})):=
 .of_wp λA R s ⟨h,k,xs,f,b,c,h1,h2⟩=>by
  refine aQ (aQ (ab0 b.typeIs (bM ?_)));show bH _ _ (if(d==qH)=aq then _ else(dictSetDefault d _ u >>= _)) _ _ s;rw[hd];exact aQ (ar4 h f b c (λp e=>bM #[_,rfl,h1 p e]) λn h' g sb=>bM #[u,rfl,h2 n h' g sb])
end
section
variable{X:Cx}{σ:St}{H:Hp}{a b:aH}{A:fB}
theorem aiC{k:TK}{ep:Nat}{v:V}(hu:A.units+2<fJ)(I:03)(e:H a=aa (.dT au ep))(l:kO H b k)(hl:au.length<cG)(D:RelV v r)
  (h1:∀u,lR au k=aa u->∀j s',Inv X aC σ H s'->RelV u j->Q j s')(h2:lR au k=aj->∀e s',Inv X aC σ (upd H a (.dT (au++[(k,v)]) e)) s'->Q r s'):
  bH 02 A (call (.builtin "dict.setdefault") [.ref a,.ref b,r]) Q E s:=by
 obtain⟨z,m,xs,g,i⟩:=aam I.hok e
 have o:xs.length<=cG:=by rwa [<-Paired.length g]
 have f:=g.val k;refine adx aj8 i.typeIs PySem.F.entry_dict_setdefault (PySem.F.args_dict_setdefault_3 _ _ _) (aoL m r) #[Gs hu,k,xs,Ao I.hok l,i,o,λp t=>?_,λC h' x hs=>?_]
 .rw[t] at f;cases d:lR _ k with
  |none=>rw[d] at f;exact f.elim
  |some u=>rw[d] at f;exact h1 u d _ _ (I.tok _) f
 .have d:lR au k=aj:=by
   rw[C] at f;cases d:lR _ k with
   |none=>rfl
   |some u=>rw[d] at f;exact f.elim
  obtain⟨q,es,h,n,G,J,F,_,w⟩:=x
  refine h2 d h _ ?_;have B:=ae8 v d;have len:(au++[(k,v)]).length<=cG:=by rwa [fW]
  refine yQ I (by rw[e];exact qI) hs #[q,n] #[len,m,_,?_,q,es,n,G,J,F,w];rw[<-B]
  refine(g.put k l D).keeps λc ys y=>?_
  rwa [di (Dr y e 012)]
def awr(a:aH)(y v:V)(H:Hp)(Q:VK):Prop:=∃b k,y=.ref b/\kO H b k/\((∃au ep,H a=aa (.dT au ep)/\au.length<cG/\((∃u,lR au k=aa u/\Q u H)\/(lR au k=aj/\∀e,Q v (upd H a (.dT (au++[(k,v)]) e)))))\/∃ep,H a=aa (.dK [] ep)/\∀e,Q v (upd H a (.dT [(k,v)] e)))
def ajf(td ty tx:TE):TE:=λσ H Q=>td σ H λx H1=>∃a,x=.ref a/\IsD H1 a/\ty σ H1 λy H2=>tx σ H2 λz H3=>awr a y z H3 Q
theorem aul(hu:033)(L:PE X o td)(he:PE X e ty)(E:PE X f tx)(m:M2 X o "setdefault" apos e f cpos):PE X (.Call (.Attribute o "setdefault" apos) [e,f] [] cpos) (ajf td ty tx):=by
 intro aC s σ H Q I h;refine acq m.base m.few m.line abR aj8 PySem.F.type_dict_setdefault (cz (L _ s σ H _ I h) λu s1 D=>?_)
 obtain⟨x,H1,t,rx,a,ex,d,B⟩:=D
 subst ex;obtain rfl:u=fY a:=rx
 obtain⟨C,J,_⟩:=ahw t d
 refine#[C,J,?_]
 rw[m.trees];refine abU rfl (ab3 (BR (cz (he _ s1 σ H1 _ t B) λM G ⟨y,H2,K,w,A⟩=>
  BR (cz (E _ G σ H2 _ K A) λfv O ⟨z,v,q,rz,g⟩=>Iz ?_))))
 obtain⟨b,k,F,p,g⟩:=g
 subst F;obtain rfl:M=fY b:=w;rcases g with⟨au,ep,ha,hl,g⟩|⟨ep,ha,g⟩
 .refine aiC hu q ha p hl rz (λu i N r j l=>?_) λi e r j=>?_
  .rcases g with⟨u',e',g⟩|⟨e',_⟩
   .rw[i] at e';cases e';exact#[_,v,j,l,g]
   grind
  .rcases g with⟨u',e',_⟩|⟨_,g⟩
   .grind
   .exact#[_,_,j,rz,g e]
 .have n:kO (upd v a (.dT [] ep)) b k:=p.mono λc xs e=>by rwa [di (Dr e ha 012)]
  refine aiC hu (q.Ed ha) fj n (BK rfl) rz (λu i=>nomatch i) λi e r j=>#[_,_,?_,rz,g e]
  rwa [QZ] at j
end
def MN:Option (Option Vl)->Option (List (az×az))
 |some (some (.ow (.dict au)))=>aa au
 |_=>aj
theorem ahZ(h:MN o=aa au):o=aa (aa (.ow (.dict au))):=by
 unfold MN at h
 lia
def aaV(ks:TK)(au:021)(dk d:az):az×List (az×az):=match pM lq ks au with
 |some u=>(u,au)
 |none=>(d,au++[(dk,d)])
def Tc(au:021)(dk d:az):Option (az×List (az×az)):=(lq dk).bind λks=>if(cO lq au).isSome=aq/\au.length<fG then aa (aaV ks au dk d) else aj
def ifB(o:Vl)(g:FS):FS:=λao C=>match o with
 |.im (.bool true)=>g ao C
 |.im (.bool false)=>aa (.nx,ao,C)
 |_=>aj
def LK(i:Nat)(fk:FB)(fe:FE)(fb:FB)(g:FS):FS:=λao C=>(MN ao[i]?).bind λ_=>(fk ao C).bind λk=>(fe k.2.1 k.2.2).bind λp=>(wF (still p.1)).bind λd=>(MN p.2.1[i]?).bind λau=>(Tc au k.1 d).bind λr=>
 (fb (p.2.1.set i (aa (.ow (.dict r.2)))) p.2.2).bind λy=>(j6 r.1 y.1).bind λo=>ifB o g y.2.1 y.2.2
theorem ar5(m:a∈P):cI (er P H) (er P (upd H a o)):=λb o' h=>by
 unfold er at h⊢;split at h
 .lia
 .rename_i c;have ne:b≠a:=λe=>c 07
  rwa [cC c,di ne]
theorem afJ:∀{ao:En}{i:Nat}{x:032},ao[i]?=aa x->ao.set i x=ao
 |[],_,_,h=>nomatch h
 |_::_,0,_,h=>c8
 |y::e,i+1,x,h=>by rw[Nf,afJ (ao:=e) h]
theorem ap3{K:bw}{fe:FE}{Q:FB}{g:FS}{r:R2}(L:jt K r j6):∀D σ H,tS K (LK i fk fe Q g) D σ H->aiK (RN (DX r (ajf (lA i) (eN K fk) (tE K fe)) (eN K Q))) (tS K g) (tS K jm) D σ H:=by
 rintro D σ H ⟨Z,Θ,ao,C,fl,bK,C',S,c,q⟩
 obtain⟨aze,h0,c⟩:=dB c
 obtain⟨⟨dk,e1,C1⟩,h1,c⟩:=dB c
 obtain⟨⟨r0,e2,C2⟩,h2,c⟩:=dB c
 obtain⟨d,hd,c⟩:=dB c
 obtain⟨au,h3,c⟩:=dB c
 obtain⟨⟨u,l⟩,f,c⟩:=dB c
 obtain⟨⟨dy,A,t⟩,h5,c⟩:=dB c
 obtain⟨ob,h6,c⟩:=dB c
 dsimp only at h2 h3 f h5 h6 c
 obtain⟨v0,G,a,rfl,rt0⟩:=S.slot i _ (ahZ h0)
 refine#[.ref a,G,a,rfl,?_,Z,Θ,ao,C,dk,e1,C1,S,h1,λy H1 k1 f1 S1 b1=>#[Z,Θ,e1,C1,r0,e2,C2,S1,h2,λz H2 k2 f2 R2=>?_]]
 .obtain⟨vs,T,_⟩:=rt0
  rcases T with⟨ks,_,h⟩|⟨ks,_,h⟩
  .exact .inl #[_,Il h]
  .exact .inr #[_,rdT h]
 obtain⟨F,m⟩:=R2.arg
 rw[G8 hd] at m;have m:RZ (er (bQ Z Θ e2 σ) H2) d z:=m;have hi:=ahZ h3
 obtain⟨v2,B,a',e',rt⟩:=F.slot i _ hi
 rw[G] at B;cases B;cases e';have j:∀x J,gj K Z Θ e2 σ H2 Θ (e2.set i (aa (.ow (.dict l)))) C2 σ J->RZ (er (bQ Z Θ (e2.set i (aa (.ow (.dict l)))) σ) J) u x->
   eN K Q σ J λP W=>r x P W λv I=>∃k,v=.bl k/\if k=aq then tS K g D σ I else tS K jm D σ I:=λx J st rz=>by
  refine#[Z,Θ,_,C2,dy,A,t,st.sm,h5,λP W k4 f4 S4 b4=>(L Z Θ A t σ W x P u dy ob S4 (gW.go (RZ.bor aap rz) st.sm k4 f4) b4 h6 _ λv I k5 R5=>?_)]
  have E:∀{S5:Sm K Z Θ A t σ I},gj K Z Θ ao σ H Θ A t σ I:=λ{S5}=>(gj.uW (k1.trans k2) (f1.trans f2) F).trans (st.trans (gj.uW (k4.trans k5) f4 S5))
  unfold ifB at c;split at c
  .obtain⟨S5,Y⟩:=R5
   exact#[aq,Y,ye #[Z,Θ,A,t,fl,bK,C',S5,c,q.trans (E (S5:=S5))]]
  .obtain⟨S5,Y⟩:=R5
   exact#[aR,Y,yc #[Z,Θ,A,t,fl,bK,C',S5,c,q.trans (E (S5:=S5))]]
  .cases c
 obtain⟨ks,p,f⟩:=dB f
 split at f
 case isFalse=>cases f
 rename_i hs;have f:=nO f
 obtain⟨b,hb,rfl⟩:=X3 p (b1.go S1 k2 f2)
 obtain⟨vs,T,rd⟩:=rt
 have am:a∈cR e2 σ:=oO.mpr #[i,_,hi,G];have own:∀{o:HO}{U:021}{X:az}{w:V},RZ (er (bQ Z Θ e2 σ) H2) X w->RZ (er (bQ Z Θ (e2.set i (aa (.ow (.dict U)))) σ) (upd H2 a o)) X w:=λ{o U X w} h=>by
  have e:bQ Z Θ (e2.set i (aa (.ow (.dict U)))) σ=bQ Z Θ e2 σ:=by unfold bQ;rw[X5 hi]
  rw[e];exact RZ.same (ar5 (jH _ (jH _ am))) h
 refine#[b,ks,rfl,hb,?_]
 rcases T with⟨js,g1,ep,ha⟩|⟨js,⟨ne,g1⟩,ep,ha⟩
 .obtain⟨js',g2⟩:=wN.mp hs.1
  have R:=xu g1 g2;subst R;cases g1;have R:vs=[]:=rd;subst R;cases f
  obtain⟨n,s,O,M,N⟩:=Gy (au:=[]) (vs:=[]) (ks:=[]) p m rfl rfl
  refine .inr #[ep,ha,λe=>j _ _ (F.write hi G #[s,.inr #[n,#[012,O],e,?_],M]) (own m)];rw[N];exact fj
 .refine .inl #[_,ep,ha,?_,?_]
  .rw[Jb,jV,vA g1];have:=hs.2;unfold fG at this;lia
  .unfold aaV at f;rcases QC (k:=ks) g1 rd with⟨d',v,q1,q2,q3⟩|⟨q1,q2⟩
   .rw[q1] at f;cases f;refine .inl #[v,q2,?_];have e:e2.set i (aa (.ow (.dict au)))=e2:=afJ hi;refine j v H2 ?_ ?_<;>rw[e]
    .exact gj.same F
    .exact q3
   .rw[q1] at f;cases f
    obtain⟨n,s,O,M,N⟩:=Gy p m g1 rd
    have pe:pU lq ks dk d au=au++[(dk,d)]:=by
     unfold pU;rw[cC];rw[YJ g1 rd,Qt,q2];exact kY
    rw[pe] at O M;rw[ae8 _ q2] at N;refine .inr #[q2,λe=>j _ _ (F.write hi G #[s,.inr #[n,#[?_,O],e,?_],M]) (own m)]
    .intro z;cases au<;>cases z
    .rw[N];exact fj
theorem aum(hu:033)(c:X.A.units+64<fJ)(d:PE X o (lA i))(he:PE X e (eN X.K fk))(h:PE X f (tE X.K fe))(h2:PE X e2 (eN X.K fb))(m:M2 X o "setdefault" apos e f cpos)(b:Ff .NotEq e2=aR)(a:jQ X body (tS X.K g)):
  PS X (.If (.Compare (.Call (.Attribute o "setdefault" apos) [e,f] [] cpos) [.NotEq] [e2] p1) body [] pos) (tS X.K (LK i fk fe fb g)):=
 (ail (agg (vI c) (aul hu d he h m) h2 b) a jK).weak (ap3 vO)
end L2
namespace K23
open PySem L2
abbrev zaa:List Str:=["house","part","outer","over"]
abbrev zab:List Str:=["house","part"]
abbrev zac:List Str:=["house","paper","holder","signer","day"]
abbrev zad:List Str:=["house","paper","holder","day","turned"]
abbrev zae:List Str:=["house","paper","holder","day"]
abbrev zaf:List Str:=["house","paper","holder","signer","day","row","ways"]
abbrev zag:List Str:=["ways","number","holder","signer","others"]
abbrev zah:List Str:=["ways","number","holder","signer"]
abbrev zai:List Str:=["paper","person"]
abbrev zaj:List Str:=["house","paper","day","over"]
abbrev zak:List Str:=["house","paper","day"]
abbrev zal:List Str:=["ways","holder","signer"]
abbrev zam:List Str:=["ways","steps","person"]
abbrev zan:List Str:=["ways","signer","steps","newest","many","person"]
abbrev zao:List Str:=["ways","signer"]
abbrev zap:List Str:=["thing"]
abbrev zaq:List Str:=["keys"]
abbrev zar:List Str:=["house","paper","holder","signer","day","thing","ways"]
abbrev zas:List Str:=["house","paper","holder","signer","day","thing"]
abbrev zat:List Str:=["ways","holder","numbers"]
abbrev zau:List Str:=["house","part","sides","holder","signer","day"]
abbrev zav:List Str:=["house","bounds"]
abbrev zaw:List Str:=["house"]
abbrev zax:List Str:=["_law_cell","_law_k"]
abbrev zay:List Str:=["_law_script","_law_k"]
abbrev zaz:List Str:=["_law_left","_law_many"]
abbrev za0:List Str:=["_law_found","_law_due"]
abbrev za1:List Str:=["_law_left","_law_many","_law_letters","_law_head","_law_tail","_law_first","_law_by","_law_found","_law_k","_law_value","_law_two"]
abbrev za2:List Str:=["_law_left"]
abbrev za3:List Str:=["_law_left","_law_names"]
abbrev za4:List Str:=["_law_parts","_law_part"]
abbrev za5:List Str:=["_law_left","_law_parts","_law_people","_law_many","_law_paper","_law_day"]
abbrev za6:List Str:=["_law_parts","_law_leaves"]
abbrev za7:List Str:=["_law_left","_law_most"]
abbrev za8:List Str:=["_law_parts","_law_paper","_law_day","_law_leave"]
abbrev za9:List Str:=["_law_parts","_law_leaves","_law_paper","_law_holder","_law_day","_law_steps","_law_best","_law_turn","_law_leave","_law_row","_law_old"]
abbrev zba:List Str:=["_law_parts","_law_leaves","_law_paper","_law_holder","_law_day"]
abbrev zbb:List Str:=["_law_parts","_law_leaves","_law_paper","_law_holder","_law_day","_law_best","_law_steps","_law_turn","_law_leave"]
abbrev zbc:List Str:=["_law_house","_law_paper","_law_people","_law_day"]
abbrev zbd:List Str:=["_law_told","_law_some","_law_sizes","_law_one"]
abbrev zbe:List Str:=["_law_told"]
abbrev zbf:List Str:=["_law_parts","_law_leaves","_law_house","_law_paper","_law_both","_law_day","_law_holder","_law_signer","_law_rows","_law_wide","_law_due","_law_leave","_law_without"]
abbrev zbg:List Str:=["_law_parts","_law_leaves","_law_house","_law_paper","_law_both","_law_day"]
abbrev zbh:List Str:=["_law_script","_law_k","_law_left","_law_parts","_law_people","_law_leaves","_law_paper","_law_day","_law_other","_law_gone","_law_lists","_law_trees","_law_houses","_law_papers","_law_some","_law_kept","_law_told","_law_turn","_law_at","_law_by","_law_when","_law_found","_law_holder","_law_both"]
abbrev zbi:List Str:=["_law_script"]
abbrev zbj:List Str:=["number","giver","taker"]
abbrev zbk:List Str:=["number"]
abbrev zbl:List Str:=["_law_letters","_law_left"]
abbrev zbm:List Str:=["_law_leave"]
abbrev zbn:List Str:=["_law_parts","_law_paper","_law_day"]
abbrev zbo:List Str:=["_law_one"]
def top(i:Nat):dH:=PySem.Challenge.pw_rankseals_k23_rows_by_turns.main.body.getD i (.Pass #[0,0,0,0])
abbrev Oj:dH:=top 1
theorem N5:gw zaa zab (cN Oj):=01
abbrev Yk:dH:=top 3
theorem aoM:gw zac zac (cN Yk):=01
abbrev Ol:dH:=top 4
theorem adl:gw zad zae (cN Ol):=01
abbrev Nr:dH:=top 5
theorem Vd:gw zaf zac (cN Nr):=01
abbrev O4:dH:=top 6
theorem adB:gw zag zah (cN O4):=01
abbrev Xl:dH:=top 7
theorem anG:gw zai zai (cN Xl):=01
abbrev Qh:dH:=top 8
theorem aef:gw zaj zak (cN Qh):=01
abbrev Wk:dH:=top 9
theorem Jp:gw (["ways","holder","signer","steps","row","number"]:List Str) zal (cN Wk):=01
abbrev Om:dH:=top 10
theorem ami:gw zam zam (cN Om):=01
abbrev Py:dH:=top 11
theorem Cw:gw zan zao (cN Py):=01
abbrev Wl:dH:=top 13
theorem amD:gw zap zap (cN Wl):=01
abbrev O5:dH:=top 15
theorem amE:gw zaq zaq (cN O5):=01
abbrev QX:dH:=top 17
theorem aeN:gw zar zas (cN QX):=01
abbrev M6:dH:=top 18
theorem akF:gw zap zap (cN M6):=01
abbrev V3:dH:=top 19
theorem Fj:gw (["ways","holder","numbers","person","number","giver","taker"]:List Str) zat (cN V3):=01
abbrev Xm:dH:=top 22
theorem Pz:gw (["house","part","sides","holder","signer","day","asker","getter","amount"]:List Str) zau (cN Xm):=01
abbrev N6:dH:=top 23
theorem ac0:gw zav zaw (cN N6):=01
abbrev Z5:dH:=top 25
theorem ag4:gw (["_law_cell","_law_k","_law_m"]:List Str) zax (cN Z5):=01
abbrev VB:dH:=top 26
theorem ac1:gw (["_law_script","_law_k","_law_cell"]:List Str) zay (cN VB):=01
abbrev Za:dH:=top 27
theorem afK:gw (["_law_left","_law_many","_law_digit"]:List Str) zaz (cN Za):=01
abbrev Kc:dH:=top 28
theorem ap4:gw za0 za0 (cN Kc):=01
abbrev Fo:dH:=top 29
theorem wX:gw za1 zaz (cN Fo):=01
abbrev Wm:dH:=top 30
theorem adC:gw (["_law_left","_law_first"]:List Str) za2 (cN Wm):=01
abbrev Wn:dH:=top 31
theorem amF:gw za2 za2 (cN Wn):=01
abbrev VD:dH:=top 32
theorem NP:gw (["_law_left","_law_names","_law_found","_law_k","_law_name"]:List Str) za3 (cN VD):=01
abbrev VF:dH:=top 33
theorem Vt:gw (["_law_parts","_law_part","_law_found"]:List Str) za4 (cN VF):=01
abbrev Xn:dH:=top 34
theorem PB:gw (["_law_left","_law_many","_law_found","_law_last","_law_k"]:List Str) zaz (cN Xn):=01
abbrev Vu:dH:=top 35
theorem yG:gw (["_law_left","_law_parts","_law_people","_law_many","_law_paper","_law_day","_law_found","_law_over","_law_number","_law_at","_law_to","_law_part","_law_days","_law_most"]:List Str) za5 (cN Vu):=01
abbrev Wo:dH:=top 36
theorem amG:gw za6 za6 (cN Wo):=01
abbrev Zb:dH:=top 37
theorem yO:gw (["_law_left","_law_most","_law_names","_law_parts","_law_people","_law_some","_law_sides","_law_part","_law_paper","_law_day"]:List Str) za7 (cN Zb):=01
abbrev Zc:dH:=top 38
theorem ap5:gw za8 za8 (cN Zc):=01
abbrev O6:dH:=top 39
theorem Jq:gw za9 zba (cN O6):=01
abbrev Oo:dH:=top 40
theorem Jl:gw zbb zba (cN Oo):=01
abbrev Z6:dH:=top 41
theorem GJ:gw (["_law_house","_law_paper","_law_people","_law_day","_law_found","_law_holder","_law_signer","_law_row"]:List Str) zbc (cN Z6):=01
abbrev CK:dH:=top 42
theorem PJ:gw zbd zbe (cN CK):=01
abbrev Oq:dH:=top 43
theorem Ac:gw zbf zbg (cN Oq):=01
abbrev HJ:dH:=top 44
theorem nu:gw zbh zbi (cN HJ):=01
structure Txt(K:bw)(mg:Str->Option aL)(gF:Tok):Prop where
 R8:mg "abs"=aj
 K8:mg "all"=aj
 Ho:mg "bool"=aj
 Z7:mg "dict"=aj
 Wq:mg "enumerate"=aj
 Bf:mg "int"=aj
 oK:mg "isinstance"=aj
 mq:mg "len"=aj
 Aw:mg "list"=aj
 K9:mg "max"=aj
 zx:mg "min"=aj
 vD:mg "range"=aj
 vB:mg "sorted"=aj
 zy:mg "str"=aj
 Dg:mg "tuple"=aj
 La:mg "zip"=aj
 ac2:mg "GREATEST_SUM"=aa (.int 1000000000 gF)
abbrev acJ:FT:=(dR (aX lC (aM 1) (aM 2)))
abbrev acK:FS:=(bN (pR 3 (aO 1)) (cP 1 (aX bW (aM 2) (aM 1))))
abbrev acL:FE:=(aO 0)
abbrev acM:FE:=(aO 1)
abbrev V4:FS:=(bN (cP 2 (Bv (wJ (aG (aX bW (aM 0) (aG (aW (.int 0)))))) (.many 2) dU acL acM [])) (bN (cP 3 (iD bD)) (bN (zP acJ acK) (oh 3))))
def Ot:FN:=fN 2 4 V4
abbrev Xo:FS:=(eU (aX lC (aM 1) (aG (gC (aM 0) (fQ (aG (aW (.int 2)))) (fQ (aG (aW (.int 4))))))))
def sX:FN:=fN 2 2 Xo
abbrev V5:FT:=(qT (dR (aX lC (aM 3) (aM 7))) (qT (dR (Bm tL tL (aM 4) (aM 8) (aM 5))) (qT (dR (aX tL (aG (aX bW (aM 9) (aG (aW (.int 1))))) (aM 6))) (qT (su (lD (aG (bO sX (aD (aO 9) (aD (aO 1) bD)))))) (su (lD (aG (bO sX (aD (aO 9) (aD (aO 2) bD))))))))))
abbrev V6:FE:=(j7 (aD (aO 0) (aD (aO 1) (aD (aO 2) bD))))
abbrev Xp:FS:=(bN (cP 3 (bO Ot (aD (aO 0) (aD (aX bW (aM 1) (aG (aW (.int 0)))) bD)))) (eU (gM (wJ (aG (aX bW (aM 0) (aG (aW (.int 2)))))) (.many 7) V5 V6 [3,2,1])))
def vz:FN:=fN 3 4 Xp
abbrev adm:FS:=(qm 2 (aM 5) (aO 4))
abbrev adn:FT:=(qT (dR (aX lC (aM 2) (aM 3))) (dR (aX pH (aM 1) (aM 4))))
abbrev ado:FE:=(aO 1)
abbrev adp:FT:=(lD (aM 3))
abbrev adq:FS:=(bN (SQ 4 (aG (aW (.int 1)))) (bN (cP 3 (Mv (wJ (aM 0)) (.many 3) adn ado [3,2])) (iG (iV (aO 3)) (dM 5) adm)))
abbrev W0:FS:=(bN (cP 2 (xV (aM 1) (aW (.int 0)))) (bN (cP 3 (iD (aD (aO 1) bD))) (bN (cP 4 (aW (.int 0))) (bN (zP adp adq) (oh 2)))))
def Gb:FN:=fN 2 6 W0
abbrev acN:FT:=(qT (dR (aX j5 (aM 1) (aM 3))) (qT (dR (aX lC (aM 2) (aM 4))) (dR (aX zG (aG (aX bW (aM 4) (aM 2))) (aG (aX bW (aM 4) (aM 3)))))))
abbrev acO:FE:=(j7 (aD (aO 0) (aD (aO 2) bD)))
abbrev V7:FS:=(eU (dz Ry (cM (aG (gM (wJ (aM 0)) (.many 3) acN acO [2,1])) dw)))
def Ou:FN:=fN 3 3 V7
abbrev ac3:FT:=(dR (aX j6 (aM 1) (aM 2)))
abbrev ac4:FS:=(bN (Bo (bO Ou (aD (aO 0) (aD (aO 3) (aD (aO 1) bD)))) (yq 2 (nj (dM 5) (nj (dM 1) xP)))) (pR 4 (aO 5)))
abbrev O7:FS:=(bN (cP 3 (bO Gb (aD (aO 0) (aD (aO 2) bD)))) (bN (jn (dR (aX pH (aM 1) (aM 3))) (eU (aW .none)) jm) (bN (cP 4 (iD bD)) (bN (zP ac3 ac4) (oh 4)))))
def FJ:FN:=fN 3 6 O7
abbrev JP:FS:=(bN (jn (sE (lD (aG (bO sX (aD (aO 1) (aD (aO 2) bD))))) (lD (aG (bO sX (aD (aO 1) (aD (aO 3) bD)))))) (eU (aW .none)) jm) (eU (bO FJ (aD (bO vz (aD (aO 0) (aD (aO 1) (aD (aO 4) bD)))) (aD (aO 2) (aD (aO 3) bD))))))
def ur:FN:=fN 5 5 JP
abbrev acP:FE:=(j7 (aD (aO 0) (aD (aO 2) (aD (aO 1) bD))))
abbrev Ov:FS:=(bN (jn (lD (aG (bO sX (aD (aO 1) (aD (aO 2) bD))))) (eU (iD bD)) jm) (bN (cP 4 (gM (wJ (aG (bO vz (aD (aO 0) (aD (aO 1) (aD (aO 3) bD)))))) (.many 3) dU acP [])) (eU (dz xF (cM (aG (bO Gb (aD (aO 4) (aD (aO 2) bD)))) dw)))))
def yK:FN:=fN 4 5 Ov
abbrev ac5:FT:=(dR (aX j6 (aG (aX bW (aM 0) (aG (aW (.int 0))))) (aM 1)))
abbrev ac6:FE:=(aO 0)
abbrev O8:FS:=(bN (cP 4 (gM (iB (aM 0)) .one ac5 ac6 [1])) (eU (aX qR (aG (bO FJ (aD (aO 4) (aD (aO 2) (aD (aO 3) bD))))) (aG (aW .none)))))
def Jt:FN:=fN 4 5 O8
abbrev acd:FT:=(lD (aG (bO Jt (aD (aO 1) (aD (aO 0) (aD (aO 2) (aD (aO 3) bD)))))))
abbrev ace:FE:=(aO 0)
abbrev Nt:FS:=(bN (cP 5 (bO ur (aD (aO 0) (aD (aO 1) (aD (aO 2) (aD (aO 3) (aD (aO 4) bD))))))) (bN (jn (dR (aX qR (aM 5) (aG (aW .none)))) (eU (iD bD)) jm) (bN (cP 6 (bO vz (aD (aO 0) (aD (aO 1) (aD (aO 4) bD))))) (eU (gM (iB (aG (dz J8 (cM (aM 5) dw)))) .one acd ace [6,2,3])))))
def z8:FN:=fN 5 7 Nt
abbrev adR:FS:=(eU (oY (mY "int" (aM 0)) (Hv (mY "bool" (aM 0)))))
def O9:FN:=fN 1 1 adR
abbrev ac7:FE:=(aX zG (aM 0) (aM 1))
abbrev Wr:FS:=(eU (dz zp (cM (aG (gM (zQ (cM (aM 0) (cM (aG (gC (aM 0) (fQ (aG (aW (.int 1)))) jc)) dw))) (.many 2) dU ac7 [])) dw)))
def Pa:FN:=fN 1 1 Wr
abbrev abS:FE:=(bO O9 (aD (aO 0) bD))
abbrev UG:FS:=(bN (jn (sE (su (lD (aG (mY "list" (aM 0))))) (su (lD (aG (dz zp (cM (aG (gM (iB (aM 0)) .one dU abS [])) dw)))))) (eU (aW (.bool aR))) jm) (eU (bO Pa (aD (dz J8 (cM (aM 0) dw)) bD))))
def M7:FN:=fN 1 1 UG
abbrev acQ:FS:=(bN (jn (dR (aX pH (aM 4) (aM 0))) (eU (aW .none)) jm) (bN (Bo (aX bW (aM 0) (aM 4)) (yq 2 (nj (dM 5) (nj (dM 6) xP)))) (bN (jn (dR (aX j6 (aM 5) (aM 3))) (eU (aW .none)) jm) (cP 3 (aO 6)))))
abbrev Ow:FS:=(bN (cP 3 (aO 1)) (bN (iG (iV (aO 2)) (dM 4) acQ) (oh 3)))
def Ox:FN:=fN 3 7 Ow
abbrev Ws:FE:=(aO 0)
abbrev Wt:FE:=(j7 (aD (aO 1) (aD (aO 2) bD)))
abbrev Ag:FS:=(bN (jn (sE (lD (aG (bO sX (aD (aO 1) (aD (aO 2) bD))))) (sE (lD (aG (bO sX (aD (aO 1) (aD (aO 3) bD))))) (su (lD (aG (bO M7 (aD (aO 5) bD))))))) (eU (aW (.bool aR))) jm) (bN (jn (dR (aX j5 (aM 2) (aM 3))) (eU (aX j5 (aM 5) (aG (iD bD)))) jm) (bN (cP 6 (Bv (wJ (aG (bO vz (aD (aO 0) (aD (aO 1) (aD (aO 4) bD)))))) (.many 3) dU Ws Wt [])) (eU (aX j5 (aG (bO Ox (aD (aO 6) (aD (aO 2) (aD (aO 5) bD))))) (aM 3))))))
def CW:FN:=fN 6 7 Ag
abbrev acw:FE:=(dz sZ (cM (aG (aX bW (aM 0) (aG (aW (.int 6))))) (cM (aG (aW (.int 1000000000))) dw)))
abbrev VG:FS:=(bN (cP 1 (gM (iB (aG (aX bW (aM 0) (aG (aW (.int 2)))))) .one dU acw [])) (eU (ZX (aG (aX cZ (aG (iD (aD (aW (.int 1000000000)) bD))) (aM 1))) (aG (aW (.bool aq))))))
def N7:FN:=fN 1 2 VG
abbrev adD:FS:=(jn (dR (aX yX (aG (bO ur (aD (aO 0) (aD (j7 (aD (aO 1) (aD (aO 8) (aD (aO 6) (aD (aO 7) bD))))) (aD (aO 3) (aD (aO 4) (aD (aO 5) bD))))))) (aG (aW .none)))) (oh 8) jm)
abbrev Qi:FS:=(bN (Bo (aO 2) (yq 2 (nj (dM 6) (nj (dM 7) xP)))) (bN (iG (iV (bO N7 (aD (aO 0) bD))) (dM 8) adD) (eU (aW .none))))
def Af:FN:=fN 6 9 Qi
abbrev Z8:FS:=(bN (cP 2 (aX nZ (aG (aX mO (aG (aX cZ (aG (aX cZ (aG (aX nZ (aM 0) (aG (aW (.int 2147483629))))) (aG (aX mO (aG (aX mO (aM 1) (aM 1))) (aG (aW (.int 7919))))))) (aG (aW (.int 11))))) (aG (aW (.int 48271))))) (aG (aW (.int 2147483647))))) (eU (aX nZ (aG (aX mO (aM 2) (aM 2))) (aG (aW (.int 1999999973))))))
def Ku:FN:=fN 2 3 Z8
abbrev VH:FS:=(bN (cP 2 (q9 (dR (aX zG (aM 1) (aG (Ba 0)))) (Ln 0 (aM 1)) (aW (.int 0)))) (eU (iD (aD (aX bW (aG (iD (aD (aW (.int 0)) (aD (dz KR (cM (aM 2) dw)) bD)))) (aG (dz vQ (cM (aG (aX Sy (aG (dz KR (cM (aM 2) dw))) (aG (aX uE (aG (aW (.int 10))) (aG (aW (.int 18))))))) dw)))) (aD (aX cZ (aM 2) (aG (aX mO (aG (aW (.int 1000003))) (aM 1)))) (aD (aW (.int 0)) bD))))))
def N8:FN:=fN 2 3 VH
abbrev Rf:FS:=(bN (qm 0 (aG (aW (.int 2))) (aX cZ (aG (wj 0 (aG (aW (.int 2))))) (aG (aW (.int 1))))) (bN (jn (dR (aX zH (aG (wj 0 (aG (aW (.int 0))))) (aG (aW (.int 0))))) (bN (cP 2 (aX nZ (aG (wj 0 (aG (aW (.int 0))))) (aM 1))) (bN (qm 0 (aG (aW (.int 0))) (aX vH (aG (wj 0 (aG (aW (.int 0))))) (aM 1))) (oh 2))) jm) (eU (aX nZ (aG (aX vH (aG (bO Ku (aD (bO Ku (aD (wj 0 (aG (aW (.int 1)))) (aD (wj 0 (aG (aW (.int 2)))) bD))) (aD (aX cZ (aG (wj 0 (aG (aW (.int 2))))) (aG (aW (.int 64)))) bD)))) (aG (aW (.int 64))))) (aM 1)))))
def cV:FN:=fN 2 3 Rf
abbrev W2(Zd:FN):FE:=(bO Zd (aD (aO 0) (aD (aO 1) bD)))
abbrev GK(Zd:FN):FS:=(bN (jn (lD (aG (Dt "list" "tuple" (aM 1)))) (bN (jn (sE (dR (aX j6 (aG (mY "list" (aM 0))) (aG (mY "list" (aM 1))))) (dR (aX j6 (aG (mY "tuple" (aM 0))) (aG (mY "tuple" (aM 1)))))) (eU (aW (.bool aR))) jm) (eU (oY (aX j5 (aG (dz jY (cM (aM 0) dw))) (aG (dz jY (cM (aM 1) dw)))) (dz zp (cM (aG (gM (zQ (cM (aM 0) (cM (aM 1) dw))) (.many 2) dU (W2 Zd) [])) dw))))) jm) (bN (jn (sE (dR (aX qR (aM 1) (aG (aW .none)))) (lD (aG (mY "str" (aM 1))))) (eU (oY (aX j5 (aM 0) (aM 1)) (aX j5 (aG (mY "str" (aM 0))) (aG (mY "str" (aM 1)))))) jm) (bN (jn (lD (aG (mY "bool" (aM 1)))) (eU (oY (mY "bool" (aM 0)) (aX j5 (aM 0) (aM 1)))) jm) (eU (oY (mY "int" (aM 0)) (oY (Hv (mY "bool" (aM 0))) (aX j5 (aM 0) (aM 1))))))))
def nU:Nat->FN
 |0=>aar
 |n+1=>fN 2 2 (GK (nU n))
abbrev I9:FS:=(bN (cP 9 (aX nZ (aG (aX cZ (aM 5) (aG (aX mO (aM 6) (aM 8))))) (aG (aW (.int 676))))) (bN (cP 10 (aX cZ (aG (aX bW (aM 2) (aG (aX vH (aM 9) (aG (aW (.int 26))))))) (aG (aX bW (aM 2) (aG (aX nZ (aM 9) (aG (aW (.int 26))))))))) (pR 7 (aX cZ (aG (aX cZ (aM 3) (aM 10))) (aG (gC (aM 4) jc (fQ (aG (aX nZ (aG (aX cZ (aG (aX mO (aM 8) (aM 8))) (aM 5))) (aG (aW (.int 4))))))))))))
abbrev Ve:FE:=(aX bW (aM 1) (aG (aX nZ (aG (aX cZ (aM 2) (aG (aX mO (aM 3) (aM 0))))) (aG (aW (.int 26))))))
abbrev Vf:FE:=(aX bW (aM 1) (aG (bO cV (aD (aO 2) (aD (aW (.int 26)) bD)))))
abbrev Vg:FE:=(aX bW (aM 1) (aG (bO cV (aD (aO 2) (aD (aW (.int 26)) bD)))))
abbrev Oa:FS:=(bN (cP 2 (aW (.str (gV "abcdefghijklmnopqrstuvwxyz")))) (bN (cP 3 (Bc (aG (aW (.str (gV "")))) (aG (gM (mR (aG (bO cV (aD (aO 0) (aD (aW (.int 4)) bD))))) .one dU Vg [2,0])))) (bN (cP 4 (Bc (aG (aW (.str (gV "")))) (aG (gM (mR (aG (bO cV (aD (aO 0) (aD (aW (.int 4)) bD))))) .one dU Vf [2,0])))) (bN (o7 [5,6] (jX (bO cV (aD (aO 0) (aD (aW (.int 676)) bD))) (jX (aX bW (aG (iD (aD (aW (.int 1)) (aD (aW (.int 3)) (aD (aW (.int 5)) (aD (aW (.int 7)) (aD (aW (.int 25)) (aD (aW (.int 675)) bD)))))))) (aG (bO cV (aD (aO 0) (aD (aW (.int 6)) bD))))) bD))) (bN (jn (qT (dR (aX zG (aM 1) (aG (aW (.int 27))))) (dR (aX j5 (aG (bO cV (aD (aO 0) (aD (aW (.int 3)) bD)))) (aG (aW (.int 0)))))) (eU (gM (mR (aM 1)) .one dU Ve [2,5,6])) jm) (bN (cP 7 (iD bD)) (bN (iG (mR (aM 1)) (dM 8) I9) (oh 7))))))))
def Oc:FN:=fN 2 11 Oa
abbrev Wu:FS:=(bN (cP 1 (aX bW (aG (iD (aD (bO cV (aD (aO 0) (aD (aW (.int 9)) bD))) (aD (bO cV (aD (aO 0) (aD (aW (.int 9)) bD))) (aD (aX Az (aG (aW (.int 99990))) (aG (bO cV (aD (aO 0) (aD (aW (.int 9)) bD))))) bD))))) (aG (bO cV (aD (aO 0) (aD (aW (.int 3)) bD)))))) (eU (j7 (aD (aO 1) (aD (dz sZ (cM (aG (aW (.int 99999))) (cM (aG (aX cZ (aM 1) (aG (aX bW (aG (iD (aD (aW (.int 0)) (aD (bO cV (aD (aO 0) (aD (aW (.int 12)) bD))) (aD (aW (.int 99999)) bD))))) (aG (bO cV (aD (aO 0) (aD (aW (.int 3)) bD)))))))) dw))) bD)))))
def FP:FN:=fN 1 2 Wu
abbrev Wv:FS:=(eU (aX bW (aG (iD (aD (bO cV (aD (aO 0) (aD (aW (.int 4)) bD))) (aD (aX cZ (aG (aW (.int 100))) (aG (bO cV (aD (aO 0) (aD (aW (.int 4)) bD))))) (aD (aX Az (aG (aX uE (aG (aW (.int 10))) (aG (aW (.int 9))))) (aG (bO cV (aD (aO 0) (aD (aW (.int 3)) bD))))) bD))))) (aG (bO cV (aD (aO 0) (aD (aW (.int 3)) bD))))))
def FQ:FN:=fN 1 1 Wv
abbrev Ja:FS:=(qm 2 (aM 4) (aX bW (aG (aX cZ (aG (iD (aD (aW (.str (gV ""))) bD))) (aG (gC (aM 1) jc (fQ (aM 3)))))) (aG (q9 (dR (aX zH (aG (bO cV (aD (aO 0) (aD (aW (.int 4)) bD)))) (aG (aW (.int 0))))) (bO cV (aD (aO 0) (aD (aX cZ (aM 3) (aG (aW (.int 1)))) bD))) (aW (.int 0))))))
abbrev VJ:FS:=(bN (cP 2 vJ) (bN (iG (T7 (aO 1)) (yq 2 (nj (dM 3) (nj (dM 4) xP))) Ja) (oh 2)))
def Od:FN:=fN 2 5 VJ
abbrev acy:FT:=(dR (aX lC (aM 1) (aM 0)))
abbrev acz:FS:=(bN (pR 2 (aO 1)) (cP 1 (aX bW (aM 0) (aM 1))))
abbrev VL:FS:=(bN (cP 2 (iD bD)) (bN (zP acy acz) (oh 2)))
def Fp:FN:=fN 2 3 VL
abbrev V8:FS:=(bN (pR 2 (aO 3)) (cP 3 (aX cZ (aG (aX cZ (aM 3) (aG (aW (.int 1))))) (aG (aX mO (aG (bO cV (aD (aO 0) (aD (aW (.int 2)) bD)))) (aG (bO cV (aD (aO 0) (aD (aW (.int 3)) bD)))))))))
abbrev Xq:FS:=(bN (o7 [2,3] (jX (iD bD) (jX (bO cV (aD (aO 0) (aD (aW (.int 3)) bD))) bD))) (bN (iG (mR (aM 1)) (dM 4) V8) (oh 2)))
def Qj:FN:=fN 2 5 Xq
abbrev Es:FS:=(bN (cP 9 (bO cV (aD (aO 0) (aD (dz jY (cM (aM 2) dw)) bD)))) (bN (cP 10 (aX nZ (aG (aX cZ (aG (aX cZ (aM 9) (aG (aW (.int 1))))) (aG (aX mO (aG (bO cV (aD (aO 0) (aD (aX Az (aG (dz jY (cM (aM 2) dw))) (aG (aW (.int 1)))) bD)))) (aG (bO cV (aD (aO 0) (aD (aW (.int 2)) bD)))))))) (aG (dz jY (cM (aM 2) dw))))) (bN (o7 [11,12,13] (jX (aX bW (aG (dz xF (cM (aM 1) dw))) (aG (bO cV (aD (aO 0) (aD (dz jY (cM (aM 1) dw)) bD))))) (jX (bO FP (aD (aO 0) bD)) (jX (bO FQ (aD (aO 0) bD)) bD)))) (bN (jn (qT (dR (aX zH (aG (bO cV (aD (aO 0) (aD (aW (.int 3)) bD)))) (aG (aW (.int 0))))) (dR (aX j6 (aM 7) (aG (iD bD))))) (bN (cP 11 (aX bW (aM 7) (aG (bO cV (aD (aO 0) (aD (dz jY (cM (aM 7) dw)) bD)))))) (bN (cP 12 (j7 (aD (dz xO (cM (aG (aW (.int 0))) (cM (aG (aX Az (aM 5) (aG (bO cV (aD (aO 0) (aD (aW (.int 2)) bD)))))) dw))) (aD (dz sZ (cM (aG (aW (.int 99999))) (cM (aG (aX cZ (aM 5) (aG (bO cV (aD (aO 0) (aD (aW (.int 2)) bD)))))) dw))) bD)))) (cP 13 (dz sZ (cM (aG (aX uE (aG (aW (.int 10))) (aG (aW (.int 9))))) (cM (aG (aX cZ (aG (aX bW (aM 4) (aG (aW (.int 1))))) (aG (bO cV (aD (aO 0) (aD (aW (.int 2)) bD)))))) dw)))))) jm) (pR 6 (aX cZ (aG (aX cZ (aG (j7 (aD (aO 8) (aD (aX bW (aM 2) (aM 9)) (aD (aX bW (aM 2) (aM 10)) (aD (aO 11) bD)))))) (aM 12))) (aG (j7 (aD (aO 13) bD)))))))))
abbrev Vv:FS:=(bN (o7 [6,7] (jX (iD bD) (jX (bO Fp (aD (aO 1) (aD (aX bW (aM 4) (aG (aW (.int 0)))) bD))) bD))) (bN (iG (iV (bO Qj (aD (aO 0) (aD (aX mO (aM 3) (aG (dz vQ (cM (aG (aX zH (aG (dz jY (cM (aM 2) dw))) (aG (aW (.int 1))))) dw)))) bD)))) (dM 8) Es) (oh 6)))
def Fd:FN:=fN 6 14 Vv
abbrev Ww:FS:=(eU (j7 (aD (dz J7 (cM (aG (Y7 (aM 0))) dw)) (aD (j7 bD) (aD (dz J7 (cM (aM 1) dw)) (aD (j7 bD) bD))))))
def yL:FN:=fN 2 2 Ww
abbrev Ze:FS:=(bN (cP 2 (bO Oc (aD (aO 0) (aD (aW (.int 24)) bD)))) (bN (cP 3 (bO Od (aD (aO 0) (aD (gC (aM 2) jc (fQ (aG (aX cZ (aG (aW (.int 1))) (aG (bO cV (aD (aO 0) (aD (aW (.int 8)) bD)))))))) bD)))) (bN (cP 4 (gC (aM 2) (fQ (aG (aW (.int 2)))) (fQ (aG (aX cZ (aG (aX cZ (aG (aW (.int 2))) (aG (aW (.int 2))))) (aG (bO cV (aD (aO 0) (aD (aX bW (aG (iD (aD (aW (.int 4)) (aD (aW (.int 9)) (aD (aW (.int 16)) bD))))) (aG (bO cV (aD (aO 0) (aD (aW (.int 3)) bD))))) bD))))))))) (bN (cP 5 (aX cZ (aM 4) (aG (gC (aM 2) (fQ (aG (aW (.int 18)))) (fQ (aG (aW (.int 20)))))))) (bN (cP 6 (j7 (aD (aX bW (aM 5) (aG (bO cV (aD (aO 0) (aD (dz jY (cM (aM 5) dw)) bD))))) (aD (aX bW (aM 5) (aG (bO cV (aD (aO 0) (aD (dz jY (cM (aM 5) dw)) bD))))) bD)))) (bN (jn (dR (aX zH (aG (bO cV (aD (aO 0) (aD (aW (.int 3)) bD)))) (aG (aW (.int 0))))) (cP 6 (j7 (aD (aX bW (aM 2) (aG (aW (.int 20)))) (aD (aX bW (aM 2) (aG (aX cZ (aG (aW (.int 20))) (aG (bO cV (aD (aO 0) (aD (aW (.int 2)) bD))))))) bD)))) jm) (bN (cP 7 (aX bW (aG (aX cZ (aG (dz xF (cM (aM 3) dw))) (aG (gC (aM 2) (fQ (aG (aW (.int 22)))) (fQ (aG (aW (.int 23)))))))) (aG (bO cV (aD (aO 0) (aD (aX cZ (aG (dz jY (cM (aM 3) dw))) (aG (dz vQ (cM (aG (aX j5 (aG (bO cV (aD (aO 0) (aD (aW (.int 9)) bD)))) (aG (aW (.int 0))))) dw)))) bD)))))) (bN (o7 [8,9] (jX (aX cZ (aG (j7 (aD (aO 7) (aD (bO FQ (aD (aO 0) bD)) bD)))) (aM 6)) (jX (aX bW (aG (bO FP (aD (aO 0) bD))) (aG (bO cV (aD (aO 0) (aD (aW (.int 2)) bD))))) bD))) (eU (j7 (aD (aO 3) (aD (aO 4) (aD (bO Fd (aD (aO 0) (aD (aO 3) (aD (aO 4) (aD (bO cV (aD (aO 0) (aD (aX cZ (aM 1) (aG (aW (.int 1)))) bD))) (aD (aO 8) (aD (aO 9) bD))))))) (aD (aO 8) (aD (aO 9) bD)))))))))))))))
def Rg:FN:=fN 2 10 Ze
abbrev GP:FS:=(bN (jn (sE (dR (aX lC (aG (aX bW (aM 3) (aG (aW (.int 1))))) (aG (gC (aM 1) (fQ (aG (aW (.int 2)))) jc)))) (sE (dR (aX lC (aG (aX bW (aM 3) (aG (aW (.int 2))))) (aG (gC (aM 1) (fQ (aG (aW (.int 2)))) jc)))) (dR (aX pH (aG (aX bW (aM 3) (aG (aW (.int 3))))) (aG (bO Fp (aD (aO 0) (aD (aX bW (aM 1) (aG (aW (.int 0)))) bD)))))))) (eU (aW (.bool aR))) jm) (eU (oY (Bm tL tL (aG (aX bW (aM 3) (aG (aW (.int 4))))) (aM 2) (aG (aX bW (aM 3) (aG (aW (.int 5)))))) (aX tL (aG (aX bW (aM 1) (aG (aW (.int 1))))) (aG (aX bW (aM 3) (aG (aW (.int 6)))))))))
def GQ:FN:=fN 4 4 GP
abbrev Vw:FS:=(jn (dR (aX lC (aG (aX bW (aM 8) (aG (aW (.int 1))))) (aM 6))) (bN (o7 [9,10] (jX (aX cZ (aG (aX bW (aM 6) (aG (aX bW (aM 8) (aG (aW (.int 1))))))) (aG (iD (aD (aX bW (aM 8) (aG (aW (.int 0)))) bD)))) (jX (rm (aM 6) (aG (aX bW (aM 8) (aG (aW (.int 2))))) (aW .none)) bD))) (jn (sE (dR (aX qR (aM 10) (aG (aW .none)))) (dR (aX K5 (aG (j7 (aD (dz jY (cM (aM 9) dw)) (aD (aO 9) bD)))) (aG (j7 (aD (dz jY (cM (aM 10) dw)) (aD (aO 10) bD))))))) (qm 6 (aG (aX bW (aM 8) (aG (aW (.int 2))))) (aO 9)) jm)) jm)
abbrev ac8:FS:=(iG (iV (aO 5)) (dM 8) Vw)
abbrev ac9:FT:=(lD (aG (bO GQ (aD (aO 1) (aD (aO 2) (aD (aO 3) (aD (aO 0) bD)))))))
abbrev ada:FE:=(aO 0)
abbrev Pb:FS:=(bN (jn (dR (aX lC (aM 3) (aG (gC (aM 2) (fQ (aG (aW (.int 2)))) jc)))) (eU vJ) jm) (bN (o7 [5,6] (jX (gM (iB (aM 1)) .one ac9 ada [0,2,4]) (jX (xV (aM 3) (iD bD)) bD))) (bN (iG (mR (aG (dz jY (cM (aM 5) dw)))) (dM 7) ac8) (oh 6))))
def Cy:FN:=fN 5 11 Pb
abbrev Jd:FS:=(jn (dR (aX lC (aG (aX bW (aM 8) (aG (aW (.int 1))))) (aM 5))) (qm 5 (aG (aX bW (aM 8) (aG (aW (.int 2))))) (dz xO (cM (aG (rm (aM 5) (aG (aX bW (aM 8) (aG (aW (.int 2))))) (DG (aG (aW (.int 1)))))) (cM (aG (dz sZ (cM (aG (aX bW (aM 5) (aG (aX bW (aM 8) (aG (aW (.int 1))))))) (cM (aG (aX bW (aM 8) (aG (aW (.int 6))))) dw)))) dw)))) jm)
abbrev acR:FS:=(iG (iV (aO 6)) (dM 8) Jd)
abbrev Nu:FT:=(lD (aG (bO GQ (aD (aO 1) (aD (aX cZ (aG (j7 (aD (aX bW (aM 2) (aG (aW (.int 0)))) (aD (aW (.int 0)) bD)))) (aG (gC (aM 2) (fQ (aG (aW (.int 2)))) jc))) (aD (aO 3) (aD (aO 0) bD)))))))
abbrev Nv:FE:=(aO 0)
abbrev adE:FS:=(bN (cP 5 (q9 (dR (aX pH (aM 3) (aG (gC (aM 2) (fQ (aG (aW (.int 2)))) jc)))) (xV (aM 3) (aX uE (aG (aW (.int 10))) (aG (aW (.int 9))))) vJ)) (bN (cP 6 (gM (iB (aM 1)) .one Nu Nv [0,2,4])) (bN (iG (mR (aG (dz jY (cM (aM 6) dw)))) (dM 7) acR) (oh 5))))
def Oz:FN:=fN 5 9 adE
abbrev Qk:FS:=(bN (Be 7 (bO ur (aD (aO 0) (aD (aO 1) (aD (aO 5) (aD (aO 6) (aD (aO 3) bD))))))) (bN (Dy 4 4 7 (bO z8 (aD (aO 0) (aD (aO 1) (aD (aO 5) (aD (aO 6) (aD (aO 3) bD))))))) (bN (xW 4 (bO Af (aD (aO 0) (aD (aX bW (aM 1) (aG (aW (.int 0)))) (aD (gC (aM 1) (fQ (aG (aW (.int 2)))) jc) (aD (aO 5) (aD (aO 6) (aD (aO 3) bD)))))))) (xW 4 (lQ (bO CW (aD (aO 0) (aD (aO 1) (aD (aO 5) (aD (aO 6) (aD (aO 3) (aD (q9 (dR (aX yX (aM 7) (aG (aW .none)))) (dz GC (cM (aM 7) dw)) (iD (aD (aW (.int 3)) bD))) bD))))))))))))
abbrev Xr:FS:=(bN (xW 4 (bO yK (aD (aO 0) (aD (aO 1) (aD (aO 5) (aD (aO 3) bD)))))) (iG (iV (aO 2)) (dM 6) Qk))
abbrev ah0:FS:=(bN (K6 4 []) (bN (iG (iV (aO 2)) (dM 5) Xr) (oh 4)))
def Kv:MF:=Ip 4 8 ah0
abbrev OD:FE:=(dz jY (cM (aM 0) dw))
abbrev Fv:FE:=(aX cZ (aM 0) (aG (aW (.int 1))))
abbrev adF:FS:=(xW 3 (aW (.str (gV "more"))))
abbrev Cv:FE:=(dz jY (cM (aM 0) dw))
abbrev Xu:FS:=(bN (HH 1 0) (bN (cP 2 (lQ (gM (iB (aM 1)) .one dU Cv []))) (bN (R4 1 3 adF) (eU (lQ (aX j5 (aG (lQ (gM (iB (aM 1)) .one dU OD []))) (aG (gM (iB (aM 2)) .one dU Fv []))))))))
def Ql:FN:=fN 1 4 Xu
abbrev acS:FT:=(dR (aX j6 (aM 0) (aM 1)))
abbrev acT:FE:=(aO 0)
abbrev Vn:FS:=(bN (cP 12 (bO Cy (aD (aO 0) (aD (gM (iB (aM 1)) .one acS acT [11]) (aD (aO 3) (aD (aO 6) (aD (aO 5) bD))))))) (cP 10 (aX cZ (aM 10) (aG (aX Kq (aG (iD (aD (aX bW (aM 11) (aG (aW (.int 0)))) bD))) (aG (dz vQ (cM (aG (oY (aX lC (aM 7) (aM 8)) (aX pH (aM 7) (aM 12)))) dw))))))))
abbrev V9:FS:=(bN (Bo (aO 4) (yq 2 (nj (dM 6) (nj (dM 7) xP)))) (bN (o7 [8,9] (jX (bO Cy (aD (aO 0) (aD (aO 1) (aD (aO 3) (aD (aO 6) (aD (aO 5) bD)))))) (jX (bO Oz (aD (aO 0) (aD (aO 1) (aD (aO 3) (aD (aO 6) (aD (aO 5) bD)))))) bD))) (bN (jn (su (lD (aG (bO (nU 2) (aD (bO yK (aD (aO 2) (aD (aO 3) (aD (aO 6) (aD (aO 5) bD))))) (aD (dz xF (cM (aM 8) dw)) bD)))))) (eU (aW (.bool aR))) jm) (bN (jn (su (lD (aG (bO (nU 2) (aD (bO ur (aD (aO 2) (aD (aO 3) (aD (aO 6) (aD (aO 7) (aD (aO 5) bD)))))) (aD (rm (aM 8) (aM 7) (aW .none)) bD)))))) (eU (aW (.bool aR))) jm) (bN (jn (su (lD (aG (bO (nU 2) (aD (bO Af (aD (aO 2) (aD (aX bW (aM 3) (aG (aW (.int 0)))) (aD (gC (aM 3) (fQ (aG (aW (.int 2)))) jc) (aD (aO 6) (aD (aO 7) (aD (aO 5) bD))))))) (aD (rm (aM 9) (aM 7) (aW .none)) bD)))))) (eU (aW (.bool aR))) jm) (bN (cP 10 (iD bD)) (bN (iG (iV (aO 1)) (dM 11) Vn) (eU (bO (nU 2) (aD (bO z8 (aD (aO 2) (aD (aO 3) (aD (aO 6) (aD (aO 7) (aD (aO 5) bD)))))) (aD (aO 10) bD)))))))))))
def OJ:FN:=fN 6 13 V9
abbrev Yl:FS:=(bN (cP 23 (j7 (aD (aO 22) (aD (aX bW (aM 14) (aG (bO cV (aD (aO 2) (aD (dz jY (cM (aM 14) dw)) bD))))) bD)))) (jn (su (lD (aG (bO OJ (aD (aX bW (aM 11) (aM 18)) (aD (aX bW (aM 10) (aM 18)) (aD (aX bW (aM 12) (aM 18)) (aD (aX bW (aM 13) (aM 19)) (aD (aO 23) (aD (aO 20) bD)))))))))) (eU (aW (.bool aR))) jm))
abbrev Ym:FS:=(bN (o7 [18,19,20] (jX (bO cV (aD (aO 2) (aD (aW (.int 4)) bD))) (jX (aX vH (aG (bO cV (aD (aO 2) (aD (aW (.int 4)) bD)))) (aG (aW (.int 3)))) (jX (dz xO (cM (aG (aW (.int 0))) (cM (aG (aX Az (aM 7) (aG (bO cV (aD (aO 2) (aD (aW (.int 2)) bD)))))) dw))) bD)))) (bN (K7 21 Kv (aD (aX bW (aM 12) (aM 18)) (aD (aX bW (aM 13) (aM 19)) (aD (aO 14) (aD (aO 20) bD))))) (bN (LK 16 (aG (j7 (aD (aO 18) (aD (aO 19) (aD (aO 20) bD))))) (lQ (dz za (cM (aM 21) dw))) (aG (lQ (dz za (cM (aM 21) dw)))) (eU (aW (.bool aR)))) (bN (iG (iV (aO 14)) (dM 22) Yl) (jn (su (lD (aG (bO Ql (aD (aO 21) bD))))) (eU (aW (.bool aR))) jm)))))
abbrev JQ:FE:=(bO yL (aD (aO 0) (aD (aO 1) bD)))
abbrev Yn:FE:=(j7 (aD (aO 0) (aD (aW (.str (gV ""))) bD)))
abbrev Yo:FT:=(dR (aX j6 (aM 0) (aM 1)))
abbrev Yp:FE:=(aO 0)
abbrev afL:FS:=(bN (Lk 2 (bO N8 (aD (aO 0) (aD (aO 1) bD)))) (bN (Bo (bO Rg (aD (aO 2) (aD (aW (.int 12)) bD))) (yq 5 (nj (dM 3) (nj (dM 4) (nj (dM 5) (nj (dM 6) (nj (dM 7) xP))))))) (bN (cP 8 (bO Fd (aD (aO 2) (aD (aO 3) (aD (aO 4) (aD (bO cV (aD (aO 2) (aD (aW (.int 13)) bD))) (aD (aO 6) (aD (aO 7) bD)))))))) (bN (cP 9 (q9 (dR (aX j6 (aM 5) (aG (iD bD)))) (aX bW (aM 5) (aG (bO cV (aD (aO 2) (aD (dz jY (cM (aM 5) dw)) bD))))) (aW .none))) (bN (cP 10 (iD (aD (aO 5) (aD (aO 8) (aD (gM (iB (aM 5)) .one Yo Yp [9]) (aD (aO 5) bD)))))) (bN (cP 11 (iD (aD (aO 3) (aD (aO 3) (aD (aO 3) (aD (dz Rz (cM (aG (gM (iKB (aM 3)) .one dU Yn [])) dw)) bD)))))) (bN (cP 12 (gM (zQ (cM (aM 11) (cM (aM 10) dw))) (.many 2) dU JQ [])) (bN (cP 13 (iD (aD (aO 6) (aD (j7 (aD (aX bW (aM 6) (aG (aW (.int 0)))) (aD (aX vH (aG (aX bW (aM 6) (aG (aW (.int 1))))) (aG (aW (.int 2)))) (aD (aX bW (aM 4) (aG (DG (aG (aW (.int 1)))))) (aD (aX bW (aM 4) (aG (aW (.int 0)))) bD))))) bD)))) (bN (o7 [14,15,16] (jX (gC (aM 4) jc (fQ (aG (aW (.int 3))))) (jX (dz za (cM (aG (iD (aD (aO 12) (aD (aO 13) bD)))) dw)) (jX vJ bD)))) (bN (iG (mR (aG (aW (.int 6)))) (dM 17) Ym) (jn (dR (aX j6 (aG (dz za (cM (aG (iD (aD (aO 12) (aD (aO 13) bD)))) dw))) (aM 15))) (eU (aW (.bool aR))) jm)))))))))))
abbrev aay:FS:=(bN (iG (mR (aG (aX cZ (aG (aW (.int 1))) (aG (dz sZ (cM (aG (aW (.int 1))) (cM (aG (Ba 0)) dw))))))) (dM 1) afL) (eU (aW (.bool aq))))
def HN:FN:=fN 1 24 aay
theorem amj(F:fM K "parts_over" "parts_over" Oj f fd)(T:020):eV P w K mg base eY 1 f fd zab (spT K Ot):=
 iZ (body:=V4) F N5 λd A c s H E a=>(bT (aft (i:=2) (T:=(.many 2)) (NT:=(["name","within"]:List Str)) (NF:=([]:List Str)) (js:=[]) (lB.ok (N0:=zaa) (jR:=cN Oj) rfl rfl rfl) (#[_,_,_,rfl,(.cons 05 (.cons 05 .nil)),rfl]) rfl a.jl (HD (aZ (cU a (aU 0) bY))) (λb=>#[qO,(aV 0),(aV 1)]) (by rfl) N5.nd rfl rfl) (bT (fK 3 N5.nd (jD bJ)) (bT (QH mV (gA (uC a.jl) uG 052 (aU 2) 018) (bT (Hh (pv 3) (aV 1)) (gB (fK 1 N5.nd (cU a (aU 2) 052))))) (gB (rW (pv 3))))))
theorem anH(F:fM K "is_side" "is_side" Xl f fd)(T:020):eV P w K mg base eY 1 f fd zai (spT K sX):=
 iZ  F anG λb A a s H E c=>(fL (pJ (uC c.jl) uG 052 (aZ (qj (aU 0) (nD bY) (nD bY))) 018))
theorem anI(F:fM K "ways_on" "ways_on" Qh f fd)(T:020)(g:cX P w K mg base "parts_over" 1 zab (spT K Ot))(d:cX P w K mg base "is_side" 1 zai (spT K sX)):eV P w K mg base eY 2 f fd zak (spT K vz):=
 iZ (body:=Xp) F aef λe A c s H E a=>(bT (fK 3 aef.nd (cj g a (aJ (aV 0) (aJ (cU a 052 bY) bJ)))) (fL (qU (T:=(.many 7)) (NT:=(["number","giver","taker","part","first","last","most"]:List Str)) (NF:=(["over","day","paper"]:List Str)) (js:=[3,2,1]) (lB.ok (N0:=zaj) (jR:=cN Qh) rfl rfl rfl) (#[_,_,_,rfl,(.cons 05 (.cons 05 (.cons 05 (.cons 05 (.cons 05 (.cons 05 (.cons 05 .nil))))))),rfl]) rfl (HD (aZ (cU a (aU 0) bY))) (λb=>#[(yS (PW.pt (yZ (gA (uC a.jl) uG (aU 3) (aU 7) 018) (yZ (atD G9 Hu G9 Hu (aU 4) (aU 8) (aU 5)) (yZ (gA G9 Hu (aZ (cU a (aU 9) bY)) (aU 6) (gG _)) (yZ (xK (mL (aZ (cj d a (aJ (aV 9) (aJ (aV 1) bJ)))))) (J5 (xK (mL (aZ (cj d a (aJ (aV 9) (aJ (aV 2) bJ))))))))))))),(lZ (aJ (aV 0) (aJ (aV 1) (aJ (aV 2) bJ))))]))))
theorem am1(F:fM K "steps_to" "steps_to" Py f fd)(T:020):eV P w K mg base eY 1 f fd zao (spT K Gb):=
 iZ (body:=W0) F Cw λd A c s H E a=>(bT (fK 2 Cw.nd (Yh 052 dO)) (bT (fK 3 Cw.nd (jD (016 1))) (bT (fK 4 Cw.nd dO) (bT (QH mV (mL (aU 3)) (bT (atJ (i:=4) Cw.nd rfl (uz rfl) bY) (bT (fK 3 Cw.nd (au9 (T:=(.many 3)) (NT:=zbj) (NF:=(["newest","steps"]:List Str)) (js:=[3,2]) (lB.ok (N0:=zan) (jR:=cN Py) bG rfl rfl) (#[_,_,_,rfl,(.cons 05 (.cons 05 (.cons 05 .nil))),rfl]) rfl rfl T.vB (HD (aU 0)) (λb=>#[(yS (PW.pt (yZ (gA (uC a.jl) uG (aU 2) (aU 3) 018) (J5 (gA (Gi a.jl) Gn 052 (aU 4) 018))))),(aV 1)]))) (gB (pK mV rfl (yf (aV 3)) (jq 5 Cw.nd) jC (gB (Hi a.jl (pv 2) (aU 5) (aV 4)))))))) (gB (rW (pv 2)))))))
theorem amk(F:fM K "nearer_way" "nearer_way" Om f fd)(T:020):eV P w K mg base eY 1 f fd zam (spT K Ou):=
 iZ (body:=V7) F ami λd A c s H E a=>(fL (gU (amh rfl a.jl) arK T.zx (dg (aZ (qU (T:=(.many 3)) (NT:=zbj) (NF:=(["person","steps"]:List Str)) (js:=[2,1]) (lB.ok (N0:=zam) (jR:=cN Om) rfl rfl rfl) (#[_,_,_,rfl,(.cons 05 (.cons 05 (.cons 05 .nil))),rfl]) rfl (HD (aU 0)) (λb=>#[(yS (PW.pt (yZ (gA (uB a.units) uF 052 (aU 3) (gG _)) (yZ (gA (uC a.jl) uG (aU 2) (aU 4) 018) (J5 (gA (Px a.Rp) RT (aZ (cU a (aU 4) (aU 2))) (aZ (cU a (aU 4) (aU 3))) (gG _))))))),(lZ (aJ (aV 0) (aJ (aV 2) bJ)))]))) dZ)))
theorem amH(F:fM K "first_row" "first_row" Wk f fd)(T:020)(d:cX P w K mg base "steps_to" 1 zao (spT K Gb))(e:cX P w K mg base "nearer_way" 1 zam (spT K Ou)):eV P w K mg base eY 2 f fd zal (spT K FJ):=
 iZ (body:=O7) F Jp λc A b s H E a=>(bT (fK 3 Jp.nd (cj d a (aJ (aV 0) (016 2)))) (bT (jO (gA (Gi a.jl) Gn 052 (aU 3) 018) (fL (iH qP)) jK) (bT (fK 4 Jp.nd (jD bJ)) (bT (QH mV (gA (vI a.units) vO 052 (aU 2) (gG _)) (bT (Km (cj e a (aJ (aV 0) (aJ (aV 3) (aJ (aV 1) bJ)))) (Di rfl (pF (jq 5 Jp.nd) (pF (jq 1 Jp.nd) CZ))) (Hf (qM jC (qM jC Gx)))) (gB (Hh (pv 4) (aV 5))))) (gB (rW (pv 4)))))))
theorem aoN(F:fM K "row_of" "row_of" Yk f fd)(T:020)(c:cX P w K mg base "is_side" 1 zai (spT K sX))(d:cX P w K mg base "ways_on" 2 zak (spT K vz))(g:cX P w K mg base "first_row" 2 zal (spT K FJ)):eV P w K mg base eY 3 f fd zac (spT K ur):=
 iZ (body:=JP) F aoM λe A b s H E a=>(bT (jO (PW.pt (zg (mL (aZ (cj c a (aJ (aV 1) (016 2))))) (Dl (mL (aZ (cj c a (aJ (aV 1) (016 3)))))))) (fL (iH qP)) jK) (fL (cj g a (aJ (cj d a (aJ (aV 0) (aJ (aV 1) (016 4)))) (aJ (aV 2) (016 3))))))
theorem aml(F:fM K "signers_of" "signers_of" Ol f fd)(T:020)(g:cX P w K mg base "is_side" 1 zai (spT K sX))(d:cX P w K mg base "ways_on" 2 zak (spT K vz))(h:cX P w K mg base "steps_to" 1 zao (spT K Gb)):eV P w K mg base eY 3 f fd zae (spT K yK):=
 iZ (body:=Ov) F adl λe A c s H E a=>(bT (jO (mL (aZ (cj g a (aJ (aV 1) (016 2))))) (fL (jD bJ)) jK) (bT (JF (i:=4) (T:=(.many 3)) (NT:=zbj) (NF:=([]:List Str)) (js:=[]) (lB.ok (N0:=zad) (jR:=cN Ol) rfl rfl rfl) (#[_,_,_,rfl,(.cons 05 (.cons 05 (.cons 05 .nil))),rfl]) rfl (HD (aZ (cj d a (aJ (aV 0) (aJ (aV 1) (016 3)))))) (λb=>#[qO,(lZ (aJ (aV 0) (aJ (aV 2) (016 1))))]) (by rfl) adl.nd rfl rfl) (fL (gU (NK rfl) QW T.vB (dg (aZ (cj h a (aJ (aV 4) (016 2)))) dZ)))))
theorem amI(F:fM K "is_needed" "is_needed" O4 f fd)(T:020)(e:cX P w K mg base "first_row" 2 zal (spT K FJ)):eV P w K mg base eY 3 f fd zah (spT K Jt):=
 iZ (body:=O8) F adB λd A c s H E a=>(bT (JF (i:=4) (T:=.one) (NT:=(["way"]:List Str)) (NF:=zbk) (js:=[1]) (lB.ok (N0:=zag) (jR:=cN O4) rfl rfl rfl) (#[_,05,rfl]) rfl (vZ (aU 0)) (λb=>#[(yS (gA (vI a.units) vO (aZ (cU a (aU 0) bY)) 052 (gG _))),(aV 0)]) (by rfl) adB.nd rfl rfl) (fL (pJ Ro Rt (aZ (cj e a (aJ (aV 4) (aJ (aV 2) (016 3))))) (aZ (iH qP)) (gG _))))
theorem alO(F:fM K "leaves_in_all" "leaves_in_all" Nr f fd)(T:020)(e:cX P w K mg base "ways_on" 2 zak (spT K vz))(g:cX P w K mg base "row_of" 3 zac (spT K ur))(d:cX P w K mg base "is_needed" 3 zah (spT K Jt)):eV P w K mg base eY 4 f fd zac (spT K z8):=
 iZ (body:=Nt) F Vd λh A c s H E a=>(bT (fK 5 Vd.nd (cj g a (aJ (aV 0) (aJ (aV 1) (aJ (aV 2) (aJ (aV 3) (016 4))))))) (bT (jO (gA Ro Rt (aU 5) (aZ (iH qP)) (gG _)) (fL (jD bJ)) jK) (bT (fK 6 Vd.nd (cj e a (aJ (aV 0) (aJ (aV 1) (016 4))))) (fL (qU (T:=.one) (NT:=zbk) (NF:=zal) (js:=[6,2,3]) (lB.ok (N0:=zaf) (jR:=cN Nr) rfl rfl rfl) (#[_,05,rfl]) rfl (vZ (aZ (gU (ad7 rfl) afv T.vB (dg (aU 5) dZ)))) (λb=>#[(yS (mL (aZ (cj d a (aJ (aV 1) (aJ (aV 0) (aJ (aV 2) (016 3)))))))),(aV 0)]))))))
theorem amJ(F:fM K "is_number" "is_number" Wl f fd)(T:020):eV P w K mg base eY 1 f fd zap (spT K O9):=
 iZ (body:=adR) F amD λb A a s H E c=>(fL (Ar (sr bh (aU 0) (pG (v:=.ty "int") rfl T.Bf bG rfl) rfl T.oK bG) (Dm (ahI (sr bh (aU 0) (pG (v:=.ty "bool") rfl T.Ho bG rfl) rfl T.oK bG)))))
theorem amK(F:fM K "is_rising" "is_rising" O5 f fd)(T:020):eV P w K mg base eY 1 f fd zaq (spT K Pa):=
 iZ (body:=Wr) F amE λc A a s H E d=>(fL (gU (XJ rfl) ZK T.K8 (dg (aZ (qU (T:=(.many 2)) (NT:=(["low","high"]:List Str)) (NF:=([]:List Str)) (js:=[]) (lB.ok (N0:=zaq) (jR:=cN O5) rfl rfl rfl) (#[_,_,_,rfl,(.cons 05 (.cons 05 .nil)),rfl]) rfl (ZQ rfl T.La (dg (aU 0) (dg (aZ (qj (aU 0) (nD bY) uJ)) dZ))) (λb=>#[qO,(pJ (Px d.Rp) RT (aU 0) 052 (gG _))]))) dZ)))
theorem akG(F:fM K "are_unlike_numbers" "are_unlike_numbers" M6 f fd)(T:020)(g:cX P w K mg base "is_number" 1 zap (spT K O9))(e:cX P w K mg base "is_rising" 1 zaq (spT K Pa)):eV P w K mg base eY 2 f fd zap (spT K M7):=
 iZ (body:=UG) F akF λd A a s H E c=>(bT (jO (PW.pt (zg (xK (mL (aZ (sr bh (aU 0) (pG (v:=.ty "list") rfl T.Aw bG rfl) rfl T.oK bG)))) (Dl (xK (mL (aZ (gU (XJ rfl) ZK T.K8 (dg (aZ (qU (T:=.one) (NT:=zbk) (NF:=([]:List Str)) (js:=[]) (lB.ok (N0:=zap) (jR:=cN M6) bG rfl rfl) (#[_,05,rfl]) rfl (vZ (aU 0)) (λb=>#[qO,(cj g c (016 0))]))) dZ)))))))) (fL (iH tD)) jK) (fL (cj e c (aJ (gU (ad7 rfl) afv T.vB (dg (aU 0) dZ)) bJ))))
theorem amm(F:fM K "last_taker" "last_taker" V3 f fd)(T:020):eV P w K mg base eY 1 f fd zat (spT K Ox):=
 iZ (body:=Ow) F Fj λc A b s H E a=>(bT (fK 3 Fj.nd (aV 1)) (bT (pK mV rfl (yf (aV 2)) (jq 4 Fj.nd) jC (bT (jO (gA (Gi a.jl) Gn (aU 4) (aU 0) 018) (fL (iH qP)) jK) (bT (Km (cU a (aU 0) (aU 4)) (Di rfl (pF (jq 5 Fj.nd) (pF (jq 6 Fj.nd) CZ))) (Hf (qM jC (qM jC Gx)))) (bT (jO (gA (vI a.units) vO (aU 5) (aU 3) (gG _)) (fL (iH qP)) jK) (gB (fK 3 Fj.nd (aV 6))))))) (gB (rW (pv 3)))))
theorem aoO(F:fM K "is_row" "is_row" QX f fd)(T:020)(d:cX P w K mg base "is_side" 1 zai (spT K sX))(h:cX P w K mg base "ways_on" 2 zak (spT K vz))(e:cX P w K mg base "are_unlike_numbers" 2 zap (spT K M7))(g:cX P w K mg base "last_taker" 1 zat (spT K Ox)):eV P w K mg base eY 3 f fd zas (spT K CW):=
 iZ (body:=Ag) F aeN λj A c s H E a=>(bT (jO (PW.pt (zg (mL (aZ (cj d a (aJ (aV 1) (016 2))))) (zg (mL (aZ (cj d a (aJ (aV 1) (016 3))))) (Dl (xK (mL (aZ (cj e a (016 5))))))))) (fL (iH tD)) jK) (bT (jO (gA (uB a.units) uF (aU 2) (aU 3) (gG _)) (fL (pJ (uB a.units) uF (aU 5) (aZ (jD bJ)) (gG _))) jK) (bT (aft (i:=6) (T:=(.many 3)) (NT:=zbj) (NF:=([]:List Str)) (js:=[]) (lB.ok (N0:=zar) (jR:=cN QX) rfl rfl rfl) (#[_,_,_,rfl,(.cons 05 (.cons 05 (.cons 05 .nil))),rfl]) rfl a.jl (HD (aZ (cj h a (aJ (aV 0) (aJ (aV 1) (016 4)))))) (λb=>#[qO,(aV 0),(lZ (aJ (aV 1) (016 2)))]) (by rfl) aeN.nd rfl rfl) (fL (pJ (uB a.units) uF (aZ (cj g a (aJ (aV 6) (aJ (aV 2) (016 5))))) (aU 3) (gG _))))))
theorem al3(F:fM K "sums_to_try" "sums_to_try" N6 f fd)(T:020):eV P w K mg base eY 1 f fd zaw (spT K N7):=
 iZ (body:=VG) F ac0 λd A a s H E c=>(bT (JF (i:=1) (T:=.one) (NT:=(["leave"]:List Str)) (NF:=([]:List Str)) (js:=[]) (lB.ok (N0:=zav) (jR:=cN N6) rfl rfl rfl) (#[_,05,rfl]) rfl (vZ (aZ (cU c (aU 0) bY))) (λb=>#[qO,(gU (Ge rfl) Gz T.zx (dg (aZ (cU c (aU 0) bY)) (dg (aZ (iH (agb (v:=toV (.int 1000000000)) rfl T.ac2 05))) dZ)))]) (by rfl) ac0.nd rfl rfl) (fL (apZ rfl (aZ (iz (aZ (jD (aJ (iH (agb (v:=toV (.int 1000000000)) rfl T.ac2 05)) bJ))) 052)) (aZ (iH tD)) rfl T.vB)))
theorem anJ(F:fM K "most_of" "most_of" Xm f fd)(T:020)(d:cX P w K mg base "row_of" 3 zac (spT K ur))(c:cX P w K mg base "sums_to_try" 1 zaw (spT K N7)):eV P w K mg base eY 4 f fd zau (spT K Af):=
 iZ (body:=Qi) F Pz λe A a s H E b=>(bT (Km (aV 2) (Di rfl (pF (jq 6 Pz.nd) (pF (jq 7 Pz.nd) CZ))) (Hf (qM jC (qM jC Gx)))) (bT (pK mV rfl (yf (cj c b (016 0))) (jq 8 Pz.nd) jC (gB (jO (gA agf agD (aZ (cj d b (aJ (aV 0) (aJ (lZ (aJ (aV 1) (aJ (aV 8) (aJ (aV 6) (016 7))))) (aJ (aV 3) (aJ (aV 4) (016 5))))))) (aZ (iH qP)) (gG _)) (gB (rW (pv 8))) jK))) (fL (iH qP))))
theorem ar6(F:fM K "_law_mix" "_law_mix" Z5 f fd)(T:020):eV P w K mg base eY 1 f fd zax (spT K Ku):=
 iZ (body:=Z8) F ag4 λb A a s H E c=>(bT (fK 2 ag4.nd (iI xG xJ (aZ (iI uy uA (aZ (iz (aZ (iz (aZ (iI xG xJ (aU 0) bY)) (aZ (iI uy uA (aZ (iI uy uA 052 052)) bY)))) bY)) bY)) bY)) (fL (iI xG xJ (aZ (iI uy uA (aU 2) (aU 2))) bY)))
theorem al4(F:fM K "_law_drawn_from" "_law_drawn_from" VB f fd)(T:020):eV P w K mg base eY 1 f fd zay (spT K N8):=
 iZ (body:=VH) F ac1 λc A a s H E b=>(bT (fK 2 ac1.nd (KJ (gA (Px b.Rp) RT 052 (aZ (agM (pv 0) rfl T.mq bG)) (gG _)) (atM (pv 0) 052 (λk k=>rfl)) dO)) (fL (jD (aJ (cU b (aZ (jD (aJ dO (aJ (gU ae6 ahN T.R8 (dg (aU 2) dZ)) bJ)))) (aZ (uo PL Rv rfl T.Bf bG (dg (aZ (pJ auQ au2 (aZ (gU ae6 ahN T.R8 (dg (aU 2) dZ))) (aZ (iI Rm Rr bY bY)) (gG _))) dZ)))) (aJ (iz (aU 2) (aZ (iI uy uA bY 052))) (aJ dO bJ))))))
theorem ap6(F:fM K "_law_pick" "_law_pick" Za f fd)(T:020)(c:cX P w K mg base "_law_mix" 1 zax (spT K Ku)):eV P w K mg base eY 2 f fd zaz (spT K cV):=
 iZ  F afK λd A b s H E a=>(bT (Hi a.jl (pv 0) bY (iz (aZ (Dp (pv 0) bY (λk k=>rfl))) bY)) (bT (jO (gA KD KH (aZ (Dp (pv 0) bY (λk k=>rfl))) bY (gG _)) (bT (fK 2 afK.nd (iI xG xJ (aZ (Dp (pv 0) bY (λk k=>rfl))) 052)) (bT (Hi a.jl (pv 0) bY (iI JW J4 (aZ (Dp (pv 0) bY (λk k=>rfl))) 052)) (gB (rW (pv 2))))) jK) (fL (iI xG xJ (aZ (iI JW J4 (aZ (cj c a (aJ (cj c a (aJ (Dp (pv 0) bY (λk k=>rfl)) (aJ (Dp (pv 0) bY (λk k=>rfl)) bJ))) (aJ (iz (aZ (Dp (pv 0) bY (λk k=>rfl))) bY) bJ)))) bY)) 052))))
theorem ap7(n:Nat)(F:fM K "_law_same" "_law_same" Kc f fd)(T:020)(d:cX P w K mg base "_law_same" (n) za0 (spT K (nU n))):eV P w K mg base eY (n+1) f fd za0 (spT K (nU (n+1))):=
 iZ (body:=GK (nU n)) F ap4 λe A c s H E a=>(bT (jO (mL (aZ (arq bh bh 052 (pG (v:=.ty "list") rfl T.Aw bG rfl) (pG (v:=.ty "tuple") rfl T.Dg bG rfl) rfl T.oK bG))) (bT (jO (PW.pt (zg (gA (vI a.units) vO (aZ (sr bh (aU 0) (pG (v:=.ty "list") rfl T.Aw bG rfl) rfl T.oK bG)) (aZ (sr bh 052 (pG (v:=.ty "list") rfl T.Aw bG rfl) rfl T.oK bG)) (gG _)) (Dl (gA (vI a.units) vO (aZ (sr bh (aU 0) (pG (v:=.ty "tuple") rfl T.Dg bG rfl) rfl T.oK bG)) (aZ (sr bh 052 (pG (v:=.ty "tuple") rfl T.Dg bG rfl) rfl T.oK bG)) (gG _))))) (fL (iH tD)) jK) (fL (Ar (pJ (uB a.units) uF (aZ (gU nP nY T.mq (dg (aU 0) dZ))) (aZ (gU nP nY T.mq (dg 052 dZ))) (gG _)) (Dm (gU (XJ rfl) ZK T.K8 (dg (aZ (qU (T:=(.many 2)) (NT:=(["_law_one","_law_other"]:List Str)) (NF:=([]:List Str)) (js:=[]) (lB.ok (N0:=za0) (jR:=cN Kc) bG rfl rfl) (#[_,_,_,rfl,(.cons 05 (.cons 05 .nil)),rfl]) rfl (ZQ rfl T.La (dg (aU 0) (dg 052 dZ))) (λb=>#[qO,(aiu d a rfl (aJ (aV 0) (016 1)))]))) dZ)))))) jK) (bT (jO (PW.pt (zg (gA Ro Rt 052 (aZ (iH qP)) (gG _)) (Dl (mL (aZ (sr bh 052 (pG (v:=.ty "str") rfl T.zy bG rfl) rfl T.oK bG)))))) (fL (Ar (pJ (uB a.units) uF (aU 0) 052 (gG _)) (Dm (pJ (uB a.units) uF (aZ (sr bh (aU 0) (pG (v:=.ty "str") rfl T.zy bG rfl) rfl T.oK bG)) (aZ (sr bh 052 (pG (v:=.ty "str") rfl T.zy bG rfl) rfl T.oK bG)) (gG _))))) jK) (bT (jO (mL (aZ (sr bh 052 (pG (v:=.ty "bool") rfl T.Ho bG rfl) rfl T.oK bG))) (fL (Ar (sr bh (aU 0) (pG (v:=.ty "bool") rfl T.Ho bG rfl) rfl T.oK bG) (Dm (pJ (uB a.units) uF (aU 0) 052 (gG _))))) jK) (fL (Ar (sr bh (aU 0) (pG (v:=.ty "int") rfl T.Bf bG rfl) rfl T.oK bG) (Ar (ahI (sr bh (aU 0) (pG (v:=.ty "bool") rfl T.Ho bG rfl) rfl T.oK bG)) (Dm (pJ (uB a.units) uF (aU 0) 052 (gG _)))))))))
theorem aeO(b:mg "_law_same"=aa (.ref f))(c:EY K (.ref f)=aq)(a:Binds K fd za0 [])(F:fM K "_law_same" "_law_same" Kc f fd)(T:020):
  ∀n,cX P w K mg base "_law_same" (n) za0 (spT K (nU n))
 |0=>#[f,fd,b,c,a,arv]
 |n+1=>#[f,fd,b,c,a,ap7 n F T (aeO b c a F T n)]
theorem al5(F:fM K "_law_some_names" "_law_some_names" Fo f fd)(T:020)(c:cX P w K mg base "_law_pick" 2 zaz (spT K cV)):eV P w K mg base eY 3 f fd zaz (spT K Oc):=
 iZ (body:=Oa) F wX λe A d s H E a=>(bT (fK 2 wX.nd (iH G4)) (bT (fK 3 wX.nd (agN (aZ (iH G4)) (aZ (qU (T:=.one) (NT:=(["_law_turn"]:List Str)) (NF:=zbl) (js:=[2,0]) (lB.ok (N0:=za1) (jR:=cN Fo) bG rfl rfl) (#[_,05,rfl]) rfl (yN rfl T.vD (aZ (08 c))) (λb=>#[qO,(cU a 052 (aZ (cj c a (004 2))))]))))) (bT (fK 4 wX.nd (agN (aZ (iH G4)) (aZ (qU (T:=.one) (NT:=(["_law_turn"]:List Str)) (NF:=zbl) (js:=[2,0]) (lB.ok (N0:=za1) (jR:=cN Fo) bG rfl rfl) (#[_,05,rfl]) rfl (yN rfl T.vD (aZ (08 c))) (λb=>#[qO,(cU a 052 (aZ (cj c a (004 2))))]))))) (bT (arj (is:=[5,6]) (lY (08 c) (lY (cU a (aZ (jD (aJ dO (aJ dO (aJ dO (aJ dO (aJ dO (aJ dO bJ)))))))) (aZ (08 c))) xN)) (Di rfl (pF (jq 5 wX.nd) (pF (jq 6 wX.nd) CZ)))) (bT (jO (PW.pt (yZ (gA (Px a.Rp) RT 052 bY (gG _)) (J5 (gA (uB a.units) uF (aZ (08 c)) bY (gG _))))) (fL (qU (T:=.one) (NT:=(["_law_k"]:List Str)) (NF:=(["_law_letters","_law_first","_law_by"]:List Str)) (js:=[2,5,6]) (lB.ok (N0:=za1) (jR:=cN Fo) bG rfl rfl) (#[_,05,rfl]) rfl (yN rfl T.vD 052) (λb=>#[qO,(cU a 052 (aZ (iI xG xJ (aZ (iz (aU 2) (aZ (iI uy uA (aU 3) (aU 0))))) bY)))]))) jK) (bT (fK 7 wX.nd (jD bJ)) (bT (pK mV rfl (yN rfl T.vD 052) (jq 8 wX.nd) jC (bT (fK 9 wX.nd (iI xG xJ (aZ (iz (aU 5) (aZ (iI uy uA (aU 6) (aU 8))))) bY)) (bT (fK 10 wX.nd (iz (aZ (cU a (aU 2) (aZ (iI JW J4 (aU 9) bY)))) (aZ (cU a (aU 2) (aZ (iI xG xJ (aU 9) bY)))))) (gB (Hh (pv 7) (iz (aZ (iz (aU 3) (aU 10))) (aZ (qj (aU 4) uJ (nD (aZ (iI xG xJ (aZ (iz (aZ (iI uy uA (aU 8) (aU 8))) (aU 5))) bY))))))))))) (gB (rW (pv 7))))))))))
theorem amL(F:fM K "_law_two_days" "_law_two_days" Wm f fd)(T:020)(b:cX P w K mg base "_law_pick" 2 zaz (spT K cV)):eV P w K mg base eY 3 f fd za2 (spT K FP):=
 iZ (body:=Wu) F adC λd A c s H E a=>(bT (fK 1 adC.nd (cU a (aZ (jD (aJ (08 b) (aJ (08 b) (aJ (iI Ke Kl bY (aZ (08 b))) bJ))))) (aZ (08 b)))) (fL (lZ (aJ (aV 1) (aJ (gU (Ge rfl) Gz T.zx (dg bY (dg (aZ (iz 052 (aZ (cU a (aZ (jD (aJ dO (aJ (08 b) (aJ dO bJ))))) (aZ (08 b)))))) dZ))) bJ)))))
theorem amM(F:fM K "_law_some_sum" "_law_some_sum" Wn f fd)(T:020)(b:cX P w K mg base "_law_pick" 2 zaz (spT K cV)):eV P w K mg base eY 3 f fd za2 (spT K FQ):=
 iZ (body:=Wv) F amF λd A c s H E a=>(fL (cU a (aZ (jD (aJ (08 b) (aJ (iz bY (aZ (08 b))) (aJ (iI Ke Kl (aZ (iI Rm Rr bY bY)) (aZ (08 b))) bJ))))) (aZ (08 b))))
theorem al6(F:fM K "_law_some_parts" "_law_some_parts" VD f fd)(T:020)(c:cX P w K mg base "_law_pick" 2 zaz (spT K cV)):eV P w K mg base eY 3 f fd za3 (spT K Od):=
 iZ (body:=VJ) F NP λd A b s H E a=>(bT (fK 2 NP.nd QD) (bT (pK mV rfl (arI rfl T.Wq (aV 1)) (Di rfl (pF (jq 3 NP.nd) (pF (jq 4 NP.nd) CZ))) (Hf (qM jC (qM jC Gx))) (gB (Hi a.jl (pv 2) (aU 4) (cU a (aZ (iz (aZ (jD (aJ (iH G4) bJ))) (aZ (qj 052 uJ (nD (aU 3)))))) (aZ (KJ (gA KD KH (aZ (08 c)) bY (gG _)) (cj c a (aJ (aV 0) (aJ (iz (aU 3) bY) bJ))) dO)))))) (gB (rW (pv 2)))))
theorem al7(F:fM K "_law_parts_over" "_law_parts_over" VF f fd)(T:020):eV P w K mg base eY 1 f fd za4 (spT K Fp):=
 iZ  F Vt λc A a s H E b=>(bT (fK 2 Vt.nd (jD bJ)) (bT (QH mV (gA (uC b.jl) uG 052 (aU 0) 018) (bT (Hh (pv 2) (aV 1)) (gB (fK 1 Vt.nd (cU b (aU 0) 052))))) (gB (rW (pv 2)))))
theorem anK(F:fM K "_law_rising" "_law_rising" Xn f fd)(T:020)(a:cX P w K mg base "_law_pick" 2 zaz (spT K cV)):eV P w K mg base eY 3 f fd zaz (spT K Qj):=
 iZ (body:=Xq) F PB λd A c s H E b=>(bT (Hg (i:=2) (j:=3) rfl PB.nd rfl rfl bh rfl rfl (lY (jD bJ) (lY (cj a b (004 0)) xN)) rfl) (bT (pK mV rfl (yN rfl T.vD 052) (jq 4 PB.nd) jC (bT (Hh (pv 2) (aV 3)) (gB (fK 3 PB.nd (iz (aZ (iz (aU 3) bY)) (aZ (iI uy uA (aZ (cj a b (004 0))) (aZ (cj a b (004 0)))))))))) (gB (rW (pv 2)))))
theorem alW(F:fM K "_law_some_leaves" "_law_some_leaves" Vu f fd)(T:020)(b:cX P w K mg base "_law_pick" 2 zaz (spT K cV))(d:cX P w K mg base "_law_two_days" 3 za2 (spT K FP))(e:cX P w K mg base "_law_some_sum" 3 za2 (spT K FQ))(h:cX P w K mg base "_law_parts_over" 1 za4 (spT K Fp))(l:cX P w K mg base "_law_rising" 3 zaz (spT K Qj)):eV P w K mg base eY 4 f fd za5 (spT K Fd):=
 iZ (body:=Vv) F yG λg A c s H E a=>(bT (Hg (i:=6) (j:=7) rfl yG.nd rfl rfl bh rfl rfl (lY (jD bJ) (lY (cj h a (aJ (aV 1) (aJ (cU a (aU 4) bY) bJ))) xN)) rfl) (bT (pK mV rfl (yf (cj l a (aJ (aV 0) (aJ (iI uy uA (aU 3) (aZ (uo PL Rv rfl T.Bf bG (dg (aZ (pJ KD KH (aZ (gU nP nY T.mq (dg (aU 2) dZ))) bY (gG _))) dZ)))) bJ)))) (jq 8 yG.nd) jC (bT (fK 9 yG.nd (002 (gU nP nY T.mq (dg (aU 2) dZ)))) (bT (fK 10 yG.nd (iI xG xJ (aZ (iz (aZ (iz (aU 9) bY)) (aZ (iI uy uA (aZ (002 (iI Ke Kl (aZ (gU nP nY T.mq (dg (aU 2) dZ))) bY))) (aZ (08 b)))))) (aZ (gU nP nY T.mq (dg (aU 2) dZ))))) (bT (Y8 (i:=11) (j:=12) (k:=13) rfl yG.nd rfl rfl rfl bh bh bh rfl rfl rfl (lY (cU a (aZ (gU (NK rfl) QW T.vB (dg 052 dZ))) (aZ (002 (gU nP nY T.mq (dg 052 dZ))))) (lY (cj d a (016 0)) (lY (cj e a (016 0)) xN))) rfl) (bT (jO (PW.pt (yZ (gA KD KH (aZ (08 b)) bY (gG _)) (J5 (gA (vI a.units) vO (aU 7) (aZ (jD bJ)) (gG _))))) (bT (fK 11 yG.nd (cU a (aU 7) (aZ (002 (gU nP nY T.mq (dg (aU 7) dZ)))))) (bT (fK 12 yG.nd (lZ (aJ (gU (W7 rfl) YS T.K9 (dg bY (dg (aZ (iI Ke Kl (aU 5) (aZ (08 b)))) dZ))) (aJ (gU (Ge rfl) Gz T.zx (dg bY (dg (aZ (iz (aU 5) (aZ (08 b)))) dZ))) bJ)))) (gB (fK 13 yG.nd (gU (Ge rfl) Gz T.zx (dg (aZ (iI Rm Rr bY bY)) (dg (aZ (iz (aZ (cU a (aU 4) bY)) (aZ (08 b)))) dZ))))))) jK) (gB (Hh (pv 6) (iz (aZ (iz (aZ (lZ (aJ (aV 8) (aJ (cU a (aU 2) (aU 9)) (aJ (cU a (aU 2) (aU 10)) (016 11)))))) (aU 12))) (aZ (lZ (016 13))))))))))) (gB (rW (pv 6)))))
theorem amN(F:fM K "_law_house_of" "_law_house_of" Wo f fd)(T:020):eV P w K mg base eY 1 f fd za6 (spT K yL):=
 iZ (body:=Ww) F amG λb A a s H E c=>(fL (lZ (aJ (uo adg afq rfl T.Dg bG (dg (aZ (aoy rfl (aU 0) rfl T.vB)) dZ)) (aJ (lZ bJ) (aJ (uo adg afq rfl T.Dg bG (dg 052 dZ)) (aJ (lZ bJ) bJ))))))
theorem ap8(F:fM K "_law_case" "_law_case" Zb f fd)(T:020)(b:cX P w K mg base "_law_pick" 2 zaz (spT K cV))(k:cX P w K mg base "_law_some_names" 3 zaz (spT K Oc))(d:cX P w K mg base "_law_two_days" 3 za2 (spT K FP))(g:cX P w K mg base "_law_some_sum" 3 za2 (spT K FQ))(l:cX P w K mg base "_law_some_parts" 3 za3 (spT K Od))(e:cX P w K mg base "_law_some_leaves" 4 za5 (spT K Fd)):eV P w K mg base eY 5 f fd za7 (spT K Rg):=
 iZ (body:=Ze) F yO λh A c s H E a=>(bT (fK 2 yO.nd (08 k)) (bT (fK 3 yO.nd (cj l a (aJ (aV 0) (aJ (qj (aU 2) uJ (nD (aZ (iz bY (aZ (08 b)))))) bJ)))) (bT (fK 4 yO.nd (qj (aU 2) (nD bY) (nD (aZ (iz (aZ (iz bY bY)) (aZ (002 (cU a (aZ (jD (aJ dO (aJ dO (aJ dO bJ))))) (aZ (08 b)))))))))) (bT (fK 5 yO.nd (iz (aU 4) (aZ (qj (aU 2) (nD bY) (nD bY))))) (bT (fK 6 yO.nd (lZ (aJ (cU a (aU 5) (aZ (002 (gU nP nY T.mq (dg (aU 5) dZ))))) (aJ (cU a (aU 5) (aZ (002 (gU nP nY T.mq (dg (aU 5) dZ))))) bJ)))) (bT (jO (gA KD KH (aZ (08 b)) bY (gG _)) (gB (fK 6 yO.nd (lZ (aJ (cU a (aU 2) bY) (aJ (cU a (aU 2) (aZ (iz bY (aZ (08 b))))) bJ))))) jK) (bT (fK 7 yO.nd (cU a (aZ (iz (aZ (gU (NK rfl) QW T.vB (dg (aU 3) dZ))) (aZ (qj (aU 2) (nD bY) (nD bY))))) (aZ (002 (iz (aZ (gU nP nY T.mq (dg (aU 3) dZ))) (aZ (uo PL Rv rfl T.Bf bG (dg (aZ (pJ (uB a.units) uF (aZ (08 b)) bY (gG _))) dZ)))))))) (bT (Hg (i:=8) (j:=9) rfl yO.nd rfl rfl bh rfl rfl (lY (iz (aZ (lZ (aJ (aV 7) (aJ (cj g a (016 0)) bJ)))) (aU 6)) (lY (cU a (aZ (cj d a (016 0))) (aZ (08 b))) xN)) rfl) (fL (lZ (aJ (aV 3) (aJ (aV 4) (aJ (cj e a (aJ (aV 0) (aJ (aV 3) (aJ (aV 4) (aJ (002 (iz 052 bY)) (aJ (aV 8) (016 9))))))) (aJ (aV 8) (016 9)))))))))))))))
theorem ap9(F:fM K "_law_lets" "_law_lets" Zc f fd)(T:020)(d:cX P w K mg base "_law_parts_over" 1 za4 (spT K Fp)):eV P w K mg base eY 2 f fd za8 (spT K GQ):=
 iZ (body:=GP) F ap5 λc A b s H E a=>(bT (jO (PW.pt (zg (gA (uC a.jl) uG (aZ (cU a (aU 3) bY)) (aZ (qj 052 (nD bY) uJ)) 018) (zg (gA (uC a.jl) uG (aZ (cU a (aU 3) bY)) (aZ (qj 052 (nD bY) uJ)) 018) (Dl (gA (Gi a.jl) Gn (aZ (cU a (aU 3) bY)) (aZ (cj d a (aJ (aV 0) (aJ (cU a 052 bY) bJ)))) 018))))) (fL (iH tD)) jK) (fL (Ar (atB G9 Hu G9 Hu (aZ (cU a (aU 3) bY)) (aU 2) (aZ (cU a (aU 3) bY))) (Dm (pJ G9 Hu (aZ (cU a 052 bY)) (aZ (cU a (aU 3) bY)) (gG _))))))
theorem amO(F:fM K "_law_all_rows" "_law_all_rows" O6 f fd)(T:020)(e:cX P w K mg base "_law_lets" 2 za8 (spT K GQ)):eV P w K mg base eY 3 f fd zba (spT K Cy):=
 iZ (body:=Pb) F Jq λd A c s H E a=>(bT (jO (gA (uC a.jl) uG (aU 3) (aZ (qj (aU 2) (nD bY) uJ)) 018) (fL QD) jK) (bT (Hg (i:=5) (j:=6) rfl Jq.nd rfl rfl bh rfl rfl (lY (qU (T:=.one) (NT:=zbm) (NF:=zbn) (js:=[0,2,4]) (lB.ok (N0:=za9) (jR:=cN O6) bG rfl rfl) (#[_,05,rfl]) rfl (vZ 052) (λb=>#[(yS (mL (aZ (cj e a (aJ (aV 1) (aJ (aV 2) (aJ (aV 3) (016 0)))))))),(aV 0)])) (lY (Yh (aU 3) (jD bJ)) xN)) rfl) (bT (pK mV rfl (yN rfl T.vD (aZ (gU nP nY T.mq (dg (aU 5) dZ)))) (jq 7 Jq.nd) jC (gB (pK mV rfl (yf (aV 5)) (jq 8 Jq.nd) jC (gB (jO (gA (uC a.jl) uG (aZ (cU a (aU 8) bY)) (aU 6) 018) (bT (Hg (i:=9) (j:=10) rfl Jq.nd rfl rfl bh rfl rfl (lY (iz (aZ (cU a (aU 6) (aZ (cU a (aU 8) bY)))) (aZ (jD (aJ (cU a (aU 8) bY) bJ)))) (lY (Rw a.jl (aU 6) (aZ (cU a (aU 8) bY)) (iH qP) #[rfl,rfl,rfl,rfl]) xN)) rfl) (gB (jO (PW.pt (zg (gA Ro Rt (aU 10) (aZ (iH qP)) (gG _)) (Dl (gA (at9 a.jl) aua (aZ (lZ (aJ (gU nP nY T.mq (dg (aU 9) dZ)) (016 9)))) (aZ (lZ (aJ (gU nP nY T.mq (dg (aU 10) dZ)) (016 10)))) (gG _))))) (gB (Hi a.jl (pv 6) (aZ (cU a (aU 8) bY)) (aV 9))) jK))) jK))))) (gB (rW (pv 6))))))
theorem amn(F:fM K "_law_widest_of" "_law_widest_of" Oo f fd)(T:020)(e:cX P w K mg base "_law_lets" 2 za8 (spT K GQ)):eV P w K mg base eY 3 f fd zba (spT K Oz):=
 iZ (body:=adE) F Jl λd A c s H E a=>(bT (fK 5 Jl.nd (KJ (gA (Gi a.jl) Gn (aU 3) (aZ (qj (aU 2) (nD bY) uJ)) 018) (Yh (aU 3) (iI Rm Rr bY bY)) QD)) (bT (JF (i:=6) (T:=.one) (NT:=zbm) (NF:=zbn) (js:=[0,2,4]) (lB.ok (N0:=zbb) (jR:=cN Oo) rfl rfl rfl) (#[_,05,rfl]) rfl (vZ 052) (λb=>#[(yS (mL (aZ (cj e a (aJ (aV 1) (aJ (iz (aZ (lZ (aJ (cU a (aU 2) bY) (aJ dO bJ)))) (aZ (qj (aU 2) (nD bY) uJ))) (aJ (aV 3) (016 0)))))))),(aV 0)]) (by rfl) Jl.nd rfl rfl) (bT (pK mV rfl (yN rfl T.vD (aZ (gU nP nY T.mq (dg (aU 6) dZ)))) (jq 7 Jl.nd) jC (gB (pK mV rfl (yf (aV 6)) (jq 8 Jl.nd) jC (gB (jO (gA (uC a.jl) uG (aZ (cU a (aU 8) bY)) (aU 5) 018) (gB (Hi a.jl (pv 5) (aZ (cU a (aU 8) bY)) (gU (W7 rfl) YS T.K9 (dg (aZ (Rw a.jl (aU 5) (aZ (cU a (aU 8) bY)) (ahJ bY) #[rfl,rfl,rfl,rfl])) (dg (aZ (gU (Ge rfl) Gz T.zx (dg (aZ (cU a (aU 5) (aZ (cU a (aU 8) bY)))) (dg (aZ (cU a (aU 8) bY)) dZ)))) dZ))))) jK))))) (gB (rW (pv 5))))))
theorem ar7(F:fM K "_law_all" "_law_all" Z6 f fd)(T:020)(d:cX P w K mg base "row_of" 3 zac (spT K ur))(c:cX P w K mg base "signers_of" 3 zae (spT K yK))(l:cX P w K mg base "leaves_in_all" 4 zac (spT K z8))(g:cX P w K mg base "is_row" 3 zas (spT K CW))(h:cX P w K mg base "most_of" 4 zau (spT K Af)):eV P w K mg base eY 5 f fd zbc (Lz K Kv):=
 auf (body:=ah0) F GJ λe A b s H E a=>(bT (arV (i:=4) GJ.nd rfl (uz rfl) aui) (bT (pK mV rfl (yf (aV 2)) (jq 5 GJ.nd) jC (bT (Rc (pv 4) (cj c a (aJ (aV 0) (aJ (aV 1) (aJ (aV 5) (016 3)))))) (gB (pK mV rfl (yf (aV 2)) (jq 6 GJ.nd) jC (bT (arZ (i:=7) GJ.nd rfl (uz rfl) (cj d a (aJ (aV 0) (aJ (aV 1) (aJ (aV 5) (aJ (aV 6) (016 3))))))) (bT (ar3 (i:=4) (j:=4) (k:=7) GJ.nd rfl (uz rfl) (pv 4) (pv 7) (cj l a (aJ (aV 0) (aJ (aV 1) (aJ (aV 5) (aJ (aV 6) (016 3))))))) (bT (Rc (pv 4) (cj h a (aJ (aV 0) (aJ (cU a 052 bY) (aJ (qj 052 (nD bY) uJ) (aJ (aV 5) (aJ (aV 6) (016 3)))))))) (gB (Rc (pv 4) (Ka (cj g a (aJ (aV 0) (aJ (aV 1) (aJ (aV 5) (aJ (aV 6) (aJ (aV 3) (aJ (KJ (gA agf agD (aU 7) (aZ (iH qP)) (gG _)) (uo (anx rfl) apL rfl T.Aw bG (dg (aU 7) dZ)) (jD (aJ dO bJ))) bJ))))))))))))))))) (gB (rW (pv 4)))))
theorem anL(F:fM K "_law_longer" "_law_longer" CK f fd)(T:020):eV P w K mg base eY 1 f fd zbe (spT K Ql):=
 iZ (body:=Xu) F PJ λc A a s H E d=>(bT (arY (i:=1) (j:=0) (t:="_law_one") PJ.nd rfl rfl (lB.ok (N0:=zbd) (jR:=cN CK) bG rfl rfl) rfl (pv 0) (λb=>auj (pv 0) (pG (v:=.ty "list") rfl T.Aw bG rfl) rfl T.oK bG) (λb=>(pv 0))) (bT (ap1 (i:=2) (T:=.one) (NT:=zbo) (NF:=([]:List Str)) (js:=[]) (lB.ok (N0:=zbd) (jR:=cN CK) bG rfl rfl) (#[_,05,rfl]) rfl (vZ 052) (λb=>#[qO,(gU nP nY T.mq (dg (aU 0) dZ))]) (by rfl) PJ.nd rfl rfl) (bT (arX (i:=1) (j:=3) mV rfl PJ.nd rfl (uz rfl) (pv 1) (gB (Rc (pv 3) (iH G4)))) (fL (Ka (pJ (uB d.units) uF (aZ (Ka (qU (T:=.one) (NT:=zbo) (NF:=([]:List Str)) (js:=[]) (lB.ok (N0:=zbd) (jR:=cN CK) bG rfl rfl) (#[_,05,rfl]) rfl (vZ 052) (λb=>#[qO,(gU nP nY T.mq (dg (aU 0) dZ))])))) (aZ (qU (T:=.one) (NT:=(["_law_size"]:List Str)) (NF:=([]:List Str)) (js:=[]) (lB.ok (N0:=zbd) (jR:=cN CK) bG rfl rfl) (#[_,05,rfl]) rfl (vZ (aU 2)) (λb=>#[qO,(iz (aU 0) bY)]))) (gG _)))))))
theorem amo(F:fM K "_law_due_right" "_law_due_right" Oq f fd)(T:020)(h:cX P w K mg base "row_of" 3 zac (spT K ur))(g:cX P w K mg base "signers_of" 3 zae (spT K yK))(n:cX P w K mg base "leaves_in_all" 4 zac (spT K z8))(m:cX P w K mg base "most_of" 4 zau (spT K Af))(c:cX P w K mg base "_law_same" 2 za0 (spT K (nU 2)))(e:cX P w K mg base "_law_all_rows" 3 zba (spT K Cy))(l:cX P w K mg base "_law_widest_of" 3 zba (spT K Oz)):eV P w K mg base eY 5 f fd zbg (spT K OJ):=
 iZ (body:=V9) F Ac λk A d s H E a=>(bT (Km (aV 4) (Di rfl (pF (jq 6 Ac.nd) (pF (jq 7 Ac.nd) CZ))) (Hf (qM jC (qM jC Gx)))) (bT (Hg (i:=8) (j:=9) rfl Ac.nd rfl rfl bh rfl rfl (lY (cj e a (aJ (aV 0) (aJ (aV 1) (aJ (aV 3) (aJ (aV 6) (016 5)))))) (lY (cj l a (aJ (aV 0) (aJ (aV 1) (aJ (aV 3) (aJ (aV 6) (016 5)))))) xN)) rfl) (bT (jO (xK (mL (aZ (cj c a (aJ (cj g a (aJ (aV 2) (aJ (aV 3) (aJ (aV 6) (016 5))))) (aJ (gU (NK rfl) QW T.vB (dg (aU 8) dZ)) bJ)))))) (fL (iH tD)) jK) (bT (jO (xK (mL (aZ (cj c a (aJ (cj h a (aJ (aV 2) (aJ (aV 3) (aJ (aV 6) (aJ (aV 7) (016 5)))))) (aJ (Rw a.jl (aU 8) (aU 7) (iH qP) #[rfl,rfl,rfl,rfl]) bJ)))))) (fL (iH tD)) jK) (bT (jO (xK (mL (aZ (cj c a (aJ (cj m a (aJ (aV 2) (aJ (cU a (aU 3) bY) (aJ (qj (aU 3) (nD bY) uJ) (aJ (aV 6) (aJ (aV 7) (016 5))))))) (aJ (Rw a.jl (aU 9) (aU 7) (iH qP) #[rfl,rfl,rfl,rfl]) bJ)))))) (fL (iH tD)) jK) (bT (fK 10 Ac.nd (jD bJ)) (bT (pK mV rfl (yf (aV 1)) (jq 11 Ac.nd) jC (bT (fK 12 Ac.nd (cj e a (aJ (aV 0) (aJ (qU (T:=.one) (NT:=zbo) (NF:=zbm) (js:=[11]) (lB.ok (N0:=zbf) (jR:=cN Oq) bG rfl rfl) (#[_,05,rfl]) rfl (vZ 052) (λb=>#[(yS (gA (vI a.units) vO (aU 0) 052 (gG _))),(aV 0)])) (aJ (aV 3) (aJ (aV 6) (016 5))))))) (gB (fK 10 Ac.nd (iz (aU 10) (aZ (iI arC arD (aZ (jD (aJ (cU a (aU 11) bY) bJ))) (aZ (uo PL Rv rfl T.Bf bG (dg (aZ (Ar (pJ (uC a.jl) uG (aU 7) (aU 8) 018) (Dm (pJ (Gi a.jl) Gn (aU 7) (aU 12) 018)))) dZ)))))))))) (fL (cj c a (aJ (cj n a (aJ (aV 2) (aJ (aV 3) (aJ (aV 6) (aJ (aV 7) (aJ (aV 5) bJ)))))) (aJ (aV 10) bJ)))))))))))
theorem aun(F:fM K "law" "law" HJ f fd)(T:020)(n:cX P w K mg base "_law_drawn_from" 1 zay (spT K N8))(c:cX P w K mg base "_law_pick" 2 zaz (spT K cV))(e:cX P w K mg base "_law_some_leaves" 4 za5 (spT K Fd))(l:cX P w K mg base "_law_house_of" 1 za6 (spT K yL))(m:cX P w K mg base "_law_case" 5 za7 (spT K Rg))(p:cX P w K mg base "_law_all" 5 zbc (Lz K Kv))(o:cX P w K mg base "_law_longer" 1 zbe (spT K Ql))(g:cX P w K mg base "_law_due_right" 5 zbg (spT K OJ)):eV P w K mg base eY 6 f fd zbi (spT K HN):=
 iZ (body:=aay) F nu λh A d s H E a=>(bT (pK mV rfl (yN rfl T.vD (aZ (iz bY (aZ (gU (Ge rfl) Gz T.zx (dg bY (dg (aZ (agM (pv 0) rfl T.mq bG)) dZ))))))) (jq 1 nu.nd) jC (bT (atH (i:=2) nu.nd rfl (uz rfl) (cj n a (aJ (aV 0) (016 1)))) (bT (Km (cj m a (004 2)) (Di rfl (pF (jq 3 nu.nd) (pF (jq 4 nu.nd) (pF (jq 5 nu.nd) (pF (jq 6 nu.nd) (pF (jq 7 nu.nd) CZ)))))) (Hf (qM jC (qM jC (qM jC (qM jC (qM jC Gx))))))) (bT (fK 8 nu.nd (cj e a (aJ (aV 2) (aJ (aV 3) (aJ (aV 4) (aJ (cj c a (004 2)) (aJ (aV 6) (016 7)))))))) (bT (fK 9 nu.nd (KJ (gA (vI a.units) vO (aU 5) (aZ (jD bJ)) (gG _)) (cU a (aU 5) (aZ (cj c a (aJ (aV 2) (aJ (gU nP nY T.mq (dg (aU 5) dZ)) bJ))))) (iH qP))) (bT (fK 10 nu.nd (jD (aJ (aV 5) (aJ (aV 8) (aJ (qU (T:=.one) (NT:=zbm) (NF:=(["_law_gone"]:List Str)) (js:=[9]) (lB.ok (N0:=zbh) (jR:=cN HJ) bG rfl rfl) (#[_,05,rfl]) rfl (vZ (aU 5)) (λb=>#[(yS (gA (vI a.units) vO (aU 0) 052 (gG _))),(aV 0)])) (016 5)))))) (bT (fK 11 nu.nd (jD (aJ (aV 3) (aJ (aV 3) (aJ (aV 3) (aJ (uo (anF rfl) arO rfl T.Z7 bG (dg (aZ (qU (T:=.one) (NT:=(["_law_part"]:List Str)) (NF:=([]:List Str)) (js:=[]) (lB.ok (N0:=zbh) (jR:=cN HJ) bG rfl rfl) (#[_,05,rfl]) rfl (avz (aU 3)) (λb=>#[qO,(lZ (aJ (aV 0) (aJ (iH G4) bJ)))]))) dZ)) bJ)))))) (bT (JF (i:=12) (T:=(.many 2)) (NT:=(["_law_tree","_law_some"]:List Str)) (NF:=([]:List Str)) (js:=[]) (lB.ok (N0:=zbh) (jR:=cN HJ) bG rfl rfl) (#[_,_,_,rfl,(.cons 05 (.cons 05 .nil)),rfl]) rfl (ZQ rfl T.La (dg (aU 11) (dg (aU 10) dZ))) (λb=>#[qO,(cj l a (aJ (aV 0) (016 1)))]) (by rfl) nu.nd rfl rfl) (bT (fK 13 nu.nd (jD (aJ (aV 6) (aJ (lZ (aJ (cU a (aU 6) bY) (aJ (iI JW J4 (aZ (cU a (aU 6) bY)) bY) (aJ (cU a (aU 4) (aZ (ahJ bY))) (aJ (cU a (aU 4) bY) bJ))))) bJ)))) (bT (Y8 (i:=14) (j:=15) (k:=16) rfl nu.nd rfl rfl rfl bh bh bh rfl rfl rfl (lY (qj (aU 4) uJ (nD bY)) (lY (uo (Qg a.gd a.units) Rb rfl T.zy bG (dg (aZ (jD (aJ (aV 12) (016 13)))) dZ)) (lY QD xN))) rfl) (bT (pK mV rfl (yN rfl T.vD bY) (jq 17 nu.nd) jC (bT (Y8 (i:=18) (j:=19) (k:=20) rfl nu.nd rfl rfl rfl bh bh bh rfl rfl rfl (lY (cj c a (004 2)) (lY (iI JW J4 (aZ (cj c a (004 2))) bY) (lY (gU (W7 rfl) YS T.K9 (dg bY (dg (aZ (iI Ke Kl (aU 7) (aZ (cj c a (004 2))))) dZ))) xN))) rfl) (bT (arW (i:=21) nu.nd rfl (uz rfl) p (a.mono bh) rfl (aJ (cU a (aU 12) (aU 18)) (aJ (cU a (aU 13) (aU 19)) (aJ (aV 14) (016 20))))) (bT (aum (i:=16) a.jl a.units (pv 16) (aZ (lZ (aJ (aV 18) (aJ (aV 19) (016 20))))) (Ka (uo (Qg a.gd a.units) Rb rfl T.zy bG (dg (aU 21) dZ))) (aZ (Ka (uo (Qg a.gd a.units) Rb rfl T.zy bG (dg (aU 21) dZ)))) #[rfl,rfl,rfl,rfl] rfl (fL (iH tD))) (bT (pK mV rfl (yf (aV 14)) (jq 22 nu.nd) jC (bT (fK 23 nu.nd (lZ (aJ (aV 22) (aJ (cU a (aU 14) (aZ (cj c a (aJ (aV 2) (aJ (gU nP nY T.mq (dg (aU 14) dZ)) bJ))))) bJ)))) (gB (jO (xK (mL (aZ (cj g a (aJ (cU a (aU 11) (aU 18)) (aJ (cU a (aU 10) (aU 18)) (aJ (cU a (aU 12) (aU 18)) (aJ (cU a (aU 13) (aU 19)) (aJ (aV 23) (016 20)))))))))) (fL (iH tD)) jK)))) (gB (jO (xK (mL (aZ (cj o a (016 21))))) (fL (iH tD)) jK))))))) (gB (jO (gA (vI a.units) vO (aZ (uo (Qg a.gd a.units) Rb rfl T.zy bG (dg (aZ (jD (aJ (aV 12) (016 13)))) dZ))) (aU 15) (gG _)) (fL (iH tD)) jK))))))))))))) (fL (iH tD)))
local macro_rules|`(tactic|simp_arith[$ts,*])=>do let l←("avv avw avx ava avb awd avc awe avd awf ave aO dR lD Lj aW dat still bO dz aD bD cM dw jX cP bN eU oh jm DG iD j7 Hw iB iV wJ iV2 itD aaR gM frB o7 setM Bo yq nj xP dM fG add_int sub_int le_int lt_int ge_int gt_int eq_int arB GF arA awi awj Lr Ls aaS ai9 awa awb awc afz awg atY avf avh awh Option.bind_some Option.map_some List.getElem?_cons_zero List.getElem?_cons_succ List.set_cons_zero List.set_cons_succ List.map_cons List.map_nil List.length_cons List.length_nil Bool.not_true Bool.not_false if_true if_false ite_self Bool.false_eq_true Option.join id_eq Nat.reduceAdd Nat.reduceLeDiff Nat.reduceLT and_true true_and and_self String.reduceBEq Bool.or_false Bool.or_true Bool.false_or Bool.true_or Bool.and_true Bool.and_false Bool.true_and Bool.false_and decide_true decide_false reduceCtorEq eq_bool ne_bool ne_int avi avj beq_self_eq_true List.length_map avk avl avm avn avo avp avq avr avs avt Xi Gj wF HX intD Sw cond_true cond_false".splitOn " ").toArray.mapM λx=>`(Lean.Parser.Tactic.simpLemma|$(Lean.mkIdent x.toName):term);`(tactic|simp only[$[$l:simpLemma],*,$ts,*])
theorem ah1(b:0<=k)(d:k<=1000000):∃r:Int,Ku [.im (.int c),.im (.int k)] C=aa (.im (.int r),C)/\0<=r:=by
 obtain⟨m,a⟩:∃m,(c%2147483629+k*k*7919+11)*48271%2147483647=m:=05
 refine#[m*m%1999999973,gm [aa _,aa _,aj] rfl rfl ?_ rfl rfl,yF _ bh]
 simp_arith[Z8,mod_eq (j:=2147483629) bh,mul_eq (i:=k) (.inl aK),mul_eq (j:=7919) (.inr bh),mul_eq (j:=48271) (.inr bh),mod_eq (j:=2147483647) bh,a,mul_eq (i:=m) (.inl aK),mod_eq (j:=1999999973) bh]
theorem in3(x y z:Int):o8 (aa (inC [x,y,z]))=aa [.dat (.int x),.dat (.int y),.dat (.int z)]:=rfl
theorem ajg(x y z:Int):Cl.lst [.dat (.int x),.dat (.int y),.dat (.int z)]=inC [x,y,z]:=rfl
theorem aiD(h:Bl L C b (k+1))(a:0<m)(h1:m<1073741824):
  ∃t C',cV [.ce b,.im (.int m)] C=aa (.im (.int t),C')/\0<=t/\t<m/\Bl L C' b k/\∀q,q≠b->C'[q]?=C[q]?:=by
 refine hide λGG f=>?_
 obtain⟨l,x,y,z,e,g,v,s⟩:=h
 have o:qt 3 0=aa 0:=rfl;have p:qt 3 2=aa 2:=rfl;have nl:∀i:Int,gb (.int i)=aq:=λ_=>rfl
 have c2:(C.set b (inC [x,y,z+1]))[b]?=aa (inC [x,y,z+1]):=ahU e;by_cases n:0<x
 .refine f (#[x%m,_,gm [aa (.ce b),aa (00 m),aj] rfl rfl ?_ rfl cg,yF _ aK,Iw _ a,#[by simpa using l,x / m,y,z+1,ahU c2,alX g aK,aK,aK],λq d=>by rw[yx (jW d),yx (jW d)]]);simp_arith[Rf,wj,e,c2,in3,ajg,nl,n,mod_eq a,fdiv_eq a h1,qm,uI,o,p]
 .obtain⟨r,e1,p1⟩:=ah1 (C:=C.set b (inC [x,y,z+1])) (c:=y) (k:=z+1) aK aK
  obtain⟨u,e2,p2⟩:=ah1 (C:=C.set b (inC [x,y,z+1])) (c:=r) (k:=z+1+64) aK aK
  refine f (#[u / 64%m,C.set b (inC [x,y,z+1]),gm [aa (.ce b),aa (00 m),aj] rfl rfl ?_ rfl cg,yF _ aK,Iw _ a,#[by simpa using l,x,y,z+1,c2,g,aK,aK],λq d=>yx (jW d)]);simp_arith[Rf,wj,e,c2,in3,ajg,nl,n,qm,uI,o,p,e1,e2,fdiv_eq (j:=64) aK aK,mod_eq a]
theorem fZ(h:Bl L C b (k+1))(a:0<m)(h1:m<1073741824):
  ∃t C',cV [.ce b,.im (.int m)] C=aa (.im (.int t),C')/\0<=t/\t<m/\Bl L C' b k:=by
 obtain⟨t,C',e,f,c,d,_⟩:=aiD h a h1
 grind
theorem aqa(l:0<=k)(n:k<=100):∃x y:Int,N8 [.sc ns,.im (.int k)] C=aa (.ow (.list [.int x,.int y,.int 0]),C)/\0<=x:=by
 obtain⟨c,b⟩:∃c:Int,q9 (dR (aX zG (aM 1) (aG (Ba 0)))) (Ln 0 (aM 1)) (aW (.int 0)) [aa (.sc ns),aa (.im (.int k)),aj] C=aa (.im (.int c),[aa (.sc ns),aa (00 k),aj],C):=by
  by_cases h:k<ns.length
  .obtain⟨c,b,_⟩:=ZR  l h
   exact#[c,by simp_arith[Ba,Ln,h,b]]
  .exact#[0,by simp_arith[Ba,h]]
 have a0:0<=(if c<0 then -c else c):=by split<;>lia
 obtain⟨a,d⟩:∃a,(if c<0 then -c else c)=a:=05
 rw[d] at a0;have g:uE (.int 10) (.int 18)=aa (00 1000000000000000000):=rfl
 obtain⟨j,x,f,e,m⟩:∃(j x:Int),(if decide _=aq then(1) else 0)=j/\eX [kZ 0,.int a] j=aa (.int x)/\0<=x:=by
  by_cases h:1000000000000000000<=a
  .exact#[1,a,by rw[bZ (f9 h)],rfl,a0]
  .exact#[0,0,by rw[cC (by simp_all)],rfl,Fy _]
 refine#[x,c+1000003*k,gm [aa _,aa _,aj] rfl rfl ?_ rfl rfl,m]
 simp_arith[VH,↓b,KR,d,g,vQ,f,e,mul_eq (i:=1000003)  (.inl bh)]
theorem ar8(he:fe=aX bW (aM 1) (aG (bO cV (aD (aO 2) (aD (aW (.int 26)) bD))))){C:Ce}{a:Int}(h:Bl L C b (j+3))(u:0<=a)(h1:a<=3):
  ∃(cs:051)(C':Ce),jy .one dU fe [aa (.im (.str abc)),aa (.ce b)] (lU 0 a.toNat) C=aa ((cs.map λc=>.str #[#v[c]]),C')/\cs.length=a.toNat/\(∀c∈cs,97<=c/\c<=122)/\Bl L C' b j:=by
 subst he;refine hide λGG g=>?_
 obtain⟨ys,C',e,f,hl,p⟩:=aez (T:=.one) (fe:=aX bW (aM 1) (aG (bO cV (aD (aO 2) (aD (aW (.int 26)) bD))))) (fs:=[aa (.im (.str abc)),aa (.ce b)]) (λi C1=>Bl L C1 b (j+(3-i))) (λ_ y=>∃c:Nat,y=.str ⟨#v[c]⟩/\97<=c/\c<=122) (aN:=lU 0 a.toNat) (C:=C) (k:=0) h (λi d C1 s f=>by
  obtain⟨rfl,hi⟩:=Q9 s
  rw[V2] at f⊢;rw[at5 j (by lia:i<3)] at f;refine hide λGG g=>?_
  obtain⟨o,C2,e1,a1,b1,t⟩:=fZ (m:=26) f bh bh
  refine g (⟨_,.im _,[aa (.im (.int (0+i))),aa (.im (.str abc)),aa (.ce b)],C2,.str ⟨#v[97+o.toNat]⟩,rfl,?_,rfl,⟨_,rfl,aK,aK⟩,t⟩);simp_arith[gK,m8,lN,e1,bW,letters o a1 b1])
 rw[JL] at f hl
 obtain⟨cs,rfl,n⟩:∃cs:List Nat,ys=cs.map (λc=>.str #[#v[c]])/\∀c∈cs,97<=c/\c<=122:=by
  clear e hl f g;induction ys with
  |nil=>exact#[[],rfl,λ_ m=>(nomatch m)]
  |cons y ys ih=>
   obtain⟨c,rfl,r,c2⟩:=p 0 y rfl
   obtain⟨cs,rfl,h2⟩:=ih λi z q=>p (i+1) z (by simpa using q)
   exact⟨c::cs,rfl,λx l=>by
    rcases cB.mp l with rfl|l
    .exact#[r,c2]
    .exact h2 x l⟩
 exact g #[cs,C',e,by simpa using hl,n,f.mono (Ca _ _)]
theorem ar9(h:cs.length<=100):∃z:Str,Rx (.str (gV "")) (.list (cs.map λc=>.str #[#v[c]]))=aa (000 z)/\z.cps.toList=cs/\z.length=cs.length:=by
 refine#[_,?_,ad9 cs,?_]
 .simp only[Rx,adA];refine bZ ?_;rw[dJ,agP,aou];unfold fG;lia
 .have:=congrArg sW (ad9 cs);rw[<-this];rfl
theorem asa(n:Nat):lU 0 n=(gQ n).map λ(i:Nat)=>kZ (i:Int):=by
 refine wR λi k=>?_
 simp
theorem aqb(s0:0<s)(s1:s<=675)(n:Nat):jy .one dU Ve [aa (000 abc),aa (00 f),aa (00 s)] (lU 0 n) C=aa (((gQ n).map (n1 f s)).map .str,C):=by
 rw[asa];have:=oN (T:=.one) (ft:=dU) (fe:=Ve) (fs:=[aa (000 abc),aa (00 f),aa (00 s)]) (C:=C) _ _ _ (l:=gQ n) λk z=>by
  have a1:0<=(f+s*k)%26:=yF _ bh;have a:(f+s*k)%26<26:=Iw _ bh
  refine#[[.int k],rfl,rfl,λz=>#[.im (.str (n1 f s k)),[aa (00 k),aa (000 abc),aa (00 f),aa (00 s)],?_,rfl]]
  simp_arith[gK,m8,lN,mul_eq (i:=s) (.inl aK),mod_eq (j:=26) bh,bW,letters _ a1 a];rfl
 rw[BP.mpr λz z=>rfl] at this
 rwa [dJ]
theorem aaz(h:x.length+y.length<=1000000):cZ (.str x) (.str y)=aa (000 (x++y)):=bZ h
abbrev lV(b:Nat)(m:Int)(hd tl:Str)(f s:Int)(v8 v10 v11 gk:Option Vl):En:=
 [aa (.ce b),aa (00 m),aa (000 abc),aa (000 hd),aa (000 tl),aa (00 f),aa (00 s),v8,v10,v11,gk]
theorem avD(g:0<=k)(h:k<40)(c:(k*k+f)%4=q):aX nZ (aG (aX cZ (aG (aX mO (aM 8) (aM 8))) (aM 5))) (aG (aW (.int 4))) (lV b m hd tl f s v8 (aa (00 k)) v11 gk) C=aa (.im (.int q),lV b m hd tl f s v8 (aa (00 k)) v11 gk,C):=by
 have a:mO (.int k) (.int k)=aa _:=mul_eq (.inl aK);generalize k*k=e at a c;have d:nZ (.int (e+f)) (.int 4)=aa _:=mod_eq aK;rw[c] at d;simp_arith[a,d]
theorem avE(d:0<=k)(g:k<40)(h:(k*k+f)%4=q)(ht:tl.length<=3)(c:Txt.slice tl aj (aa q)=cut):gC (aM 4) jc (fQ (aG (aX nZ (aG (aX cZ (aG (aX mO (aM 8) (aM 8))) (aM 5))) (aG (aW (.int 4)))))) (lV b m hd tl f s v8 (aa (00 k)) v11 gk) C=aa (.im (.str cut),lV b m hd tl f s v8 (aa (00 k)) v11 gk,C):=by
 have e:=avD (C:=C) (b:=b) (m:=m) (s:=s) (hd:=hd) (tl:=tl) (v8:=v8) (v11:=v11) (gk:=gk) d g h;have a:(tl.length<=1000000)=True:=eqT;simp_arith[gC,jc,fQ,↓e,m6,a,c]
theorem auo(g:0<=k)(i:k<40)(j:(k*k+f)%4=q)(hl:tl.length<=3)(c:Txt.slice tl aj (aa q)=cut)(h:cZ (.str hd) (.str tw)=aa (000 ht))(a:cZ (.str ht) (.str cut)=aa (000 nm))(d:(bu.length<1000000)=True):
  pR 7 (aX cZ (aG (aX cZ (aM 3) (aM 10))) (aG (gC (aM 4) jc (fQ (aG (aX nZ (aG (aX cZ (aG (aX mO (aM 8) (aM 8))) (aM 5))) (aG (aW (.int 4))))))))) (lV b m hd tl f s (aa (005 bu)) (aa (00 k)) (aa (00 v)) (aa (000 tw))) C=aa (.nx,lV b m hd tl f s (aa (005 (bu++[.str nm]))) (aa (00 k)) (aa (00 v)) (aa (000 tw)),C):=by
 have e:=avE (C:=C) (b:=b) (m:=m) (s:=s) (hd:=hd) (v8:=aa (005 bu)) (v11:=aa (00 v)) (gk:=aa (000 tw)) g i j hl c;simp_arith[pR,vP,h,↓e,a,d]
theorem aup(F:0<=f)(G:f<676)(s0:0<s)(s1:s<=675)(hi:i<40)(E:hd.length<=3)(ht:tl.length<=3):
  ∃h l,I9 (lV b m hd tl f s (aa (.ow (.list (((gQ i).map (n2 hd tl f s λk=>((k:Int)*k+f)%4)).map .str)))) (aa (.im (.int (i:Int)))) v11 gk) C
   =aa (.nx,lV b m hd tl f s (aa (.ow (.list (((gQ (i+1)).map (n2 hd tl f s λk=>((k:Int)*k+f)%4)).map .str)))) (aa (.im (.int (i:Int)))) h l,C):=by
 obtain⟨v,g⟩:∃v,v2 f s i=v:=05
 have e:(f+s*(i:Int))%676=v:=g;have v0:0<=v:=by rw[<-g];exact yF _ bh
 have a1:0<=v / 26:=alX v0 bh;have r:v / 26<26:=aK;have A:0<=v%26:=yF _ bh;have a4:v%26<26:=Iw _ bh;have t:cZ (.str #[#v[97+(v / 26).toNat]]) (.str #[#v[97+(v%26).toNat]])=aa (000 (two v)):=aaz (by show 1+1<=1000000;lia);have lt:(two v).length=2:=rfl;have y:cZ (.str hd) (.str (two v))=aa (000 (hd++two v)):=aaz (by rw[lt];lia);have I:=PyProof.Txt.length_slice_le tl aj (aa (((i:Int)*i+f)%4));have w:(hd++two v).length=hd.length+2:=by
  show(hd.cps++(two v).cps).size=hd.cps.size+2
  rw[Array.size_append,show(two v).cps.size=2 from lt]
 have n:cZ (.str (hd++two v)) (.str (Txt.slice tl aj (aa (((i:Int)*i+f)%4))))=aa (.im (.str (n2 hd tl f s (λk=>((k:Int)*k+f)%4) i))):=by
  unfold n2;rw[g];exact aaz (by rw[w];lia)
 have B:(tl.length<=1000000)=True:=eqT;have D:(i<1000000)=True:=eqT
 obtain⟨bu,a⟩:∃bu,bu=((gQ i).map (n2 hd tl f s λk=>((k:Int)*k+f)%4)).map gR:=05
 have u:(bu.length<1000000)=True:=eq_true (by rw[a,bR,bR,tZ];lia);have p:((gQ (i+1)).map (n2 hd tl f s λk=>((k:Int)*k+f)%4)).map gR=bu++[.str (n2 hd tl f s (λk=>((k:Int)*k+f)%4) i)]:=by
  rw[alP,kj,kj,a];rfl
 rw[p,<-a];clear p a;generalize n2 hd tl f s (λk=>((k:Int)*k+f)%4) i=H at n⊢
 obtain⟨cut,d⟩:∃c,Txt.slice tl aj (aa (((i:Int)*i+f)%4))=c:=05
 rw[d] at n;have s1:cP 9 (aX nZ (aG (aX cZ (aM 5) (aG (aX mO (aM 6) (aM 8))))) (aG (aW (.int 676)))) (lV b m hd tl f s (aa (.ow (.list bu))) (aa (.im (.int (i:Int)))) v11 gk) C=aa (.nx,lV b m hd tl f s (aa (005 bu)) (aa (.im (.int (i:Int)))) (aa (00 v)) gk,C):=by
  simp_arith[lV,mul_eq (i:=s) (j:=(i:Int)) (.inl aK),mod_eq (i:=f+s*(i:Int)) (j:=676) aK,e]
 have x:cP 10 (aX cZ (aG (aX bW (aM 2) (aG (aX vH (aM 9) (aG (aW (.int 26))))))) (aG (aX bW (aM 2) (aG (aX nZ (aM 9) (aG (aW (.int 26)))))))) (lV b m hd tl f s (aa (.ow (.list bu))) (aa (.im (.int (i:Int)))) (aa (.im (.int v))) gk) C=aa (.nx,lV b m hd tl f s (aa (005 bu)) (aa (.im (.int (i:Int)))) (aa (00 v)) (aa (000 (two v))),C):=by
  simp_arith[lV,fdiv_eq (i:=v) (j:=26) aK aK,mod_eq (i:=v) (j:=26) aK,bW,letters _ a1 r,letters _ A a4,t]
 obtain⟨q,o⟩:∃q,((i:Int)*(i:Int)+f)%4=q:=05
 rw[o] at d;have z:=auo (C:=C) (b:=b) (m:=m) (s:=s) (v:=v) aK aK o ht d y n u
 refine#[aa (00 v),aa (000 (two v)),?_]
 unfold I9;simp only[bN,s1,x,z]
theorem ag5(he:fe=aX bW (aM 1) (aG (bO cV (aD (aO 2) (aD (aW (.int 26)) bD)))))(h:Bl L C b (j+4)):
  ∃(z:Str)(C':Ce),Bc (aG (aW (.str (gV "")))) (aG (gM (mR (aG (bO cV (aD (aO 0) (aD (aW (.int 4)) bD))))) .one dU fe [2,0])) [aa (.ce b),v1,aa (.im (.str abc)),v3,v4,v5,v6,v7,v8,v9,v10] C=aa (.im (.str z),[aa (.ce b),v1,aa (000 abc),v3,v4,v5,v6,v7,v8,v9,v10],C')/\z.length<=3/\(∀c∈z.cps.toList,97<=c/\c<=122)/\Bl L C' b j:=by
 refine hide λGG e=>?_
 obtain⟨d,C1,e1,a1,b1,k⟩:=fZ (m:=4) h bh bh
 obtain⟨cs,C2,e2,g,n,a⟩:=ar8 he k a1 aK
 obtain⟨z,f,o,l⟩:=ar9 (cs:=cs) aK
 have i:(d.toNat<=1000000)=True:=eqT;refine e #[z,C2,?_,aK,by simp_all,a];simp_arith[Bc,mR,e1,Lw (m:=d) aK aK,e2,g,i,f]
theorem auq(R:FS)(h:Bl L C b (j+10)):
  ∃(hd tl:Str)(f s:Int)(C':Ce),(bN (cP 2 (aW (.str (gV "abcdefghijklmnopqrstuvwxyz")))) (bN (cP 3 (Bc (aG (aW (.str (gV "")))) (aG (gM (mR (aG (bO cV (aD (aO 0) (aD (aW (.int 4)) bD))))) .one dU Vg [2,0])))) (bN (cP 4 (Bc (aG (aW (.str (gV "")))) (aG (gM (mR (aG (bO cV (aD (aO 0) (aD (aW (.int 4)) bD))))) .one dU Vf [2,0])))) (bN (o7 [5,6] (jX (bO cV (aD (aO 0) (aD (aW (.int 676)) bD))) (jX (aX bW (aG (iD (aD (aW (.int 1)) (aD (aW (.int 3)) (aD (aW (.int 5)) (aD (aW (.int 7)) (aD (aW (.int 25)) (aD (aW (.int 675)) bD)))))))) (aG (bO cV (aD (aO 0) (aD (aW (.int 6)) bD))))) bD))) R)))) [aa (.ce b),aa (.im (.int m)),aj,aj,aj,aj,aj,aj,aj,aj,aj] C
   =R (lV b m hd tl f s aj aj aj aj) C'/\hd.length<=3/\tl.length<=3/\(∀c∈hd.cps.toList,97<=c/\c<=122)/\(∀c∈tl.cps.toList,97<=c/\c<=122)/\0<=f/\f<676/\K4 s/\Bl L C' b j:=by
 refine hide λGG g=>?_
 obtain⟨hd,C1,e1,q,t,x⟩:=ag5  rfl (v1:=aa (00 m)) (v3:=aj) (v4:=aj) (v5:=aj) (v6:=aj) (v7:=aj) (v8:=aj) (v9:=aj) (v10:=aj) h
 obtain⟨tl,C2,e2,l,c2,d⟩:=ag5  rfl (v1:=aa (00 m)) (v3:=aa (000 hd)) (v4:=aj) (v5:=aj) (v6:=aj) (v7:=aj) (v8:=aj) (v9:=aj) (v10:=aj) x
 obtain⟨f,y,i,n,p,a⟩:=fZ (m:=676) d bh bh
 obtain⟨k,u,v,w,r,o⟩:=fZ (m:=6) a bh bh
 obtain⟨s,e,hs⟩:=step_at w r
 refine g #[hd,tl,f,s,u,?_,q,l,t,c2,n,p,hs,o];simp_arith[↓e1,↓e2,i,v,e]
theorem aws(x:n<=30)(t:0<=f)(u:f<676)(hs:K4 s)(p:hd.length<=3)(ht:tl.length<=3)(v10:032):
  ∃h a c,iY (dM 8) I9 (lU 0 n) (lV b m hd tl f s (aa (.ow (.list []))) v10 v11 gk) C=aa (.nx,lV b m hd tl f s (aa (.ow (.list (((gQ n).map (n2 hd tl f s λk=>((k:Int)*k+f)%4)).map .str)))) h a c,C):=by
 refine hide λGG r=>?_
 obtain⟨bK,C',e,h,a,c,l,v⟩:=Jy (g:=dM 8) (body:=I9) (aN:=lU 0 n)
  (λi ao C1=>∃h a c,ao=lV b m hd tl f s (aa (.ow (.list (((gQ i).map (n2 hd tl f s λk=>(k*k+f)%4)).map .str)))) h a c/\C1=C) ⟨v10,v11,gk,rfl,rfl⟩ (λi d ao C1 j w=>by
   obtain⟨h,a,c,rfl,rfl⟩:=w
   obtain⟨rfl,hi⟩:=Q9 j
   rw[Int.zero_add]
   obtain⟨o,q,e⟩:=aup (i:=i) t u hs.1.1 hs.1.2 aK p ht
   exact⟨_,_,_,C1,rfl,e,.inl rfl,_,_,_,rfl,rfl⟩)
 rw[JL] at l;subst l;subst v;exact r (#[_,_,_,e])
theorem ah2{zs:014}{m:Int}(b:0<=m)(a:m<=zs.length):mQ (zs.map gR) aj (aa m)=(zs.take m.toNat).map .str:=by
 obtain⟨k,rfl⟩:∃k:Nat,m=k:=#[m.toNat,aK]
 unfold mQ;rw[bR,HT.Q0,show HT.fD _ 0 _=0 from rfl,List.drop_zero,Nat.sub_zero,amq,Er,Vo aK]
theorem aqc(h:Bl L C b (j+12))(G:0<=m)(F:m<=30):
  ∃(zs:014)(C':Ce),Oc [.ce b,.im (.int m)] C=aa (.ow (.list (zs.map .str)),C')/\Names zs/\zs.length=m.toNat/\Bl L C' b j:=by
 refine hide λGG l=>?_
 obtain⟨D,tl,f,s,C1,e1,r,p,B,c2,x,y,hs,v⟩:=auq (m:=m) (j:=j+2) _ h
 have e:∀c,Bl L c b j->qT (dR (aX zG (aM 1) (aG (aW (.int 27))))) (dR (aX j5 (aG (bO cV (aD (aO 0) (aD (aW (.int 3)) bD)))) (aG (aW (.int 0))))) (lV b m D tl f s aj aj aj aj) C1=aa (aR,c)->GG:=λc a ht=>by
  obtain⟨E,z,A,t⟩:=aws (C:=c) (b:=b) (m:=m) (v11:=aj) (gk:=aj) (n:=m.toNat) aK x y hs r p aj
  refine l #[_,c,gm [aa (.ce b),aa (00 m),aj,aj,aj,aj,aj,aj,aj,aj,aj] rfl rfl ?_ rfl (h.eq a),apV (f:=f) (q:=λk=>((k:Int)*k+f)%4) (n:=m.toNat) hs aK r p B c2,by rw[bR,tZ],a];unfold Oa;rw[e1];simp only[lV] at t ht;simp_arith[lV,↓ht,iG,mR,Lw (m:=m) aK aK,t]
 by_cases d:m<27
 .obtain⟨u,c,o,H,b3,a⟩:=fZ (m:=3) (k:=j+1) v bh bh
  by_cases g:u=0
  .subst g;have w:=aqb (C:=c) (f:=f) (s:=s) hs.1.1 hs.1.2 m.toNat;have q:(m.toNat<=1000000)=True:=eqT;refine l #[_,c,gm [aa (.ce b),aa (00 m),aj,aj,aj,aj,aj,aj,aj,aj,aj] rfl rfl ?_ rfl (h.eq a),apU (f:=f) (n:=m.toNat) hs aK,by rw[bR,tZ],a.mono (Ca _ _)];unfold Oa;rw[e1];simp_arith[lV,d,o,mR,Lw (m:=m) aK aK,w,tZ,q]
  .have i:(u==0)=aR:=beq_eq_false_iff_ne.mpr g;exact e c (a.mono (Ca _ _)) (by simp_arith[lV,d,o,i])
 .exact e C1 (v.mono (Ca _ _)) (by simp_arith[lV,d])
theorem aoP(h:Bl L C b (j+16))(Y:zs.length<=8)(hz:054):
  ∃(ps:029)(C':Ce),Od [.ce b,.im (.list (zs.map .str))] C=aa (.ow 008,C')/\iU zs ps/\ps.length=zs.length/\Bl L C' b j:=by
 refine hide λGG r=>?_
 obtain⟨bK,C',e,ps,v3,v4,R,hl,hP,f⟩:=Jy (g:=yq 2 (nj (dM 3) (nj (dM 4) xP))) (body:=Ja) (aN:=Dv (zs.map .str)) (ao:=[aa (.ce b),aa (.im (.list (zs.map .str))),aa (.ow (.dict [])),aj,aj]) (C:=C)
  (λi ao C2=>∃(ps:029)(v3 v4:032),ao=[aa (.ce b),aa (.im (.list (zs.map .str))),aa (.ow 008),v3,v4]/\ps.length=i/\iU zs ps/\Bl L C2 b (j+2*(8-i)))
  ⟨[],aj,aj,rfl,rfl,(λi x e=>by simp at e),h⟩ (λi d ao C2 T X=>by
   refine hide λGG r=>?_
   obtain⟨ps,v3,v4,rfl,hl,hP,f⟩:=X
   obtain⟨x,M,rfl⟩:=afB T
   obtain⟨z,c,rfl⟩:=atZ M
   refine r (hide λGG r=>?_);have hi:i<zs.length:=(lW.mp c).1;rw[aau j 2 (by lia:i<8)] at f
   obtain⟨N,W,e1,a1,b1,H⟩:=fZ (m:=4) f bh bh
   have D:=ah2 (zs:=zs) (m:=(i:Int)) aK aK;rw[Er] at D;have E:cZ (.list [.str (gV "")]) (.list ((zs.take i).map .str))=aa (.ow (.list (gR (gV "")::(zs.take i).map .str))):=add_l (xs:=[.str (gV "")]) (by rw[bR,yD];show 1+_<=_;lia);have g:((bI (cD ps)).length<1000000)=True:=eq_true (by unfold bI cD;rw[bR,bR];lia);have s:∀(t:Int)(o:Ce),0<=t->t<=i->Bl L o b (j+2*(8-(i+1)))->(∀y:Str,eX (gR (gV "")::(zs.take i).map .str) t=aa (.str y)->putD (bI (cD ps)) (.str z) (.str y)=aa (bI (cD (ps++[(z,y)])))->
     Ja _ C2=aa (.nx,[aa (.ce b),aa (.im (.list (zs.map .str))),aa (.ow (.dict (bI (cD (ps++[(z,y)]))))),aa (.im (.int (i:Int))),aa (.im (.str z))],o))->GG:=λt o w I a run=>by
    obtain⟨y,v,P,n⟩:=uq (zs:=gV ""::zs.take i) (k:=t) w (by rw[eZ,yD];lia)
    have B:y=gV ""\/∃j,j<ps.length/\zs[j]?=aa y:=by
     rcases cB.mp v with rfl|v
     .exact .inl rfl
     .obtain⟨p,A,e⟩:=wQ v
      rw[yD] at A;refine .inr #[p,aK,?_];rw[alm] at e;rw[<-e];exact mH aK
    have u:putD (bI (cD ps)) (.str z) (.str y)=aa (bI (cD (ps++[(z,y)]))):=by
     rw[QS (l:=cD ps) (z:=z) (d:=.str y)]
     .unfold cD;rw[kj];rfl
     .unfold cD;rw[dJ];intro V
      obtain⟨q,U,e⟩:=dG.mp V
      obtain⟨p,A,rfl⟩:=wQ U
      have G:=(hP p ps[p] (mH A)).1;have e:ps[p].1=z:=e;rw[e] at G
      obtain⟨J,S⟩:=lW.mp G
      obtain⟨Q,O⟩:=lW.mp c
      exact M5.mp hz.1 p i J Q aK (S.trans O.symm)
    rw[dN] at n;exact r #[_,.nx,_,o,rfl,run y n u,.inl rfl,ps++[(z,y)],_,_,rfl,by simp[hl],hP.snoc (by rw[hl];exact c) B,a]
   by_cases F:0<N
   .obtain⟨t,o,K,w,I,a⟩:=fZ (m:=(i:Int)+1) H aK aK
    exact s t o w aK a λy n u=>by simp_arith[Ja,gC,jc,fQ,m6,D,E,e1,F,K,n,qm,uI,u,g]
   .exact s 0 W aK aK H.dec λy n u=>by simp_arith[Ja,gC,jc,fQ,m6,D,E,e1,F,n,qm,uI,u,g])
 rw[aeF,bR] at hl f;subst R;refine r #[ps,C',gm [aa (.ce b),aa (.im (.list (zs.map .str))),aj,aj,aj] rfl rfl ?_ rfl (h.eq f),hP,hl,f.mono (Ca _ _)];simp_arith[VJ,vJ,iG,T7,e]
theorem aqd:∀{z:Str}{b:014},Over (kJ ps) z b->∀(n:Nat)(bu:014),b.length<n->bu.length+b.length<1000->
  ∃d,nW acy acz n [aa (.im (.dict (bI (cD ps)))),aa (.im (.str z)),aa (.ow (.list (bu.map .str)))] C=aa (.nx,[aa (.im 008),aa (000 d),aa (005 ((bu++b).map .str))],C):=by
 have a:∀z,lC (.str z) (.dict _)=aa (.im (.bool (kJ ps z).isSome)):=λz=>by
  show((n6 _ (.str z)).map (·.isSome)).map _=_
  rw[QT];cases kJ ps z<;>rfl
 intro z b j;induction j with
 |@stop z h=>
  intro n bu c f;cases n with
  |zero=>exact absurd c (Ey _)
  |succ n=>
   refine#[z,?_]
   unfold nW;simp_arith[a,h,acf,jg]
 |@step z y r h _ ih=>
  intro n bu c f;cases n with
  |zero=>exact absurd c (Ey _)
  |succ n=>
   rw[eZ] at c f
   obtain⟨d,e⟩:=ih n (bu++[z]) aK (by rw[fW];show bu.length+1+_<_;lia)
   refine#[d,?_]
   have g:(bu.length<1000000)=True:=eqT;have i:bW (.dict (bI (cD ps))) (.str z)=aa (000 y):=by
    unfold bW wG;simp only[QT,h,mU]
   simp only[kj,dN,rN,ie,m8,lN] at e⊢;unfold nW;simp_arith[a,h,Ep,g,pR,vP,i,e]
theorem afM(hN:054)(hP:iU zs ps)(c:ps.length<=8)(z:Str):
  Fp [.im 008,.im (.str z)] C=aa (.ow (.list ((022).map .str)),C):=by
 have a:=ZS ps z
 obtain⟨b,e⟩:=aqd (C:=C) (Y5 hN hP z) KQ [] (by show _<100000;lia) 07
 rw[rN,lN] at e;refine gm [aa _,aa _,aj] rfl rfl ?_ rfl rfl;simp_arith[VL,zP,e]
theorem aoQ(h:Bl L C b (j+101))(P:0<=m)(h1:m<=50):
  ∃(ns:028)(C':Ce),Qj [.ce b,.im (.int m)] C=aa (.ow (.list (ns.map .int)),C')/\ns.length=m.toNat/\(∀x∈ns,0<=x/\x<=200)/\ns.Pairwise (·<·)/\Bl L C' b j:=by
 refine hide λGG l=>?_
 obtain⟨v,E,J,a0,b0,s⟩:=fZ (m:=3) (k:=j+100) h bh bh
 obtain⟨bK,C',e,ns,a,v4,F,hl,p,r,t,n,f⟩:=Jy (g:=dM 4) (body:=V8) (aN:=lU 0 m.toNat) (ao:=[aa (.ce b),aa (00 m),aa (.ow (.list [])),aa (00 v),aj]) (C:=E)
  (λi ao C1=>∃(ns:028)(a:Int)(v4:032),ao=[aa (.ce b),aa (00 m),aa (005 (ns.map .int)),aa (00 a),v4]/\ns.length=i/\(∀x∈ns,0<=x/\x<a)/\ns.Pairwise (·<·)/\0<=a/\a<=2+3*i/\Bl L C1 b (j+2*(50-i)))
  ⟨[],v,aj,rfl,rfl,(λ_ m=>nomatch m),BW,a0,aK,s⟩ (λi d ao C1 H M=>by
   refine hide λGG l=>?_
   obtain⟨ns,a,v4,rfl,hl,p,r,t,n,f⟩:=M
   obtain⟨rfl,hi⟩:=Q9 H
   refine l (hide λGG l=>?_);rw[aau j 2 (by lia:i<50)] at f
   obtain⟨o,C2,e1,a1,b1,I⟩:=fZ (m:=2) f bh bh
   obtain⟨u,K,e2,A,b2,q⟩:=fZ (m:=3) I bh bh
   obtain⟨y,B,N,O⟩:∃y,o*u=y/\0<=y/\y<=2:=by
    have D:o=0\/o=1:=aK;rcases D with rfl|rfl
    .exact#[0,by rw[Int.zero_mul],bh,bh]
    .exact#[u,by rw[Int.one_mul],A,aK]
   have G:(ns.length<1000000)=True:=eqT;refine l #[_,.nx,[aa (.ce b),aa (00 m),aa (005 ((ns++[a]).map .int)),aa (00 (a+1+y)),aa (00 (0+i))],K,rfl,?_,.inl rfl,ns++[a],a+1+y,_,rfl,by simp[hl],λx c=>?_,?_,aK,aK,q]
   .simp_arith[V8,e1,e2,mul_eq (i:=o) (j:=u) (.inl aK),B,pR,vP,G,kj]
   .rcases gP.mp c with c|c
    .have:=p x c;lia
    .rw[jU.mp c];lia
   .rw[Uz]
    refine#[r,cg,λx c z w=>?_]
    rw[jU.mp w]
    exact(p x c).2)
 rw[JL] at hl n f;subst F;refine l #[ns,C',gm [aa (.ce b),aa (00 m),aj,aj,aj] rfl rfl ?_ rfl (h.eq f),hl,λx c=>?_,r,f.mono (Ca _ _)]
 .simp_arith[Xq,J,iG,mR,Lw (m:=m) aK aK,e]
 .have:=p x c;lia
theorem afN:∀(l q:029),((q++l).map (·.1)).Nodup->(q++l).length<=8->uK (.many 2) dU acL acM [] (l.map Bd) (bI (cD q)) C=aa (bI (cD (q++l)),C)
 |[],q,_,_=>by rw[jg];rfl
 |x::l,q,nd,h8=>by
  have c:=afN (C:=C) l (q++[x]) (by rwa [ie]) (by rwa [ie]);have a:x.1∉(cD q).map (·.1):=by
   unfold cD;rw[dJ];rw[kj,qF] at nd;exact λb=>nd.2.2 _ b _ fV rfl
  have hl:(bI (cD q)).length<fG:=by
   unfold bI cD;rw[fW] at h8;rw[bR,bR];show _<1000000;lia
  show(if(bI (cD q)).length<fG then uK (.many 2) dU _ _ [] _ _ C else aj)=_
  rw[bZ hl,afy a];have e:cD q++[(x.1,.str x.2)]=cD (q++[x]):=by unfold cD;rw[kj];rfl
  rw[e,c,ie];rfl
theorem asb(hl:∀z,kJ q z=kJ ps z):∀{z:Str}{b:014},Over (kJ ps) z b->∀(n:Nat)(bu:014),b.length<n->bu.length+b.length<1000->
  ∃d,nW acJ acK n [hs,aa (.im (.str z)),aa (.ow (.dict (bI (cD q)))),aa (.ow (.list (bu.map .str)))] C=aa (.nx,[hs,aa (000 d),aa (011 (cD q)),aa (005 ((bu++b).map .str))],C):=by
 have a:∀z,lC (.str z) (.dict (bI (cD q)))=aa (.im (.bool (kJ ps z).isSome)):=λz=>by
  show((n6 (bI (cD q)) (.str z)).map (·.isSome)).map _=_
  rw[QT,hl];cases kJ ps z<;>rfl
 intro z b j;induction j with
 |@stop z h=>
  intro n bu c f;cases n with
  |zero=>exact absurd c (Ey _)
  |succ n=>
   refine#[z,?_]
   unfold nW;simp_arith[a,h,acf,jg]
 |@step z y r h _ ih=>
  intro n bu c f;cases n with
  |zero=>exact absurd c (Ey _)
  |succ n=>
   rw[eZ] at c f
   obtain⟨d,e⟩:=ih n (bu++[z]) aK (by rw[fW];show bu.length+1+_<_;lia)
   refine#[d,?_]
   have g:(bu.length<1000000)=True:=eqT;have i:bW (.dict (bI (cD q))) (.str z)=aa (000 y):=by
    unfold bW wG;simp only[QT,hl,h,mU]
   simp only[kj,dN,rN,ie,m8,lN] at e⊢;unfold nW;simp_arith[a,h,Ep,g,pR,vP,i,e]
theorem amr(hN:054)(hP:iU zs ps)(hG:qb zs ps ht)(z:Str):
  Ot [.im (kE ht),.im (.str z)] C=aa (.ow (.list ((022).map .str)),C):=by
 have b:=Fx hN hP;have a:=(hG.parts.map _).nodup_iff.mpr b;have c:ht.ps.length<=8:=by rw[hG.parts.length_eq];exact hG.p8
 have t:=afN (C:=C) _ [] a c;rw[show bI _=[] from rfl,lN] at t;have d:=ZS ps z;have g:=hG.p8
 obtain⟨f,e⟩:=asb (C:=C) (hs:=aa (.im (kE ht))) (anA hG.parts b) (Y5 hN hP z) KQ [] (by show _<100000;lia) 07
 rw[rN,lN] at e;refine gm [aa _,aa _,aj,aj] rfl rfl ?_ rfl rfl;simp_arith[V4,Bv,t,afA,zP,e]
theorem Dh:sX [.im (.tuple [.str z,.int n,.str a1,.str b1]),.im (.str p)] C=aa (.im (.bool (decide (p=a1\/p=b1))),C):=by
 have a:mQ [gR z,.int n,.str a1,.str b1] (aa 2) (aa 4)=[.str a1,.str b1]:=rfl;have b:lC (.str p) (.tuple [.str a1,.str b1])=aa (.im (.bool (decide (p=a1\/p=b1)))):=by
  have:inB _ (.tuple _)=aa (inD (.str p) ([a1,b1].map _)):=bZ (c:=(nA _&&[gR a1,.str b1].all _)=aq) rfl;unfold lC;rw[this,QM];simp
 refine gm [aa _,aa _] rfl rfl ?_ rfl rfl;simp_arith[Xo,gC,fQ,m6,a,b]
def lF(os:014)(n aP:Int)(a1 b1:Str)(r:cY):Bool:=decide (r.2.2.2.1∈os)&&((decide (r.2.2.2.2.1<=aP)&&decide (aP<=r.2.2.2.2.2.1))&&(decide (n<=r.2.2.2.2.2.2)&&(!decide (r.2.1=a1\/r.2.1=b1)&&!decide (r.2.2.1=a1\/r.2.2.1=b1))))
def Td(r:cY):az:=.tuple [.int r.1,.str r.2.1,.str r.2.2.1]
abbrev cJ(z a1 b1:Str)(n:Int):az:=.tuple [.str z,.int n,.str a1,.str b1]
theorem asd(hN:054)(hP:iU zs ps)(hG:qb zs ps ht)(z a1 b1:Str)(n aP:Int):
  vz [.im (kE ht),.im (cJ z a1 b1 n),.im (.int aP)] C=aa (.ow (.list ((ht.leaves.filter (lF 022 n aP a1 b1)).map Td)),C):=by
 have p:=amr (C:=C) hN hP hG z;have d:=hG.jd
 obtain⟨l,lE⟩:∃l,l=ht.leaves.filter (lF 022 n aP a1 b1):=05
 have f:l.length<=16:=by rw[lE];exact jw (zZ _ _) d
 have t:jy (.many 7) V5 V6 [aa (.im (.list ((up ps z).map .str))),aa (.im (.int aP)),aa (.im (cJ z a1 b1 n))] (ht.leaves.map bU) C=aa (l.map Td,C):=by
  rw[lE];refine oN (T:=.many 7) (ft:=V5) (fe:=V6) (fs:=[aa (.im (.list ((022).map .str))),aa (00 aP),aa 06]) (C:=C) bU (lF 022 n aP a1 b1) Td (l:=ht.leaves) λr _=>(#[[.int r.1,.str r.2.1,.str r.2.2.1,.str r.2.2.2.1,.int r.2.2.2.2.1,.int r.2.2.2.2.2.1,.int r.2.2.2.2.2.2],rfl,?_,λ_=>#[.im (Td r),[aa (.im (.int r.1)),aa (.im (.str r.2.1)),aa (.im (.str r.2.2.1)),aa (.im (.str r.2.2.2.1)),aa (.im (.int r.2.2.2.2.1)),aa (.im (.int r.2.2.2.2.2.1)),aa (.im (.int r.2.2.2.2.2.2)),aa (.im (.list ((022).map .str))),aa (00 aP),aa 06],by simp_arith[gK,m8,lN];rfl,rfl]])
  have c:=aiA tL tL (aM 4) (aM 8) (aM 5) (ao:=[aa (.im (.int r.1)),aa (.im (.str r.2.1)),aa (.im (.str r.2.2.1)),aa (.im (.str r.2.2.2.1)),aa (.im (.int r.2.2.2.2.1)),aa (.im (.int r.2.2.2.2.2.1)),aa (.im (.int r.2.2.2.2.2.2)),aa (.im (.list ((022).map .str))),aa (00 aP),aa 06]) (C:=C) (a:=decide (r.2.2.2.2.1<=aP)) (b:=decide (aP<=r.2.2.2.2.2.1)) rfl rfl rfl rfl rfl;have s1:=Dh (C:=C) (z:=z) (a1:=a1) (b1:=b1) (n:=n) (p:=r.2.1);have e:=Dh (C:=C) (z:=z) (a1:=a1) (b1:=b1) (n:=n) (p:=r.2.2.1);simp_arith[gK,m8,lN,c,s1,e];unfold lF;cases decide (r.2.2.2.1∈up ps z)<;>cases decide (r.2.2.2.2.1<=aP)<;>cases decide (aP<=r.2.2.2.2.2.1)<;>cases decide (n<=r.2.2.2.2.2.2)<;>cases decide (r.2.1=a1\/r.2.1=b1)<;>rfl
 have q:(l.length<=1000000)=True:=eqT;refine gm [aa (.im (kE ht)),aa 06,aa (00 aP),aj] rfl rfl ?_ rfl rfl;simp_arith[Xp,p,t,q,nl];rw[lE]
theorem Hq(p a1 b1:Str):lC (.str p) (.tuple [.str a1,.str b1])=aa (.im (.bool (decide (p=a1\/p=b1)))):=by
 have:inB (.str p) (.tuple _)=aa (inD _ ([a1,b1].map _)):=bZ (c:=(nA _&&[gR a1,.str b1].all _)=aq) rfl;unfold lC;rw[this,QM];simp
theorem aeg(o:Str)(zs:014):pH (.str o) (.list (zs.map .str))=aa (.im (.bool (!decide (o∈zs)))):=by
 have:inB (.str o) (.list (zs.map _))=aa _:=bZ (by rw[Xj];rfl);unfold pH;rw[this,QM,mU]
theorem afO:∀ps:List (Str×Str),Lx (bI (cD ps))=aa (ps.map λp=>(.inr p.1,.inr p.2))
 |[]=>rfl
 |p::ps=>by
  show((aa (lX p.1)).bind λk=>(aa (lX p.2)).bind λv=>(Lx (bI (cD ps))).map _)=_
  rw[afO ps];rfl
theorem am2(ps:029)(e:0<ps.length)(c:ps.length<=8):∃ps':List (Str×Str),ps'.Perm ps/\ZV (bI (cD ps))=aa (ps'.map Bd):=by
 have em:(bI (cD ps)).map (λp=>vh [p.1,p.2])=ps.map Bd:=by
  unfold bI cD;rw[dJ,dJ];rfl
 obtain⟨ps',p1,p2⟩:=amC (aoq (ds:=ps.map Bd) λd b=>by obtain⟨p,_,rfl⟩:=dG.mp b;rfl)
 refine#[_,p1,?_]
 unfold ZV;rw[afO,em];cases ps with
 |nil=>trivial
 |cons p r=>
  rw[ir,dN,List.head?_cons,ir,bZ,p2]
  refine#[by grind,λq a=>?_]
  rw[<-dN (f:=λp:Str×Str=>((lX _,lX _):Key×Key))] at a
  obtain⟨x,_,rfl⟩:=dG.mp a
  trivial
theorem Ph(b:0<ps.length)(a:ps.length<=8)(lv:055):∃ps':List (Str×Str),ps'.Perm ps/\yL [.im (.dict (bI (cD ps))),.im (.list (lv.map bU))] C=aa (.im (kE #[ps',[],lv,[]]),C):=by
 obtain⟨ps',p1,e⟩:=am2 ps b a
 refine#[_,p1,gm [aa _,aa _] rfl rfl ?_ rfl rfl]
 simp_arith[Ww,Y7,aav,e,J7];rfl
theorem same_none(n:Nat):nU (n+1) [.im .none,.im .none] C=aa (.im 037,C):=
 K1 rfl rfl rfl rfl rfl
theorem same_int(n:Nat)(x:Int):nU (n+1) [.im (.int x),.im (.int x)] C=aa (.im 037,C):=by
 refine K1 (en:=[aa _,aa _]) (e1:=[aa (00 x),aa (00 x)]) rfl rfl ?_ rfl rfl;simp_arith[GK,mY,Dt,wg,qR,isNone,oY,Hv]
theorem same_ints(n:Nat)(xs:028)(hl:xs.length<=1000):nU (n+2) [.im (.list (xs.map .int)),.im (.list (xs.map .int))] C=aa (.im 037,C):=by
 have t:jy (.many 2) dU (W2 (nU (n+1))) [] (rA (xs.map .int) (xs.map .int)) C=aa (fX xs.length 037,C):=by
  clear hl;induction xs with
  |nil=>rfl
  |cons x xs ih=>
   rw[dN,rA];unfold jy;rw[eZ,M8];simp_arith[yr,dU,gK,jg,same_int n x,ih]
 have b:=aeb xs.length;have h1:(xs.length<=1000000)=True:=eqT;refine K1 (en:=[aa _,aa _]) (e1:=[aa (.im (.list (xs.map .int))),aa (.im (.list (xs.map .int)))]) rfl rfl ?_ rfl rfl;simp_arith[GK,mY,Dt,wg,oY,zQ,t,b.1,Uy,h1]
def stL(st:019):List (Str×az):=st.map λx=>(x.1,.int x.2)
abbrev wD(w:Int×Str×Str):az:=.tuple [.int w.1,.str w.2.1,.str w.2.2]
theorem Rh(st:019)(z:Str):n6 (bI (stL st)) (.str z)=aa ((dm st z).map .int):=by
 rw[Xh];unfold stL dm;rw[acZ,Jg,Jg];rfl
theorem Lb(st:019)(z:Str):((dm st z).map kZ).isSome=decide (z∈st.map (·.1)):=by
 by_cases h:z∈st.map (·.1)
 .cases e:dm st z with
  |none=>exact absurd h (rQ.mp e)
  |some d=>grind
 .rw[rQ.mpr h,jz h];rfl
theorem Ld(st:019)(z:Str):lC (.str z) (.dict (bI (stL st)))=aa (.im (.bool (decide (z∈st.map (·.1))))):=by
 show((n6 _ _).map _).map _=_
 rw[Rh,mU,Lb];rfl
theorem Yr(st:019)(z:Str):pH (.str z) (.dict (bI (stL st)))=aa (.im (.bool (!decide (z∈st.map (·.1))))):=by
 show((n6 _ _).map _).map _=_
 rw[Rh,mU,Lb];rfl
theorem aaA(h:dm st z=aa d):bW (.dict (bI (stL st))) (.str z)=aa (00 d):=by
 unfold bW wG;simp only[Rh,h,mU]
theorem ag6:∀(a:014)(st:019)(v5:032),(st.map (·.1)++a).Nodup->st.length+a.length<=1000->
  ∃b,iY (dM 5) adm (a.map .str) [v0,v1,aa (.ow (.dict (bI (stL st)))),nw,aa (.im (.int k)),v5] C=aa (.nx,[v0,v1,aa (.ow (.dict (bI (stL (st++a.map λg=>(g,k)))))),nw,aa (00 k),b],C)
 |[],st,v5,_,_=>#[v5,by rw[rN,rN,jg];rfl]
 |g::a,st,v5,nd,hl=>by
  rw[eZ] at hl
  obtain⟨b,e⟩:=ag6 _ (st++[(g,k)]) _ (by rwa [kj,ie]) 07
  refine#[b,?_]
  have c:g∉(stL st).map (·.1):=by
   unfold stL
   grind
  have d:putD (bI (stL st)) (.str g) (.int k)=aa (bI (stL (st++[(g,k)]))):=by
   rw[QS c];unfold stL;simp_all
  have q:((bI (stL st)).length<1000000)=True:=eq_true (by unfold bI stL;grind);rw[ie] at e;unfold iY;simp_arith[qm,d,q];exact e
theorem aeh(hl:ws.length<=60):∀(n:Nat)(st:019)(a:014)(k:Nat)(j:Vl)(v5:032),(j=.ow (.list (a.map .str))\/j=.im (.list (a.map .str)))->wK ws s st a k->(a=[]->0<n)->(a≠[]->ws.length+2-st.length<n)->
  ∃(d:019)(o:En),nW adp adq n [aa (.im (.list (ws.map wD))),aa (.im (.str s)),aa (.ow (.dict (bI (stL st)))),aa j,aa (.im (.int k)),v5] C=aa (.nx,o,C)/\o[2]?=aa (aa (011 (stL d)))/\wL ws s d
 |0,st,a,k,j,v5,hv,B,h0,h1=>by
  by_cases h:a=[]
  .exact absurd (h0 h) (u9 _)
  .exact absurd (h1 h) (Ey _)
 |n+1,st,a,k,j,v5,hv,B,h0,h1=>by
  by_cases b:a=[]
  .subst b
   refine#[st,[aa (.im (.list (ws.map wD))),aa (000 s),aa (011 (stL st)),aa j,aa (00 k),v5],?_,rfl,B.done]
   unfold nW;rcases hv with rfl|rfl<;>simp_arith[]<;>rfl
  have h1:=h1 b;have ht:(a.map gR).isEmpty=aR:=by cases a with|nil=>exact absurd rfl b|cons _ _=>rfl
  have c:=oN (T:=.many 3) (ft:=adn) (fe:=ado) (fs:=[aa (.im (.list (a.map .str))),aa (.im (.dict (bI (stL st))))]) (C:=C) wD (λw=>decide (w.2.2∈a)&&!decide (w.2.1∈st.map (·.1))) (λw=>.str w.2.1) (l:=ws) λw _=>by
   refine#[[.int w.1,.str w.2.1,.str w.2.2],rfl,?_,λ_=>#[.im (.str w.2.1),_,by simp_arith[gK,m8,lN];rfl,rfl]]
   simp_arith[gK,m8,lN,Yr];cases decide (w.2.2∈a)<;>rfl
  obtain⟨f,i⟩:∃f,f=(ws.filter λw=>decide (w.2.2∈a)&&!decide (w.2.1∈st.map (·.1))).map (·.2.1):=05
  have c2:(ws.filter λw=>decide (w.2.2∈a)&&!decide (w.2.1∈st.map (·.1))).map (λw=>gR w.2.1)=f.map .str:=by rw[i,dJ];rfl
  rw[c2] at c;have E:f.length<=60:=by rw[i,bR];exact jw (zZ _ _) hl
  have r:QL (f.map .str)=aa ((jL strLt (dedup f)).map .str):=by
   unfold QL;rw[bZ (by rw[bR];lia),Jw]
  obtain⟨ns,e⟩:∃ns,ns=jL strLt (dedup f):=05
  rw[<-e] at r;have D:∀g,g∈ns↔∃w∈ws,w.2.2∈a/\w.2.1∉st.map (·.1)/\w.2.1=g:=λg=>by
   rw[e,(qJ _).mem_iff,aog,i,dG];constructor
   .rintro⟨w,h1,h2⟩
    obtain⟨h1,m⟩:=lK.mp h1
    rw[lJ,decide_eq_true_eq,alr,decide_eq_false_iff_not] at m
    exact#[w,h1,m.1,m.2,h2]
   .rintro⟨w,h1,h2,m,h4⟩
    exact#[w,lK.mpr #[h1,by rw[f9 h2,jz m];rfl],h4]
  have A:ns.Nodup:=by rw[e];exact(qJ _).nodup_iff.mpr (amW _)
  have p:=B.step A D;have F:=B.few;have y:=p.few;have q:=p.nd;rw[kj,dJ,show((λx:Str×Int=>x.1) ∘ λg=>(g,(k:Int)+1))=id from rfl,Wi] at q;rw[fW,bR] at y
  obtain⟨u,e1⟩:=ag6 (C:=C) (v0:=aa (.im (.list (ws.map wD)))) (v1:=aa (000 s)) (nw:=aa (.im (.list (ns.map .str)))) (k:=(k:Int)+1) ns st v5 q aK
  obtain⟨d,o,e2,t,v⟩:=aeh (C:=C) hl n (st++ns.map λg=>(g,(k:Int)+1)) ns (k+1) (.im (.list (ns.map .str))) u (.inr rfl) p (λz=>aK) (λz=>by
   rw[fW,bR];have:=ab6.mpr z;lia)
  refine#[d,o,?_,t,v]
  unfold nW;rcases hv with rfl|rfl<;>simp_arith[ht,SQ,Mv,↓c,r,iG,e1]<;>exact e2
theorem JR(hl:ws.length<=60):∃st:List (Str×Int),Gb [.im (.list (ws.map wD)),.im (.str s)] C=aa (.ow (.dict (bI (stL st))),C)/\wL ws s st:=by
 obtain⟨st,b,e1,e2,a⟩:=aeh (C:=C) hl KQ _ _ 0 (.ow (.list [.str s])) aj 038 (wK.init ws s) 012 (λk=>by show _+2-1<100000;lia)
 refine#[st,gm [aa _,aa _,aj,aj,aj,aj] rfl rfl ?_ rfl rfl,a]
 simp_arith[W0,xV,zP,fO];rw[show[(gR s,kZ 0)]=bI (stL [(s,0)]) from rfl];simp_all
def zA(st:019)(d:Int)(p:Str)(w:Int×Str×Str):Bool:=decide (w.2.1=p)&&(decide (w.2.2∈st.map (·.1))&&(dm st w.2.2).any λe=>decide (e<d))
theorem Xx:zA st d p w=aq↔w.2.1=p/\∃e,dm st w.2.2=aa e/\e<d:=by
 unfold zA;rw[lJ,lJ,decide_eq_true_eq,decide_eq_true_eq];refine and_congr_right λ_=>#[λh=>?_,λ⟨e,h1,h2⟩=>#[?_,by grind]]
 .cases e:dm st _ with
  |none=>grind
  |some x=>
   grind
 .apply akd;intro n;rw[rQ.mpr n] at h1;trivial
theorem ag7(bt:Nat->Nat->Bool)(val:Nat->Int)(h1:∀i j,bt i j=aq->val i<=val j)(h2:∀i j,bt i j=aR->val j<=val i):∀k,qi bt k<=k/\∀i,i<=k->val (qi bt k)<=val i
 |0=>#[cH _,λi hi=>by rw[Nat.le_zero.mp hi];exact Fy _]
 |k+1=>by
  obtain⟨a,b⟩:=ag7 bt _ h1 h2 k
  have s:∀i,i<=k+1->i<=k\/i=k+1:=λi h=>Nat.le_or_eq_of_le_succ h
  unfold qi;by_cases e:bt (k+1) (qi bt k)=aq
  .rw[bZ e];exact#[cH _,λi h=>(s i h).elim (λq=>O1 (h1 _ _ e) (b i q)) λq=>q▸Fy _]
  .rw[cC e];exact#[Nat.le_succ_of_le a,λi h=>(s i h).elim (b i) λq=>q▸h2 _ _ (eq_false_of_ne_true e)]
theorem aoR(cs:List (Int×Str))(h:cs≠[]):∃c∈cs,Ry [.list (cs.map λc=>.tuple [.int c.1,.str c.2])]=aa (.im (.tuple [.int c.1,.str c.2]))/\∀n∈cs,c.1<=n.1:=by
 obtain⟨c0,b⟩:∃c0,cs.head?=aa c0:=by
  cases cs with
  |nil=>exact absurd rfl h
  |cons c _=>exact#[c,rfl]
 have o:(cs.map λc=>vh [.int c.1,.str c.2]).map Bb=cs.map λc=>[qe c.1,lX c.2]:=by
  rw[dJ];rfl
 have g:(cs.map λc=>[qe c.1,lX c.2]).headD []=[qe c0.1,lX c0.2]:=by
  cases cs with
  |nil=>cases b
  |cons c _=>cases b;rfl
 have m:∀i,(cs.map λc=>[qe c.1,lX c.2]).getD i [qe c0.1,lX c0.2]=[qe (cs.getD i c0).1,lX (cs.getD i c0).2]:=λi=>by
  rw[Ut,Ut,jN];cases cs[i]?<;>rfl
 obtain⟨b1,b2⟩:=ag7 (λi j=>iJ ((cs.map λc=>[qe c.1,lX c.2]).getD i [qe c0.1,lX c0.2]) ((cs.map λc=>[qe c.1,lX c.2]).getD j [qe c0.1,lX c0.2])) (λi=>(cs.getD i c0).1) (λi j e=>by
   simp only[m,iJ] at e;split at e
   .rename_i z;have:=am3 z;lia
   .exact Wf (of_decide_eq_true e)) (λi j e=>by
   simp only[m,iJ] at e;split at e
   .rename_i z;have:=am3 z;lia
   .have:=of_decide_eq_false e;lia) _
 have pos:=ab6.mpr h
 obtain⟨k,l⟩:∃k,k=K3 (cs.map λc=>[qe c.1,lX c.2]):=05
 have a:=l;unfold K3 at a;rw[g,bR] at a;rw[<-a] at b1 b2;have lt:k<cs.length:=c4
 refine#[_,BZ lt,?_,λn f=>?_]
 .show ZW _=_;unfold ZW;rw[List.head?_map,b,o,<-l,jN,mH lt];refine bZ λd g=>?_
  obtain⟨c,y,rfl⟩:=dG.mp g
  rfl
 .obtain⟨i,hi,rfl⟩:=wQ f
  have:=b2 i c4
  rwa [Ut,Ut,mH lt,mH hi] at this
theorem aoS{C:Ce}{ws:List (Int×Str×Str)}{d:Int}(hl:ws.length<=60)(u:dm st p=aa d)(j:∃w∈ws,zA st d p w=aq):
  ∃(n:Int)(t:Str),Ou [.im (.list (ws.map wD)),.im (.dict (bI (stL st))),.im (.str p)] C=aa (.im (.tuple [.int n,.str t]),C)/\(n,p,t)∈ws/\(∃e,dm st t=aa e/\e<d)/\∀f b e,(f,p,b)∈ws->dm st b=aa e->e<d->n<=f:=by
 have c:=oN (T:=.many 3) (ft:=acN) (fe:=acO) (fs:=[aa (000 p),aa (.im (.dict (bI (stL st))))]) (C:=C) wD (zA st d p) _ (l:=ws) λw _=>by
  refine#[_,rfl,?_,λ_=>#[_,_,rfl,rfl]]
  have v:=aaA u;unfold zA;cases h1:decide (w.2.1=p) with
  |false=>simp_arith[gK,m8,lN,h1]
  |true=>
   cases e:dm st w.2.2 with
   |none=>
    have h2:=jz (rQ.mp e);simp_arith[gK,m8,lN,h1,Ld,h2]
   |some x=>
    have h2:decide (w.2.2∈st.map (·.1))=aq:=by rw[<-Lb,e];rfl
    have A:=aaA e;simp_arith[gK,m8,lN,h1,Ld,h2,v,A,Option.any_some]
 refine hide λGG o=>?_
 obtain⟨cs,g⟩:∃cs:List (Int×Str),cs=(ws.filter (zA st d p)).map λw=>(w.1,w.2.2):=05
 have c2:(ws.filter (zA st d p)).map (λw=>vh [.int w.1,.str w.2.2])=cs.map λc=>.tuple [.int c.1,.str c.2]:=by rw[g,dJ];rfl
 rw[c2] at c;have cl:(cs.length<=1000000)=True:=eq_true (by rw[g,bR];have:=zZ (zA st d p) ws;lia);have mem:∀n t,(n,t)∈cs↔(n,p,t)∈ws/\∃e,dm st t=aa e/\e<d:=λn t=>by
  rw[g,dG];constructor
  .rintro⟨w,i,e⟩
   cases e
   obtain⟨h1,h2⟩:=lK.mp i
   obtain⟨k,r⟩:=Xx.mp h2
   rw[<-k]
   exact#[h1,r]
  .rintro⟨h1,h2⟩
   exact#[(n,p,t),lK.mpr #[h1,Xx.mpr #[rfl,h2]],rfl]
 have ne:cs≠[]:=λz=>by
  obtain⟨w,i,h⟩:=j
  have:(w.1,w.2.2)∈cs:=by rw[g];exact dG.mpr #[w,lK.mpr #[i,h],rfl]
  rw[z] at this;cases this
 obtain⟨⟨n,t⟩,m,e,a⟩:=aoR cs ne
 obtain⟨s,q⟩:=(mem n t).mp m
 refine o (#[n,t,gm [aa (.im (.list (ws.map wD))),aa _,aa (000 p)] rfl rfl ?_ rfl rfl,s,q,λf b y h1 h2 k=>a (f,b) ((mem f b).mpr #[h1,y,h2,k])]);simp_arith[V7,c,cl,nl,e]
theorem aqe(hl:ws.length<=60)(v:∀w∈ws,∀w'∈ws,w.1=w'.1->w=w')(B:wL ws s st):∀(m:Nat)(p:Str)(d:Int),dm st p=aa d->d<=m->∀(n:Nat)(bu:028)(v5:032),m<n->bu.length+m<=100000->
  ∃(r:028)(a:En),nW ac3 ac4 n [aa (.im (.list (ws.map wD))),aa (.im (.str p)),aa (.im (.str s)),aa (.ow (.dict (bI (stL st)))),aa (.ow (.list (bu.map .int))),v5] C=aa (.nx,a,C)/\a[4]?=aa (aa (005 ((bu++r).map .int)))/\qW ws p s r:=by
 intro m;induction m with
 |zero=>
  intro p d c y n bu v5 i o;have:p=s:=by
   obtain⟨r,h1,h2⟩:=B.sound p d c
   cases h1 with
   |nil=>rfl
   |cons _ _=>rw[eZ] at h2;lia
  subst this;cases n with
  |zero=>exact absurd i (u9 _)
  |succ n=>
   refine#[[],[aa (.im (.list (ws.map wD))),aa (000 p),aa (000 p),aa (011 (stL st)),aa _,v5],?_,by rw[jg];rfl,qW.self ws p]
   unfold nW;simp_arith[GF]
 |succ m ih=>
  intro p d c y n bu v5 i o;cases n with
  |zero=>exact absurd i (Ey _)
  |succ n=>
   by_cases hs:p=s
   .subst hs
    refine#[[],[aa (.im (.list (ws.map wD))),aa (000 p),aa (000 p),aa (011 (stL st)),aa _,v5],?_,by rw[jg];rfl,qW.self ws p]
    unfold nW;simp_arith[GF]
   .have h:∃w∈ws,zA st d p w=aq:=by
     refine hide λGG f=>?_
     obtain⟨r,h1,h2⟩:=B.sound p d c
     cases h1 with
     |nil=>exact f (absurd rfl hs)
     |cons hw hr=>
      rename_i n q r
      obtain⟨e,x,D⟩:=B.whole q r hr
      rw[eZ] at h2;exact f (#[_,hw,Xx.mpr #[rfl,e,x,aK]])
    refine hide λGG f=>?_
    obtain⟨n1,t,e1,l,⟨e,j,u⟩,b⟩:=aoS (C:=C) hl c h
    obtain⟨r,a,e2,k,z⟩:=ih t e j aK n (bu++[n1]) (aa (00 n1)) aK (by rw[fW];show bu.length+1+_<=_;lia)
    have R:=qW.go v B c l #[e,j,u] b z;rw[ie] at k;refine f (#[n1::r,a,?_,k,R]);have g:(bu.length<1000000)=True:=eqT;have q:(p=s)=False:=eq_false hs;rw[kj] at e2;unfold nW;have A:∀e a,rst (.im (.tuple [.int n1,.str t])) e a=e:=λ_ _=>rfl
    simp_arith[GF,q,e1,pR,vP,g,A];exact e2
def oE:Option (List Int)->Vl
 |none=>.im .none
 |some r=>.ow (.list (r.map .int))
def Dz(ws:List (Int×Str×Str))(h s:Str):Option (List Int)->Prop
 |none=>∀r,¬iQ ws h r s
 |some r=>qW ws h s r
theorem afP(hl:ws.length<=60)(f:∀w∈ws,∀w'∈ws,w.1=w'.1->w=w'):∃o,FJ [.im (.list (ws.map wD)),.im (.str h),.im (.str s)] C=aa (oE o,C)/\Dz ws h s o:=by
 refine hide λGG a=>?_
 obtain⟨st,e1,B⟩:=JR (C:=C) hl
 cases e:dm st h with
 |none=>
  have b:=rQ.mp e;refine a (#[aj,gm [aa _,aa _,aa _,aj,aj,aj] rfl rfl ?_ rfl rfl,λr p=>b ((B.iff h).mpr #[r,p])]);have q:=jz b;simp_arith[O7,e1,Yr,q];rfl
 |some d=>
  have q:decide (h∈st.map (·.1))=aq:=by rw[<-Lb,e];rfl
  obtain⟨r,i,e2,g,c⟩:=aqe (C:=C) hl f B d.toNat h d e aK KQ [] aj (by have:=B.few h d e;show _<100000;lia) (by have:=B.few h d e;show 0+_<=_;lia)
  refine a (#[aa r,gm [aa _,aa _,aa _,aj,aj,aj] rfl rfl ?_ rfl rfl,c]);rw[rN] at e2;simp_arith[O7,e1,Yr,q,zP,e2,g];rfl
def uP(r:cY):Int×Str×Str:=(r.1,r.2.1,r.2.2.1)
theorem Ri:∀{l:055},(l.map (·.1)).Nodup->∀r∈l,∀r'∈l,r.1=r'.1->r=r'
 |[],_,_,h,_,_,_=>nomatch h
 |a::l,hp,r,h,r',h',e=>by
  rw[dN,lM] at hp;rcases cB.mp h with h1|h1<;>rcases cB.mp h' with h2|h2
  .simp[*]
  .grind
  .grind
  .exact Ri hp.2 r h1 r' h2 e
theorem Dz.unique:∀{o o':Option (List Int)},Dz ws h s o->Dz ws h s o'->o=o'
 |none,none,_,_=>rfl
 |none,some r,a,b=>absurd b.1 (a r)
 |some r,none,a,b=>absurd a.1 (b r)
 |some r,some r',a,b=>congrArg _ (qW.unique a b)
def iC(ht:oV)(os:014)(n aP:Int)(a1 b1:Str):List (Int×Str×Str):=(ht.leaves.filter (lF os n aP a1 b1)).map uP
theorem Ah(hG:qb zs ps ht)(a:014)(n aP:Int)(a1 b1:Str):(iC ht a n aP a1 b1).length<=60:=by
 unfold iC;rw[bR];have:=zZ (lF a n aP a1 b1) ht.leaves;have:=hG.jd;lia
theorem Pj(hG:qb zs ps ht)(b:014)(n aP:Int)(a1 b1:Str):∀w∈iC ht b n aP a1 b1,∀a∈iC ht b n aP a1 b1,w.1=a.1->w=a:=λw h a h' e=>by
 obtain⟨r,m,rfl⟩:=dG.mp h
 obtain⟨r',c,rfl⟩:=dG.mp h'
 rw[Ri hG.T6 r (lK.mp m).1 r' (lK.mp c).1 e]
theorem RJ(hN:054)(hP:iU zs ps)(hG:qb zs ps ht)(z a1 b1:Str)(n aP:Int):
  vz [.im (kE ht),.im (cJ z a1 b1 n),.im (.int aP)] C=aa (.ow (.list ((iC ht 022 n aP a1 b1).map wD)),C):=by
 rw[asd hN hP hG];unfold iC;rw[dJ];rfl
theorem JS(hN:054)(hP:iU zs ps)(hG:qb zs ps ht)(z a1 b1:Str)(n aP:Int)(h s:Str):
  ∃o,ur [.im (kE ht),.im (cJ z a1 b1 n),.im (.str h),.im (.str s),.im (.int aP)] C=aa (oE o,C)/\(((h=a1\/h=b1)\/(s=a1\/s=b1))->o=aj)/\(¬((h=a1\/h=b1)\/(s=a1\/s=b1))->Dz (iC ht 022 n aP a1 b1) h s o):=by
 have s1:=Dh (C:=C) (z:=z) (a1:=a1) (b1:=b1) (n:=n) (p:=h);have a:=Dh (C:=C) (z:=z) (a1:=a1) (b1:=b1) (n:=n) (p:=s);have w:=RJ (C:=C) hN hP hG z a1 b1 n aP
 obtain⟨o,e,b⟩:=afP (C:=C) (h:=h) (s:=s) (Ah hG 022 n aP a1 b1) (Pj hG 022 n aP a1 b1)
 have ok:Hz C.length (oE o)=aq:=by cases o<;>rfl
 by_cases h1:h=a1\/h=b1
 .refine#[aj,gm [aa (.im (kE ht)),aa _,aa (000 h),aa (000 s),aa (00 aP)] rfl rfl ?_ rfl rfl,λ_=>rfl,λz=>absurd (.inl h1) z]
  rw[f9 h1] at s1;simp_arith[JP,s1];rfl
 .rw[jz h1] at s1;by_cases h2:s=a1\/s=b1
  .refine#[aj,gm [aa (.im (kE ht)),aa _,aa (000 h),aa (000 s),aa (00 aP)] rfl rfl ?_ rfl rfl,λ_=>rfl,λz=>absurd (.inr h2) z]
   rw[f9 h2] at a;simp_arith[JP,s1,a];rfl
  .rw[jz h2] at a
   refine#[o,gm [aa (.im (kE ht)),aa _,aa (000 h),aa (000 s),aa (00 aP)] rfl rfl ?_ ok rfl,λz=>absurd z λz=>z.elim h1 h2,λ_=>b]
   have tp:HW (oE o)=aR:=by cases o<;>rfl
   simp_arith[JP,s1,a,w,e,tp]
theorem afQ(n:Nat)(o:Option (List Int))(hl:∀r,o=aa r->r.length<=1000):nU (n+2) [still (oE o),still (oE o)] C=aa (.im 037,C):=by
 cases o with
 |none=>exact same_none _
 |some r=>exact same_ints n r (hl r rfl)
theorem Kw{α:Type}{f:α->az}(h:∀a,gb (f a)=aq):∀l:List α,gJ (l.map f)=aq
 |[]=>rfl
 |a::l=>by
  show(gb _&&gJ _)=aq
  rw[h a,Kw h l];rfl
theorem aeP(ps:029):jY [.dict (bI (cD ps))]=aa (.im (.int ps.length)):=by
 have:Lp (.dict (bI (cD ps)))=aa ps.length:=by
  show(if(cO _ _).isSome then aa _ else aj)=_
  rw[CV];unfold bI cD
  grind
 unfold jY;simp_all
theorem anM(h:iU (zs.take m) ps):iU zs ps:=λi x e=>by
 have up:∀j z,(zs.take m)[j]?=aa z->zs[j]?=aa z:=λj z e=>by
  rw[ab9] at e;split at e
  .exact e
  trivial
 obtain⟨h1,h2⟩:=h i x e
 grind
theorem aqf{a:014}(h:Over f z a):∀y∈a,∃w,f y=aa w:=by
 induction h with
 |stop _=>simp
 |step h _ ih=>
  grind
theorem ah3(hN:054)(hP:iU zs ps)(h:y∈up ps z):y∈ps.map (·.1):=by
 obtain⟨w,e⟩:=aqf (Y5 hN hP z) y h
 exact dG.mpr #[_,(yM (Fx hN hP)).mp e,rfl]
theorem aur{zs:014}{ps ps':029}{lv:055}(p1:ps'.Perm ps)(p8:ps.length<=8)(jd:053)(hl:∀r∈lv,Al zs (ps.map (·.1)) r)(up:(lv.map (·.1)).Nodup):qb zs ps #[ps',[],lv,[]] where
 parts:=p1
 p8:=p8
 r20:=lO _
 jd:=jd
 u10:=lO _
 Du:=λr h=>absurd h nM
 rup:=BW
 leaves:=hl
 T6:=up
 rules:=λr h=>absurd h nM
 unlike:=qG
theorem lay_ints:∀ns:List Int,BX (ns.map kZ)=aq/\yE (ns.map kZ)=0/\jP (ns.map kZ)=aq
 |[]=>#[rfl,rfl,rfl]
 |z::zs=>by
  obtain⟨h1,h2,a⟩:=lay_ints zs
  refine#[by simp[BX,yI];lia,by simp only[dN,yE,h2];rfl,?_]
  show(aq&&jP _)=aq
  grind
theorem shaped_ints(ns:028):jk (.list (ns.map kZ))=aq:=by
 obtain⟨h1,h2,_⟩:=lay_ints ns
 unfold jk;simp only[yI,h1,vm,h2];rfl
theorem aus{α:Type}{zs:List α}(h:zs.Nodup){i j:Nat}{x:α}(hi:zs[i]?=aa x)(a:zs[j]?=aa x):i=j:=by
 obtain⟨d,c⟩:=lW.mp hi
 obtain⟨b,f⟩:=lW.mp a
 have e:=M5.mp h
 grind
theorem Zg{α:Type}(D:α->az){xs:List α}(h:a<=b)(c:b<=xs.length):mQ (xs.map D) (aa (a:Int)) (aa (b:Int))=((xs.drop a).take (b-a)).map D:=by
 unfold mQ;rw[bR,HT.Q0,HT.Q0,Vo (show a<=xs.length by lia),Vo c,amq,ams]
theorem ag8(hN:054)(hP:iU zs ps)(b:ps.length<=8)(z a1 b1:Str)(n aP:Int)(r:cY):
  GQ [.im 008,.im (cJ z a1 b1 n),.im (.int aP),.im (bU r)] C=aa (.im (.bool (lF 022 n aP a1 b1 r)),C):=by
 have p:=afM (C:=C) hN hP b z;have a:mQ [gR z,.int n,.str a1,.str b1] (aa 2) aj=[.str a1,.str b1]:=rfl;have c:=aiA tL tL (aG (aX bW (aM 3) (aG (aW (.int 4))))) (aM 2) (aG (aX bW (aM 3) (aG (aW (.int 5))))) (ao:=[aa (.im 008),aa 06,aa (00 aP),aa (.im (bU r))]) (e1:=[aa (.im 008),aa 06,aa (00 aP),aa (.im (bU r))]) (e3:=[aa (.im 008),aa 06,aa (00 aP),aa (.im (bU r))]) (C:=C) (C1:=C) (C2:=C) (x:=.int r.2.2.2.2.1) (y:=.int aP) (z:=.int r.2.2.2.2.2.1) (by simp_arith[bU]) rfl rfl (by simp_arith[bU]) rfl;refine gm [aa _,aa 06,aa (00 aP),aa (.im (bU r))] rfl rfl ?_ rfl rfl;simp only[bU] at c⊢;unfold lF;cases hA:decide (r.2.1=a1\/r.2.1=b1) with
 |true=>
  simp_arith[GP,gC,fQ,jc,m6,a,Hq,hA]
 |false=>
  cases hB:decide (r.2.2.1=a1\/r.2.2.1=b1) with
  |true=>
   simp_arith[GP,gC,fQ,jc,m6,a,Hq,hA,hB]
  |false=>
   cases hC:decide (r.2.2.2.1∈up ps z) with
   |false=>simp_arith[GP,gC,fQ,jc,m6,a,Hq,hA,hB,p,aeg,hC]
   |true=>
    simp_arith[GP,gC,fQ,jc,m6,a,Hq,hA,hB,p,aeg,hC,oY,c];cases decide (r.2.2.2.2.1<=aP)<;>cases decide (aP<=r.2.2.2.2.2.1)<;>rfl
theorem Ud(a b c:az)(d:0<=k)(h1:k<3):∃x,eX [a,b,c] k=aa x/\(x=a\/x=b\/x=c):=by
 have:k=0\/k=1\/k=2:=aK;rcases this with rfl|rfl|rfl
 .exact#[a,Lr _ _,.inl rfl]
 .exact#[b,Ls _ _ _,.inr 038]
 .exact#[c,aaS _ _ _ _,.inr (.inr rfl)]
theorem Zh(a b:Int):∃v,sZ [.int a,.int b]=aa (00 v)/\v<=a/\v<=b/\(v=a\/v=b):=by
 by_cases h:b<a
 .exact#[b,by simp only[sZ,bZ h],aK,aK,.inr rfl]
 .exact#[a,by simp only[sZ,cC h],aK,aK,.inl rfl]
theorem ase(a b:Int):∃v,xO [.int a,.int b]=aa (00 v)/\a<=v/\b<=v/\(v=a\/v=b):=by
 by_cases h:b>a
 .exact#[b,by simp only[xO,bZ h],aK,aK,.inr rfl]
 .exact#[a,by simp only[xO,cC h],aK,aK,.inl rfl]
theorem ag9(h:Bl L C b (j+6)):∃(f l:Int)(C':Ce),FP [.ce b] C=aa (.im (.tuple [.int f,.int l]),C')/\0<=f/\f<=l/\l<=99999/\Bl L C' b j:=by
 refine hide λGG o=>?_
 obtain⟨e,C1,e1,a1,b1,K⟩:=fZ (m:=9) h bh bh
 obtain⟨D,C2,e2,M,b2,c⟩:=fZ (m:=9) K bh bh
 obtain⟨G,T,q,V,b3,a⟩:=fZ (m:=9) (k:=j+3) c bh bh
 obtain⟨Y,R,B,a4,H,t⟩:=fZ (m:=3) a bh bh
 obtain⟨u,W,n,P,U,A⟩:=fZ (m:=12) t bh bh
 obtain⟨S,I,i,J,w,d⟩:=fZ (m:=3) (k:=j) A bh bh
 obtain⟨x,z,r⟩:=Ud (.int e) (.int D) (.int (99990-G)) a4 H
 obtain⟨y,F,p⟩:=Ud (.int 0) (.int u) (.int 99999) J w
 obtain⟨f,rfl,s,Q⟩:∃f,x=.int f/\0<=f/\f<=99990:=by rcases r with rfl|rfl|rfl<;>exact#[_,rfl,aK,aK]
 obtain⟨g,rfl,N⟩:∃g,y=.int g/\0<=g:=by rcases p with rfl|rfl|rfl<;>exact#[_,rfl,aK]
 obtain⟨l,E,v,O,X⟩:=Zh 99999 (f+g)
 refine o #[f,l,I,gm [aa (.ce b),aj] rfl rfl ?_ rfl (h.eq d),s,aK,v,d];simp_arith[Wu,e1,e2,q,B,z,n,i,F,E]
theorem ah4(h:Bl L C b (j+4)):∃(n:Int)(C':Ce),FQ [.ce b] C=aa (.im (.int n),C')/\0<=n/\n<=1000000000/\Bl L C' b j:=by
 refine hide λGG g=>?_
 obtain⟨e,C1,e1,a1,b1,y⟩:=fZ (m:=4) h bh bh
 obtain⟨u,C2,e2,z,b2,c⟩:=fZ (m:=4) y bh bh
 obtain⟨v,A,i,B,b3,a⟩:=fZ (m:=3) c bh bh
 obtain⟨D,s,t,a4,w,d⟩:=fZ (m:=3) (k:=j) a bh bh
 obtain⟨x,q,l⟩:=Ud (.int e) (.int (100+u)) (.int (1000000000-v)) a4 w
 obtain⟨f,rfl,o,p⟩:∃f,x=.int f/\0<=f/\f<=1000000000:=by rcases l with rfl|rfl|rfl<;>exact#[_,rfl,aK,aK]
 have r:uE (.int 10) (.int 9)=aa (00 1000000000):=rfl;refine g #[f,s,gm [aa (.ce b)] rfl rfl ?_ rfl (h.eq d),o,p,d];simp_arith[Wv,e1,e2,r,i,t,q]
theorem adG(ps:029)(h:ps.length<=60):∃a:List Str,a.Perm (ps.map (·.1))/\xF [.dict (bI (cD ps))]=aa (005 (a.map .str)):=by
 refine#[jL strLt _,qJ _,?_]
 have e:(bI (cD ps)).map (·.1)=(ps.map (·.1)).map gR:=by
  unfold bI cD;rw[dJ,dJ,dJ];rfl
 show((strsOf _).bind _)=_
 rw[e,Jw,ir,f9 07];rfl
theorem asf{a d m:Int}(a0:0<=a)(a1:a<m)(b:1<=d)(c:d<m):0<=(a+d)%m/\(a+d)%m<m/\(a+d)%m≠a:=by
 by_cases h:a+d<m
 .rw[U7 aK h];lia
 .have e:(a+d)%m=a+d-m:=by
   rw[show a+d=m+(a+d-m) by lia,Int.add_emod_left,U7 aK aK];lia
  lia
abbrev zU(b:Nat)(ps:List (Str×Str))(pe:List Str)(many:Int)(pap:az)(aP:Int)(lv:List cY)(os:List Str)(v8 v9 v10 v11 gk m7:Option Vl):En:=
 [aa (.ce b),aa (.im 008),aa 006,aa (00 many),aa (.im pap),aa (00 aP),aa (005 (lv.map bU)),aa (005 (os.map .str)),v8,v9,v10,v11,gk,m7]
structure ajh(zs own pe:List Str)(num:Int)(r:cY):Prop where
 num:r.1=num
 ok:Al zs own r
 giver:r.2.1∈pe
 taker:r.2.2.1∈pe
theorem am4(hB:Bl L C b (j+19))(hN:054)(hP:iU zs ps)(p0:0<ps.length)(p8:ps.length<=8)(pl:2<=pe.length)(pl2:pe.length<=20)(pn:pe.Nodup)(pz:∀x∈pe,x∈zs)(n0:0<=n)(n1:n<=1000000000)(d0:0<=aP)(d1:aP<=99999)(nb:0<=num/\num<=2000)(ll:053)(v9 v10 v11 gk m7:032):
  ∃(r:cY)(C':Ce)(M w10 T O W:032),Es (zU b ps pe many (cJ z a1 b1 n) aP lv (up ps z) (aa (.im (.int num))) v9 v10 v11 gk m7) C=aa (.nx,zU b ps pe many (cJ z a1 b1 n) aP (lv++[r]) 022 (aa (00 num)) M w10 T O W,C')/\ajh zs (ps.map (·.1)) pe num r/\Bl L C' b j:=by
 refine hide λGG gg=>?_
 obtain⟨v,C1,e1,D,yt,ju⟩:=fZ (m:=(pe.length:Int)) (k:=j+18) hB aK aK
 obtain⟨w,C2,e2,a2,b2,Z⟩:=fZ (m:=(pe.length:Int)-1) (k:=j+17) ju aK aK
 obtain⟨u,C3,Q,a3,b3,Y⟩:=fZ (m:=2) (k:=j+16) Z bh bh
 have S:mO (.int w) (.int u)=aa (00 (w*u)):=mul_eq (.inl aK);have G:=mod_eq (i:=v+1+w*u) (j:=(pe.length:Int)) aK
 obtain⟨d,U,dl,dh⟩:∃d:Int,v+1+w*u=v+d/\1<=d/\d<pe.length:=by
  have:u=0\/u=1:=aK;rcases this with rfl|rfl
  .exact#[1,by rw[Int.mul_zero];lia,aK,aK]
  .exact#[1+w,by rw[adH];lia,aK,aK]
 obtain⟨r0,P,r2⟩:=asf D yt dl dh
 rw[<-U] at r0 P r2
 generalize(v+1+w*u)%(pe.length:Int)=to at G r0 P r2
 obtain⟨g,mg,ig,xg⟩:=uq (zs:=pe) D yt
 obtain⟨t,mt,it,xt⟩:=uq (zs:=pe) r0 P
 have N:g≠t:=λz=>by
  subst z;have:=aus pn ig it;lia
 obtain⟨qs,qp,J⟩:=adG ps aK
 have ln:=aeP ps
 obtain⟨t4,C4,e4,a4,b4,rJ⟩:=fZ (m:=(ps.length:Int)) (k:=j+15) Y aK aK
 obtain⟨y,my,_,xy⟩:=uq (zs:=qs) a4 (by rw[qp.length_eq,bR];exact b4)
 have oy:y∈ps.map (·.1):=qp.mem_iff.mp my
 obtain⟨f,l,C5,e5,f0,f1,f2,wM⟩:=ag9 (j:=j+9) rJ
 obtain⟨s,C6,I,s0,s1,yu⟩:=ah4 (j:=j+5) wM
 obtain⟨t7,C7,e7,a7,b7,MP⟩:=fZ (m:=3) (k:=j+4) yu bh bh
 have q:(lv.length<1000000)=True:=eqT;have o:∀a b c d e f:az,cZ (.tuple [a,b,c,d]) (.tuple [e,f])=aa (.im (.tuple [a,b,c,d,e,f])):=λ_ _ _ _ _ _=>R0 (BK rfl)
 have p:∀a b c d e f g:az,cZ (.tuple [a,b,c,d,e,f]) (.tuple [g])=aa (.im (.tuple [a,b,c,d,e,f,g])):=λ_ _ _ _ _ _ _=>R0 (BK rfl)
 have pw:uE (.int 10) (.int 9)=aa (00 1000000000):=rfl;have A:=ne_nil 022 λx hx=>WW hN hP (ah3 hN hP hx)
 have gr:∀(y:Str)(f l m:Int)(M:032),y∈ps.map (·.1)->(0<=f/\f<=l/\l<=99999)->(0<=m/\m<=1000000000)->ajh zs (ps.map (·.1)) pe num (num,g,t,y,f,l,m):=λy f l m M hy U hm=>#[rfl,#[nb,pz _ mg,pz _ mt,N,hy,U,hm],mg,mt]
 have h:∀B,Bl L B b j->(Es (zU b ps pe many (cJ z a1 b1 n) aP lv 022 (aa (00 num)) v9 v10 v11 gk m7) C=aa (.nx,zU b ps pe many (cJ z a1 b1 n) aP (lv++[(num,g,t,y,f,l,s)]) 022 (aa (00 num)) (aa (00 v)) (aa (00 to)) (aa (000 y)) (aa (.im (.tuple [.int f,.int l]))) (aa (00 s)),B))->GG:=λB h8 run=>gg #[_,B,_,_,_,_,_,run,gr y f l s aj oy #[f0,f1,f2] #[s0,s1],h8]
 by_cases h7:0<t7
 .have F:=f9 h7;by_cases E:up ps z=[]
  .rw[E] at A;refine h C7 (MP.mono aK) ?_;simp only[zU,E,rN,alL] at A⊢;simp_arith[Es,e1,e2,Q,S,G,J,ln,e4,xy,e5,I,e7,F,A,xg,xt,o,p,pR,vP,q];simp only[kj,dN,rN,bU]
  .have u0:0<(up ps z).length:=ab6.mpr E;have ul:=ZS ps z;have A:j6 (.list ((up ps z).map .str)) (.list [])=aa (.im 037):=by
    rw[A];cases hh:up ps z with
    |nil=>exact absurd hh E
    |cons _ _=>rfl
   obtain⟨t8,B,e8,a8,b8,X⟩:=fZ (m:=((022).length:Int)) (k:=j+3) MP aK aK
   obtain⟨y2,V,_,R⟩:=uq (zs:=up ps z) a8 b8
   obtain⟨t9,C9,e9,a9,b9,H⟩:=fZ (m:=2) (k:=j+2) X bh bh
   obtain⟨tA,CA,eA,aA,bA,K⟩:=fZ (m:=2) (k:=j+1) H bh bh
   obtain⟨tB,CB,eB,aB,bB,hBB⟩:=fZ (m:=2) (k:=j) K bh bh
   obtain⟨f',x1,x2,x3,x4⟩:=ase 0 (aP-t9)
   obtain⟨l',x5,x6,x7,x8⟩:=Zh 99999 (aP+tA)
   obtain⟨m',x9,xA,xB,xC⟩:=Zh 1000000000 (n+tB)
   refine gg #[(num,g,t,y2,f',l',m'),CB,aa (00 v),aa (00 to),aa (000 y2),aa (.im (.tuple [.int f',.int l'])),aa (00 m'),?_,gr y2 f' l' m' aj (ah3 hN hP V) #[x2,aK,x6] #[aK,xA],hBB];simp_arith[Es,e1,e2,Q,S,G,J,ln,e4,xy,e5,I,e7,F,A,e8,R,e9,x1,eA,x5,pw,eB,x9,xg,xt,o,p,pR,vP,q];simp only[zU,kj,dN,rN,bU]
 .have F:=jz h7;refine h C7 (MP.mono aK) ?_;simp_arith[Es,e1,e2,Q,S,G,J,ln,e4,xy,e5,I,e7,F,xg,xt,o,p,pR,vP,q];simp only[zU,kj,dN,rN,bU]
theorem aeQ{C:Ce}{b L j:Nat}{zs pe:014}{n aP:Int}{many:Int}(o:Bl L C b (j+405))(hN:054)(hP:iU zs ps)(P:0<ps.length)(G:ps.length<=8)(K:2<=pe.length)(E:pe.length<=20)(pn:pe.Nodup)(Q:∀x∈pe,x∈zs)(U:0<=n)(n1:n<=1000000000)(J:0<=aP)(N:aP<=99999)(X:0<=many)(Z:many<=16):
  ∃(lv:055)(C':Ce),Fd [.ce b,.im (.dict (bI (cD ps))),.im (.list (pe.map .str)),.im (.int many),.im (cJ z a1 b1 n),.im (.int aP)] C=aa (.ow 013,C')/\(lv.length<=16/\(lv.length:Int)<=many)/\(∀r∈lv,Al zs (ps.map (·.1)) r/\r.2.1∈pe/\r.2.2.1∈pe)/\(lv.map (·.1)).Pairwise (·<·)/\(∀r∈lv,r.1<=200)/\Bl L C' b j:=by
 refine hide λGG w=>?_
 have O:=afM (C:=C) hN hP G z;have W:decide ((1:Int)<(pe.length:Int))=aq:=f9 aK;have H:mO (.int many) (.int 1)=aa _:=mul_eq (.inl aK);rw[adH] at H
 obtain⟨ns,C1,e1,nl,F,t,T⟩:=aoQ (j:=j+304) (m:=many) o X aK
 obtain⟨bK,C',e,lv,B,s,k,a,c,f,R,l,D,v⟩:=Jy (g:=dM 8) (aN:=ns.map .int) (C:=C1)
  (λi ao C2=>∃(lv:055)(B s k a c f:032),ao=zU b ps pe many (cJ z a1 b1 n) aP lv 022 B s k a c f/\lv.map (·.1)=ns.take i/\(∀r∈lv,Al zs (ps.map (·.1)) r/\r.2.1∈pe/\r.2.2.1∈pe)/\Bl L C2 b (j+19*(16-i)))
  ⟨[],aj,aj,aj,aj,aj,aj,rfl,rfl,(λ_ h=>nomatch h),T⟩ (λi d ao C2 S Y=>by
   refine hide λGG w=>?_
   obtain⟨lv,B,s,k,a,c,f,rfl,l,D,o⟩:=Y
   obtain⟨x,rfl,M,I,hi⟩:=arz S
   rw[aau j 19 (by lia:i<16)] at o;have A:053:=by
    have:=congrArg sW l;rw[bR,yD] at this;lia
   obtain⟨r,V,s,k,a,c,f,e,h1,y⟩:=am4 (z:=z) (a1:=a1) (b1:=b1) (many:=many) (lv:=lv) o hN hP P G K E pn Q U n1 J N #[(F x I).1,O1 (F x I).2 bh] A s k a c f
   refine w (#[_,.nx,_,V,rfl,e,.inl rfl,lv++[r],_,_,_,_,_,_,rfl,?_,λq u=>?_,y])
   .rw[kj,l,take_snoc M,dN,h1.num];rfl
   .rcases gP.mp u with u|u
    .exact D q u
    .rw[jU.mp u]
     exact⟨h1.ok,h1.giver,h1.taker⟩)
 rw[bR] at l v;rw[List.take_length] at l;subst R;have A:lv.length<=16/\(lv.length:Int)<=many:=by
  have:=congrArg sW l;rw[bR] at this;lia
 have p:Bl L C' b j:=v.mono (Ca _ _);refine w #[lv,C',gm [aa (.ce b),aa _,aa _,aa (00 many),aa _,aa (00 aP),aj,aj,aj,aj,aj,aj,aj,aj] rfl rfl ?_ rfl (o.eq p),A,D,by rw[l];exact t,λr h=>(F r.1 (l▸dG.mpr #[r,h,rfl])).2,p];simp only[zU,rN] at e;simp_arith[Vv,O,W,vQ,H,e1,iG,e]
structure aut(zs:List Str)(ps:List (Str×Str))(pe:List Str)(lv:List cY)(z a1 b1:Str)(n aP:Int):Prop where
 names:Names zs
 len:zs.length=24
 parts:iU zs ps
 p0:0<ps.length
 p8:ps.length<=8
 two:2<=pe.length
 few:pe.length<=17
 avF:pe.Nodup
 R9:∀x∈pe,x∈zs
 aji:z∈zs
 awu:a1∈zs
 awv:b1∈zs
 n0:0<=n
 n1:n<=1000000000
 d0:0<=aP
 d1:aP<=99999
 jd:lv.length<=16
 leaves:∀r∈lv,Al zs (ps.map (·.1)) r/\r.2.1∈pe/\r.2.2.1∈pe
 rise:(lv.map (·.1)).Pairwise (·<·)
 num:∀r∈lv,r.1<=200
abbrev avG(ps:List (Str×Str))(pe:List Str)(lv:List cY)(z a1 b1:Str)(n aP:Int):az:=.tuple [.dict (bI (cD ps)),.list (pe.map .str),.list (lv.map bU),cJ z a1 b1 n,.int aP]
theorem ash(hB:Bl L C b (j+460))(m0:0<=most)(m1:most<=16):
  ∃(zs:014)(ps:029)(pe:014)(lv:055)(z a1 b1:Str)(n aP:Int)(C':Ce),Rg [.ce b,.im (.int most)] C=aa (.im (avG ps pe lv z a1 b1 n aP),C')/\aut zs ps pe lv z a1 b1 n aP/\Bl L C' b j:=by
 refine hide λGG gg=>?_
 obtain⟨zs,C1,e1,hN,i,ju⟩:=aqc (m:=24) (j:=j+448) hB bh bh
 have i:zs.length=24:=i
 obtain⟨P,C2,e2,a2,b2,hB2⟩:=fZ (m:=8) (k:=j+447) ju bh bh
 have ct:=ah2 (zs:=zs) (m:=1+P) aK aK;have tl:(zs.take (1+P).toNat).length=(1+P).toNat:=by rw[yD];lia
 obtain⟨ps,C3,e3,hP,pl,Z⟩:=aoP (j:=j+431) (zs:=zs.take (1+P).toNat) hB2 aK #[hN.1.sublist (U5 _ _),λz hz=>hN.2 z (Eo hz)]
 have hP:=anM hP;have p0:0<ps.length:=aK;have p8:ps.length<=8:=aK;have ln:=aeP ps
 obtain⟨t4,C4,e4,a4,b4,rJ⟩:=fZ (m:=3) (k:=j+430) Z bh bh
 obtain⟨x4,i4,h4⟩:=Ud (.int 4) (.int 9) (.int 16) a4 b4
 obtain⟨w,rfl,w0,w1⟩:∃w,x4=.int w/\0<w/\w<=16:=by rcases h4 with rfl|rfl|rfl<;>exact#[_,rfl,aK,aK]
 obtain⟨t5,C5,e5,a5,b5,wM⟩:=fZ (m:=w) (k:=j+429) rJ w0 aK
 obtain⟨o,hk5⟩:∃o:Nat,2+2+t5=((2+(2+o):Nat):Int):=#[t5.toNat,aK]
 have E:=Zg gR (xs:=zs) (a:=2) (b:=2+(2+o)) aK aK;rw[<-hk5,show 2+(2+o)-2=2+o by lia] at E;have E:mQ (zs.map gR) (aa 2) (aa (2+2+t5))=_:=E
 obtain⟨pe,g⟩:∃pe,pe=(zs.drop 2).take (2+o):=05
 rw[<-g] at E;have pl1:pe.length=2+o:=by rw[g,yD,Vc];lia
 have G:pe.Nodup:=by rw[g];exact hN.1.sublist ((U5 _ _).trans (List.drop_sublist _ _))
 have s:∀x∈pe,x∈zs:=λx e=>by rw[g] at e;exact ab5 (Eo e)
 have Q:=Zg gR (xs:=zs) (a:=18) (b:=20) bh aK;have Q:mQ (zs.map gR) (aa 18) (aa 20)=_:=Q
 obtain⟨ex,r⟩:∃ex,ex=(zs.drop 18).take (20-18):=05
 rw[<-r] at Q;have exl:ex.length<=2:=by rw[r,yD];lia
 have xin:∀x∈ex,x∈zs:=λx e=>by rw[r] at e;exact ab5 (Eo e)
 have M:cZ (.list (pe.map .str)) (.list (ex.map .str))=aa (005 ((pe++ex).map .str)):=by
  rw[kj];exact add_l (by rw[bR,bR];lia)
 obtain⟨sm,t⟩:∃sm,sm=pe++ex:=05
 rw[<-t] at M;have sl:0<sm.length/\sm.length<=100:=by rw[t,fW];lia
 have A:∀x∈sm,x∈zs:=λx e=>by
  rw[t] at e;rcases gP.mp e with e|e
  .exact s x e
  .exact xin x e
 obtain⟨t6,C6,e6,a6,b6,yu⟩:=fZ (m:=(sm.length:Int)) (k:=j+428) wM aK aK
 obtain⟨s1,m1',_,x1⟩:=uq (zs:=sm) a6 b6
 obtain⟨t7,C7,e7,a7,b7,MP⟩:=fZ (m:=(sm.length:Int)) (k:=j+427) yu aK aK
 obtain⟨s2,W,_,x2⟩:=uq (zs:=sm) a7 b7
 have I:∀(D:Ce)(a1 b1:Str),a1∈zs->b1∈zs->Bl L D b (j+425)->(jn (dR (aX zH (aG (bO cV (aD (aO 0) (aD (aW (.int 3)) bD)))) (aG (aW (.int 0))))) (cP 6 (j7 (aD (aX bW (aM 2) (aG (aW (.int 20)))) (aD (aX bW (aM 2) (aG (aX cZ (aG (aW (.int 20))) (aG (bO cV (aD (aO 0) (aD (aW (.int 2)) bD))))))) bD)))) jm [aa (.ce b),aa (00 most),aa (005 (zs.map .str)),aa (.ow 008),aa (005 (pe.map .str)),aa (005 (sm.map .str)),aa (.im (.tuple [.str s1,.str s2])),aj,aj,aj] C7=aa (.nx,[aa (.ce b),aa (00 most),aa (005 (zs.map .str)),aa (.ow 008),aa (005 (pe.map .str)),aa (005 (sm.map .str)),aa (.im (.tuple [.str a1,.str b1])),aj,aj,aj],D))->GG:=λD a1 b1 ha hb h V=>by
  obtain⟨N,qp,so⟩:=adG ps aK
  have O:=Zg gR (xs:=zs) (a:=22) (b:=23) bh aK;have O:mQ (zs.map gR) (aa 22) (aa 23)=_:=O
  obtain⟨p,y⟩:∃p,p=(zs.drop 22).take (23-22):=05
  rw[<-y] at O;have eyl:p.length=1:=by rw[y,yD,Vc];lia
  have yin:∀x∈p,x∈zs:=λx e=>by rw[y] at e;exact ab5 (Eo e)
  have ql:N.length=ps.length:=by rw[qp.length_eq,bR]
  have K:cZ (.list (N.map .str)) (.list (p.map .str))=aa (005 ((N++p).map .str)):=by
   rw[kj];exact add_l (by rw[bR,bR];lia)
  obtain⟨B,q⟩:∃B,B=N++p:=05
  rw[<-q] at K;have qyl:B.length=ps.length+1:=by rw[q,fW];lia
  have U:∀x∈B,x∈zs:=λx e=>by
   rw[q] at e;rcases gP.mp e with e|e
   .have:=qp.mem_iff.mp e;rw[WT hP] at this;exact Eo this
   .exact yin x e
  obtain⟨tA,CA,eA,aA,bA,S⟩:=fZ (m:=9) (k:=j+424) h bh bh
  obtain⟨u,hu,u0,u1⟩:∃u:Int,(if(tA==0)=aq then(1:Int) else 0)=u/\0<=u/\u<=1:=#[_,rfl,by split<;>lia,by split<;>lia]
  obtain⟨tB,CB,eB,aB,bB,hBB⟩:=fZ (m:=(ps.length:Int)+u) (k:=j+423) S aK aK
  obtain⟨z,mz,_,xz⟩:=uq (zs:=B) aB aK
  obtain⟨n,CC,eC,R,n1,Y⟩:=ah4 (j:=j+419) hBB
  obtain⟨f,l,CD,eD,f0,f1,f2,T⟩:=ag9 (j:=j+413) Y
  obtain⟨tE,CE,eE,aE,bE,hBE⟩:=fZ (m:=2) (k:=j+412) T bh bh
  obtain⟨aP,iE,d0,d1⟩:∃aP:Int,eX [kZ f,.int l] tE=aa (.int aP)/\0<=aP/\aP<=99999:=by
   have:tE=0\/tE=1:=aK;rcases this with rfl|rfl
   .exact#[f,Lr _ _,f0,aK]
   .exact#[l,Ls _ _ _,aK,f2]
  obtain⟨tF,CF,eF,aF,bF,X⟩:=fZ (m:=most+1) (k:=j+411) hBE aK aK
  obtain⟨lv,CG,eG,jd,hr,F,num,J⟩:=aeQ (many:=tF) (j:=j+6) (z:=z) (a1:=a1) (b1:=b1) (n:=n) (aP:=aP) X hN hP p0 p8 aK aK G s R n1 d0 d1 aF aK
  refine gg #[zs,ps,pe,lv,z,a1,b1,n,aP,CG,gm [aa (.ce b),aa (00 most),aj,aj,aj,aj,aj,aj,aj,aj] rfl rfl ?_ rfl (hB.eq J),#[hN,i,hP,p0,p8,aK,aK,G,s,U z mz,ha,hb,R,n1,d0,d1,jd.1,hr,F,num],J.mono aK];have t22:∀a b c d:az,cZ (.tuple [a,b]) (.tuple [c,d])=aa (.im (.tuple [a,b,c,d])):=λ_ _ _ _=>R0 (BK rfl)
  simp_arith[Ze,e1,e2,gC,fQ,jc,m6,ct,e3,e4,i4,e5,E,Q,M,e6,x1,e7,x2,↓V,so,O,K,ln,eA,vQ,hu,eB,xz,eC,t22,eD,eE,iE,eF,eG]
 obtain⟨t8,C8,e8,a8,b8,H⟩:=fZ (m:=3) (k:=j+426) MP bh bh
 by_cases h8:0<t8
 .have v:=f9 h8
  obtain⟨t9,D,V,a9,b9,h⟩:=fZ (m:=2) (k:=j+425) H bh bh
  obtain⟨y0,R,_,z0⟩:=uq (zs:=zs) (k:=20) aK aK
  obtain⟨y1,n1,_,z1⟩:=uq (zs:=zs) (k:=20+t9) aK aK
  exact I D y0 y1 R n1 h (by simp_arith[e8,v,z0,V,z1])
 .have v:=jz h8;exact I C8 s1 s2 (A _ m1') (A _ W) H.dec (by simp_arith[e8,v])
theorem same_str(n:Nat)(x:Str):nU (n+1) [.im (.str x),.im (.str x)] C=aa (.im 037,C):=by
 refine K1 (en:=[aa _,aa _]) (e1:=[aa (000 x),aa (000 x)]) rfl rfl ?_ rfl rfl;simp_arith[GK,mY,Dt,wg,qR,isNone,oY]
theorem aoT(n:Nat)(xs:014)(hl:xs.length<=1000):nU (n+2) [.im (.list (xs.map .str)),.im (.list (xs.map .str))] C=aa (.im 037,C):=by
 have t:jy (.many 2) dU (W2 (nU (n+1))) [] (rA (xs.map .str) (xs.map .str)) C=aa (fX xs.length 037,C):=by
  clear hl;induction xs with
  |nil=>rfl
  |cons x xs ih=>
   rw[dN,rA];unfold jy;rw[eZ,M8];simp_arith[yr,dU,gK,jg,same_str n x,ih]
 have b:=aeb xs.length;have h1:(xs.length<=1000000)=True:=eqT;refine K1 (en:=[aa _,aa _]) (e1:=[aa (.im (.list (xs.map .str))),aa (.im (.list (xs.map .str)))]) rfl rfl ?_ rfl rfl;simp_arith[GK,mY,Dt,wg,oY,zQ,t,b.1,b.2,Uy,h1]
def LQ(ws:List (Int×Str×Str))(side:Prop)(h:Str)(qs:014):Prop:=∃l:List Str,l.Nodup/\(∀x,x∈l↔¬side/\rG ws h x)/\qs=jL strLt l
theorem LQ.unique(a:LQ ws side h qs)(b:LQ ws side h qs'):qs=qs':=by
 obtain⟨l,n,m,rfl⟩:=a
 obtain⟨e,c,d,rfl⟩:=b
 have p:=aeH n c λx=>(m x).trans (d x).symm
 exact YT S7 (λ_ _=>trivial) ((qJ l).trans p) (Gp S7 λ_ _=>trivial)
theorem W3(hN:054)(hP:iU zs ps)(hG:qb zs ps ht)(z a1 b1:Str)(n aP:Int)(h:Str):
  ∃a:List Str,yK [.im (kE ht),.im (cJ z a1 b1 n),.im (.str h),.im (.int aP)] C=aa (.ow (.list (a.map .str)),C)/\a.length<=61/\LQ (iC ht 022 n aP a1 b1) (h=a1\/h=b1) h a:=by
 have s1:=Dh (C:=C) (z:=z) (a1:=a1) (b1:=b1) (n:=n) (p:=h);have w:=RJ (C:=C) hN hP hG z a1 b1 n aP;have b:=Ah hG 022 n aP a1 b1;by_cases h1:h=a1\/h=b1
 .refine#[[],gm [aa (.im (kE ht)),aa 06,aa (000 h),aa (00 aP),aj] rfl rfl ?_ rfl rfl,lO _,[],qG,λx=>#[λm=>(nM m).elim,λm=>(m.1 h1).elim],rfl]
  rw[f9 h1] at s1;simp_arith[Ov,s1]
 .rw[jz h1] at s1;generalize hws:iC ht 022 n aP a1 b1=ws at w b
  obtain⟨st,e1,B⟩:=JR (C:=C) (ws:=ws.map sy) (s:=h) (by rw[bR];exact b)
  have c:=oN (T:=.many 3) (ft:=dU) (fe:=acP) (fs:=[]) (C:=C) wD (λ_=>aq) (λw=>wD (sy w)) (l:=ws) λw _=>#[[.int w.1,.str w.2.1,.str w.2.2],rfl,rfl,λ_=>#[.im (wD (sy w)),_,by simp_arith[gK,jg];rfl,rfl]]
  rw[BP.mpr λ_ _=>rfl,show ws.map (λw=>wD (sy w))=(ws.map sy).map wD by rw[dJ];rfl] at c;have q:(ws.length<=1000000)=True:=eqT;have nl:gJ ((ws.map sy).map wD)=aq:=Kw (λ_=>rfl) _;have i:(st.map (·.1)).length<=61:=by
   have:=len_sub (m:=h::(ws.map sy).map (·.2.1)) B.nd λp f=>by
    obtain⟨r,g⟩:=(B.iff p).mp f
    cases g with
    |nil=>exact fV
    |cons hw _=>exact fU _ (dG.mpr #[_,hw,rfl])
   simp only[eZ,bR] at this⊢;lia
  have d:xF [.dict (bI (stL st))]=aa (005 ((jL strLt (st.map (·.1))).map .str)):=by
   have e:(bI (stL st)).map (·.1)=(st.map (·.1)).map gR:=by
    unfold bI stL;rw[dJ,dJ,dJ];rfl
   show((strsOf ((bI (stL st)).map (·.1))).bind _)=_
   rw[e,Jw,ir,f9 aK];rfl
  refine#[jL strLt (st.map (·.1)),gm [aa (.im (kE ht)),aa 06,aa (000 h),aa (00 aP),aj] rfl rfl ?_ rfl rfl,by rw[(qJ _).length_eq];exact i,st.map (·.1),B.nd,λx=>(B.keys x).trans #[λr=>#[h1,r],λr=>r.2],rfl]
  simp_arith[Ov,s1,w,c,q,nl,e1,d]
def mF(r q:028):Prop:=r.length<q.length\/(r.length=q.length/\lexLe r q)
theorem afR:∀r:List Int,lexLe r r
 |[]=>trivial
 |a::r=>.inr #[rfl,afR r]
theorem lex_trans:∀{r q s:028},lexLe r q->lexLe q s->lexLe r s
 |[],_,_,_,_=>trivial
 |a::r,b::q,c::s,h1,h2=>by
  rcases h1 with h1|⟨h1,e⟩
  .rcases h2 with h2|⟨h2,d⟩<;>exact .inl aK
  .rcases h2 with h2|⟨h2,d⟩
   .exact .inl aK
   .exact .inr #[aK,lex_trans e d]
theorem afS(n:Int):∀{r q:028},r.length=q.length->lexLe r q->lexLe (r++[n]) (q++[n])
 |[],[],_,_=>.inr #[rfl,trivial]
 |a::r,b::q,l,h=>h.imp id λh=>#[h.1,afS n (Oi l) h.2]
theorem mF.refl(r:028):mF r r:=.inr #[rfl,afR r]
theorem mF.trans(h1:mF r q)(h2:mF q s):mF r s:=by
 rcases h1 with h1|⟨h1,b⟩
 .rcases h2 with h2|⟨h2,a⟩<;>exact .inl aK
 .rcases h2 with h2|⟨h2,a⟩
  .exact .inl aK
  .exact .inr #[aK,lex_trans b a]
theorem mF.snoc(n:Int)(h:mF r q):mF (r++[n]) (q++[n]):=by
 unfold mF;rw[fW,fW];rcases h with h|⟨h,k⟩
 .grind
 .exact .inr #[aK,afS n h k]
def ltB(r q:028):Bool:=if(r.length:Int)=q.length then iJ (r.map .inl) (q.map .inl) else decide ((r.length:Int)<q.length)
theorem aaa:∀{r q:028},r.length=q.length->(iJ (r.map .inl) (q.map .inl)=aq->lexLe r q)/\(iJ (r.map .inl) (q.map .inl)=aR->lexLe q r)
 |[],[],_=>#[λ_=>trivial,λ_=>trivial]
 |a::r,b::q,l=>by
  rw[dN,dN,iJ];have c:=aaa (Oi l);by_cases e:a=b
  .rw[bZ (congrArg _ e)]
   exact#[λh=>.inr #[e,c.1 h],λh=>.inr #[e.symm,c.2 h]]
  .rw[cC λh=>e (by injection h)]
   refine#[λh=>.inl (of_decide_eq_true h),λh=>.inl ?_]
   have:=of_decide_eq_false h;lia
theorem ah5(r q:028):(ltB r q=aq->mF r q)/\(ltB r q=aR->mF q r):=by
 unfold ltB;by_cases e:(r.length:Int)=q.length
 .rw[bZ e];have e:r.length=q.length:=aK
  exact#[λh=>.inr #[e,(aaa e).1 h],λh=>.inr #[e.symm,(aaa e).2 h]]
 .refine#[λh=>.inl ?_,λh=>.inl ?_]
  .grind
  grind
theorem aeR:∀r:List Int,keysOf (r.map .int)=aa (r.map .inl)
 |[]=>rfl
 |a::r=>by
  rw[dN,keysOf,aeR r];rfl
theorem aqg(r q:028):K5 (.tuple [.int r.length,.list (r.map .int)]) (.tuple [.int q.length,.list (q.map .int)])=aa (.im (.bool (ltB r q))):=by
 unfold K5;simp only[aeR];refine bZ λh=>?_
 have:r.length=q.length:=aK;rw[dJ,dJ,show(cL ∘ qe)=λ_=>aq from rfl,alY,alY,this]
abbrev Tb:=List (Str×List Int)
def je(f:Tb):List (Str×az):=f.map λx=>(x.1,.list (x.2.map .int))
def eO(f:Tb)(p:Str):Option (List Int):=(f.find? λx=>decide (x.1=p)).map (·.2)
theorem Ai(x:Str×List Int)(l:Tb)(p:Str):eO (x::l) p=if x.1=p then aa x.2 else eO l p:=by
 unfold eO
 grind
def yh(f:Tb)(z:Str)(v:028):Tb:=if(eO f z).isSome then f.map (λx=>if x.1=z then(z,v) else x) else f++[(z,v)]
theorem Rj(z p:Str)(v:028)(f:Tb):eO (yh f z v) p=if z=p then aa v else eO f p:=by
 have set:∀f,eO (f.map λx=>if x.1=z then(z,v) else x) p=if z=p then(eO f p).map λ_=>v else eO f p:=λf=>by
  induction f with
  |nil=>split<;>rfl
  |cons x f ih=>
   rw[dN,Ai,Ai,ih]
   grind
 have app:∀f,eO (f++[(z,v)]) p=(eO f p).or (if z=p then aa v else aj):=λf=>by
  induction f with
  |nil=>exact Ai _ _ _
  |cons x f ih=>
   rw[m8,Ai,Ai,ih];by_cases h:x.1=p
   .rw[bZ h,bZ h];rfl
   .rw[cC h,cC h]
 unfold yh;split
 .rename_i h;rw[set];by_cases e:z=p
  .subst e
   obtain⟨w,a⟩:=wN.mp h
   rw[bZ rfl,bZ rfl,a];rfl
  .rw[cC e,cC e]
 .rename_i h;rw[app];by_cases e:z=p
  .subst e;rw[Option.not_isSome_iff_eq_none.mp h];rfl
  .rw[cC e,cC e,Option.or_none]
theorem aqh(f:Tb)(z:Str)(v:028):(yh f z v).length<=f.length+1:=by
 unfold yh
 grind
theorem Kd(f:Tb)(z:Str):n6 (bI (je f)) (.str z)=aa ((eO f z).map λv=>.list (v.map .int)):=by
 rw[Xh];unfold je eO;rw[acZ,Jg,Jg];rfl
theorem aiE(f:Tb)(z:Str):lC (.str z) (.dict (bI (je f)))=aa (.im (.bool (eO f z).isSome)):=by
 show((n6 _ _).map _).map _=_
 rw[Kd,mU,Nh];rfl
theorem avH(h:eO f z=aa v):bW (.dict (bI (je f))) (.str z)=aa (.im (.list (v.map .int))):=by
 unfold bW wG;simp only[Kd,h,mU]
theorem auu(f:Tb)(z:Str)(v:028):putD (bI (je f)) (.str z) (.list (v.map .int))=aa (bI (je (yh f z v))):=by
 have ks:(eO f z).isSome=aq↔z∈(je f).map (·.1):=by
  unfold eO je
  grind
 unfold yh;by_cases h:(eO f z).isSome=aq
 .rw[bZ h]
  show(if(cO _ _).isSome then aa _ else aj)=_
  rw[CV];refine congrArg aa ?_;unfold pU;rw[bZ]
  .unfold bI je;rw[dJ,dJ,dJ,dJ];refine wR λx _=>?_
   by_cases e:x.1=z
   .simp[yU,e]
   .simp[yU,e]
  .obtain⟨x,a,e⟩:=dG.mp (ks.mp h)
   exact acA.mpr #[_,dG.mpr #[x,a,rfl],f9 ((yU _ _).mpr e)]
 .rw[QS λm=>h (ks.mpr m)];unfold je
  grind
theorem aha(f:Tb)(z:Str):(eO f z).isSome=aq↔z∈f.map (·.1):=by
 unfold eO;simp
theorem auv(h:(f.map (·.1)).Nodup)(z:Str)(v:028):((yh f z v).map (·.1)).Nodup:=by
 unfold yh;split
 .have e:f.map ((·.1)∘λx=>if x.1=z then(z,v) else x)=f.map (·.1):=wR λx _=>by
   show(if x.1=z then(z,v) else x).1=_;by_cases g:x.1=z
   .rw[bZ g];exact g.symm
   .rw[cC g]
  rwa[dJ,e]
 .rename_i k;rw[kj];exact qF.mpr #[h,lM.mpr #[nM,qG],λa d c b e=>k ((aha f z).mpr 07)]
def LR(v:028):Option (List Int)->Bool
 |none=>aq
 |some o=>ltB v o
def oF(f:Tb)(r:cY):Tb:=match eO f r.2.1 with
 |none=>f
 |some v=>if LR (v++[r.1]) (eO f r.2.2.1) then yh f r.2.2.1 (v++[r.1]) else f
def wz(lv:055):Nat->Tb->Tb
 |0,f=>f
 |n+1,f=>wz lv n (lv.foldl oF f)
def tW(f g:Tb):Prop:=∀x v,eO f x=aa v->∃w,eO g x=aa w/\mF w v
theorem tW.refl(f:Tb):tW f f:=λx v h=>#[v,h,mF.refl _]
theorem tW.trans(a:tW f g)(b:tW g h):tW f h:=λx v e=>by
 obtain⟨w,e1,c⟩:=a x v e
 obtain⟨u,e2,d⟩:=b x w e1
 exact#[u,e2,d.trans c]
theorem ah6(f:Tb)(r:cY):tW f (oF f r):=by
 unfold oF;split
 .exact tW.refl f
 .split
  .rename_i b;intro x w a;rw[Rj];by_cases e:r.2.2.1=x
   .rw[bZ e];rw[e,a] at b
    exact#[_,rfl,(ah5 _ _).1 b]
   .rw[cC e]
    exact#[w,a,mF.refl _]
  .exact tW.refl f
theorem asi(h:eO f r.2.1=aa v):∃w,eO (oF f r) r.2.2.1=aa w/\mF w (v++[r.1]):=by
 unfold oF;rw[h];show ∃w,eO (if LR _ _ then yh f _ _ else f) _=aa w/\_;split
 .rw[Rj,bZ rfl]
  exact#[_,rfl,mF.refl _]
 .rename_i b;cases o:eO f _ with
  |none=>rw[o] at b;trivial
  |some w=>
   rw[o] at b
   exact#[w,rfl,(ah5 _ _).2 (U9 _▸b)]
theorem aab:∀(lv:055)(f:Tb),tW f (lv.foldl oF f)
 |[],f=>tW.refl f
 |r::lv,f=>(ah6 f r).trans (aab lv _)
theorem ah7(lv:055):∀(n:Nat)(f:Tb),tW f (wz lv n f)
 |0,f=>tW.refl f
 |n+1,f=>(aab lv f).trans (ah7 lv n _)
theorem ahb:∀{lv:055}{f:Tb}{v:028},r∈lv->eO f r.2.1=aa v->∃w,eO (lv.foldl oF f) r.2.2.1=aa w/\mF w (v++[r.1])
 |q::lv,f,v,a,hg=>by
  rcases cB.mp a with c|a
  .subst c
   obtain⟨w,e,l⟩:=asi hg
   obtain⟨u,e2,b⟩:=aab lv _ _ _ e
   exact#[u,e2,b.trans l]
  .obtain⟨w,e,l⟩:=ah6 f q _ _ hg
   obtain⟨u,e2,b⟩:=ahb a e
   exact#[u,e2,b.trans (l.snoc _)]
theorem ahc(o:iQ (lv.map uP) a p x):∀{k:Nat}{f:Tb}{v b:028},eO f a=aa v->mF v b->p.length<=k->∃w,eO (wz lv k f) x=aa w/\mF w (b++p):=by
 induction o with
 |nil _=>
  intro k f v b h l _
  obtain⟨w,e,n⟩:=ah7 lv k f _ _ h
  exact#[w,e,by rw[jg];exact n.trans l]
 |cons h1 _ ih=>
  intro k f v b h l hl;cases k with
  |zero=>grind
  |succ k=>
   refine hide λGG m=>?_
   obtain⟨c,q,e⟩:=dG.mp h1
   injection e with e1 e2
   injection e2 with e2 e3
   obtain⟨w,i,g⟩:=ahb q (by rwa [e2])
   rw[e3] at i;rw[e1] at g
   obtain⟨u,j,d⟩:=ih i (g.trans (l.snoc _)) (akx hl)
   rw[ie] at d;exact m (#[u,j,d])
def Ek(ws:List (Int×Str×Str))(h:Str)(f:Tb):Prop:=∀x v,eO f x=aa v->iQ ws h v x
theorem auw(c:uP r∈ws)(H:Ek ws h f):Ek ws h (oF f r):=by
 unfold oF;split
 .exact H
 .rename_i b;split
  .intro x w a;rw[Rj] at a;by_cases e:r.2.2.1=x
   .rw[bZ e] at a;cases a;rw[<-e]
    exact(H _ _ b).snoc c
   .rw[cC e] at a;exact H x w a
  trivial
theorem ah8:∀{lv:055}{f:Tb},(∀r∈lv,uP r∈ws)->Ek ws h f->Ek ws h (lv.foldl oF f)
 |[],_,_,H=>H
 |r::lv,f,hr,H=>ah8 (lv:=lv) (λq a=>hr q (fU _ a)) (auw (hr r fV) H)
theorem ah9(a:∀r∈lv,uP r∈ws):∀{n:Nat}{f:Tb},Ek ws h f->Ek ws h (wz lv n f)
 |0,_,H=>H
 |n+1,_,H=>ah9 a (n:=n) (ah8 a H)
def zV(f:Tb)(M:Nat):Prop:=f.length<=M+1/\∀x v,eO f x=aa v->v.length<=M
theorem aia(r:cY)(h:zV f M):zV (oF f r) (M+1):=by
 have h':zV f _:=#[alv h.1,λx v e=>alv (h.2 x v e)]
 unfold oF;split
 .trivial
 .rename_i v b;split
  .have:=aqh f r.2.2.1 (v++[r.1]);have:=h.1
   refine#[aK,λx w a=>?_]
   rw[Rj] at a;by_cases e:r.2.2.1=x
   .rw[bZ e] at a;cases a;rw[fW];exact Vb (h.2 _ _ b)
   .rw[cC e] at a;exact h'.2 x w a
  lia
theorem aib:∀{lv:055}{f:Tb}{M:Nat},zV f M->zV (lv.foldl oF f) (M+lv.length)
 |[],_,_,h=>h
 |r::lv,f,M,h=>by
  have:=aib (lv:=lv) (aia r h)
  rwa [Nat.add_right_comm] at this
theorem auy(h:(f.map (·.1)).Nodup)(r:cY):((oF f r).map (·.1)).Nodup:=by
 unfold oF;split
 .exact h
 .split
  .exact auv h _ _
  trivial
theorem aic:∀{lv:055}{f:Tb},(f.map (·.1)).Nodup->((lv.foldl oF f).map (·.1)).Nodup
 |[],_,h=>h
 |r::lv,f,h=>aic (lv:=lv) (auy h r)
theorem aid:∀{n:Nat}{f:Tb},(f.map (·.1)).Nodup->((wz lv n f).map (·.1)).Nodup
 |0,_,h=>h
 |n+1,_,h=>aid (n:=n) (aic h)
theorem aoU{C:Ce}(m:053)(s:Str):Dz (lv.map uP) h s (eO (wz lv lv.length [(h,[])]) s)/\∀v,eO (wz lv lv.length [(h,[])]) s=aa v->v.length<=16:=by
 have T0:Ek (lv.map uP) h [(h,[])]:=λx v e=>by
  rw[Ai] at e;split at e
  .rename_i k;cases e;rw[<-k];exact .nil _
  trivial
 have T:=ah9 (λr a=>dG.mpr #[r,a,rfl]) (n:=lv.length) T0;have few:∀r,iQ _ h r s->∃w,eO _ s=aa w/\w.length<=lv.length/\(r.length<=lv.length->mF w r):=λr a=>by
  obtain⟨st,_,B⟩:=JR (C:=C) (ws:=(lv.map uP).map sy) 07
  obtain⟨p,g,b⟩:=B.Yi #[r,a]
  rw[bR] at b;have d:eO [(h,[])] h=aa []:=by rw[Ai,bZ rfl]
  obtain⟨w,e,l⟩:=ahc g d (mF.refl []) b
  refine#[w,e,?_,λi=>?_]
  .rw[lN] at l;rcases l with l|l<;>lia
  .obtain⟨j,o,t⟩:=ahc a d (mF.refl []) i
   simp_all
 cases e:eO _ s with
 |none=>
  refine#[λr a=>?_,λv k=>nomatch k]
  grind
 |some v=>
  refine⟨⟨T s v e,λr a=>?_⟩,λq k=>by
   obtain⟨w,e2,f,_⟩:=few v (T s v e)
   grind⟩
  obtain⟨w,e2,f,k⟩:=few r a
  rw[e] at e2;cases e2;by_cases c:r.length<=lv.length
  .exact k c
  lia
theorem oW(h:f ao C=aa (.nx,e1,C1)):bN f g ao C=g e1 C1:=by
 unfold bN
 lia
theorem Ky(h:fi ao C=aa (aN,e1,C1)):iG fi g b ao C=iY g b aN e1 C1:=by
 unfold iG
 lia
theorem aac(h:f ao C=aa (.int k,ao,C))(b:0<=k)(a:k<=1000):mR f ao C=aa (lU 0 k.toNat,ao,C):=by
 unfold mR
 exact c8
theorem CN:∀l:List cY,gJ (l.map bU)=aq
 |[]=>rfl
 |r::l=>by exact CN l
abbrev yw(v0 v1 v2 v3 v4 v5:Option Vl)(f:Tb)(v7 v8 v9 v10:Option Vl):En:=[v0,v1,v2,v3,v4,v5,aa (.ow (.dict (bI (je f)))),v7,v8,v9,v10]
section
variable{v0 v1 v2 v3 v4 v5 v7:Option Vl}
theorem aqi{M:Nat}(r:cY)(hz:zV f M)(k:M<=1000)(v9 v10:032):∃j h,Vw (yw v0 v1 v2 v3 v4 v5 f v7 (aa (.im (bU r))) v9 v10) C=aa (.nx,yw v0 v1 v2 v3 v4 v5 (oF f r) v7 (aa (.im (bU r))) j h,C):=by
 have q:((bI (je f)).length<1000000)=True:=eq_true (by have:=hz.1;unfold bI je;rw[bR,bR];lia);have c:=aiE f r.2.1;have d:=Kd f r.2.2.1;unfold oF;simp only[yw,bU];cases hv:eO f r.2.1 with
 |none=>
  rw[hv] at c
  refine#[v9,v10,?_]
  simp_arith[c,acf]
 |some v=>
  rw[hv] at c;have i:=avH hv;have e:cZ (.list (v.map .int)) (.list [.int r.1])=aa (005 ((v++[r.1]).map .int)):=by
   rw[kj];exact add_l (by have:=hz.2 _ _ hv;rw[bR];show _+1<=_;lia)
  have p1:=auu f r.2.2.1 (v++[r.1])
  obtain⟨a,b⟩:∃a,v++[r.1]=a:=05
  rw[b] at e p1;cases ho:eO f r.2.2.1 with
  |none=>
   rw[ho] at d
   refine#[aa (.im (.list (a.map .int))),aa (.im .none),?_]
   simp_arith[c,Ep,b,i,e,rm,d,Vp,qR,isNone,LR,qm,uI,p1,q]
  |some o=>
   rw[ho] at d;have g:=aqg a o;cases hb:ltB a o with
   |true=>
    rw[hb] at g
    refine#[aa (.im (.list (a.map .int))),aa (.im (.list (o.map .int))),?_]
    simp_arith[c,Ep,b,i,e,rm,d,mU,qR,isNone,LR,hb,bR,g,qm,uI,p1,q]
   |false=>
    rw[hb] at g
    refine#[aa (005 (a.map .int)),aa (.im (.list (o.map .int))),?_]
    simp_arith[c,Ep,b,i,e,rm,d,mU,qR,isNone,LR,hb,bR,g,BV]
theorem aie:∀(lv:055)(f:Tb)(M:Nat)(v8 v9 v10:032),zV f M->M+lv.length<=1000->∃b c a,iY (dM 8) Vw (lv.map bU) (yw v0 v1 v2 v3 v4 v5 f v7 v8 v9 v10) C=aa (.nx,yw v0 v1 v2 v3 v4 v5 (lv.foldl oF f) v7 b c a,C)
 |[],f,M,v8,v9,v10,_,_=>#[v8,v9,_,rfl]
 |r::lv,f,M,v8,v9,v10,hz,hl=>by
  rw[eZ] at hl
  obtain⟨g,d,e1⟩:=aqi (C:=C) (v0:=v0) (v1:=v1) (v2:=v2) (v3:=v3) (v4:=v4) (v5:=v5) (v7:=v7) r hz aK v9 v10
  obtain⟨b,c,a,e⟩:=aie (C:=C) lv _ _ (aa (.im (bU r))) g d (aia r hz) aK
  refine#[b,c,a,?_]
  rw[z7,dN,iY];simp only[dM,Nf] at e1⊢
  grind
end
theorem aei{v0 v1 v2 v3 v4:032}(k:053):∀(aN:036)(f:Tb)(M:Nat)(b:Vl)(v7 v8 v9 v10:032),b=.ow 013\/b=.im 013->zV f M->M+16*aN.length<=900->∃e h g c a,iY (dM 7) ac8 aN (yw v0 v1 v2 v3 v4 (aa b) f v7 v8 v9 v10) C=aa (.nx,yw v0 v1 v2 v3 v4 e (wz lv aN.length f) h g c a,C)
 |[],f,M,b,v7,v8,v9,v10,_,_,_=>#[_,v7,v8,v9,_,rfl]
 |d::aN,f,M,b,v7,v8,v9,v10,hv,hz,hl=>by
  rw[eZ] at hl
  obtain⟨j,l,i,e1⟩:=aie (C:=C) (v0:=v0) (v1:=v1) (v2:=v2) (v3:=v3) (v4:=v4) (v5:=aa (.im 013)) (v7:=aa (.im d)) lv f M v8 v9 v10 hz aK
  obtain⟨e,h,g,c,a,e2⟩:=aei k aN _ (M+lv.length) _ (aa (.im d)) j l i (.inr rfl) (aib hz) aK
  refine#[e,h,g,c,a,?_]
  rw[eZ,wz,<-e2,iY];rcases hv with rfl|rfl
  .simp_arith[iG,e1]
  .simp_arith[iG,e1]
theorem anN(hN:054)(hP:iU zs ps)(a:ps.length<=8)(z a1 b1:Str)(n aP:Int)(lv:055):jy .one ac9 ada [aa (.im 008),aa 06,aa (00 aP)] (lv.map bU) C=aa ((lv.filter (lF 022 n aP a1 b1)).map bU,C):=by
 refine oN _ _ _ λr _=>#[_,rfl,?_,λ_=>#[_,_,rfl,rfl]]
 have q:=ag8 (C:=C) hN hP a z a1 b1 n aP r;simp_arith[gK,m8,lN,q]
theorem aeS{a:014}{r:cY}(h:lF a n aP a1 b1 r=aq):¬(r.2.2.1=a1\/r.2.2.1=b1):=by
 unfold lF at h
 lia
theorem aqj{ht:oV}{a:014}{n aP:Int}(hs:¬(h=a1\/h=b1))(c:iQ (iC ht a n aP a1 b1) h p s):¬(s=a1\/s=b1):=by
 have:=c.Kr;generalize p.reverse=d at this;cases this with
 |nil=>trivial
 |cons hw _=>
  obtain⟨r,b,e⟩:=dG.mp (JM.mp hw)
  injection e with e1 e2
  injection e2 with e2 e3
  rw[<-e3];exact aeS (lK.mp b).2
def yj(ht:oV)(os:014)(n aP:Int)(a1 b1 h s:Str)(o:Option (List Int)):Prop:=(((h=a1\/h=b1)\/(s=a1\/s=b1))->o=aj)/\(¬((h=a1\/h=b1)\/(s=a1\/s=b1))->Dz (iC ht os n aP a1 b1) h s o)
theorem yj.unique{ht:oV}{d:014}{n aP:Int}(a:yj ht d n aP a1 b1 h s o)(b:yj ht d n aP a1 b1 h s o'):o=o':=by
 by_cases c:(h=a1\/h=b1)\/(s=a1\/s=b1)
 .rw[a.1 c,b.1 c]
 .exact(a.2 c).unique (b.2 c)
theorem aej(hN:054)(hP:iU zs ps)(p:ps.length<=8)(r:053)(z a1 b1:Str)(n aP:Int)(h:Str):
  ∃f:Tb,Cy [.im (.dict (bI (cD ps))),.im (.list (lv.map bU)),.im (cJ z a1 b1 n),.im (.str h),.im (.int aP)] C=aa (.ow (.dict (bI (je f))),C)/\(∀s,yj #[ps',[],lv,[]] (up ps z) n aP a1 b1 h s (eO f s)/\∀v,eO f s=aa v->v.length<=16)/\(f.map (·.1)).Nodup:=by
 refine hide λGG i=>?_
 have o:mQ [gR z,.int n,.str a1,.str b1] (aa 2) aj=[.str a1,.str b1]:=rfl;have a:=Hq h a1 b1;by_cases h1:h=a1\/h=b1
 .rw[f9 h1] at a;refine i #[[],gm [aa _,aa _,aa 06,aa (000 h),aa (00 aP),aj,aj,aj,aj,aj,aj] rfl rfl ?_ rfl rfl,λs=>#[#[λ_=>rfl,λk=>absurd (.inl h1) k],λv k=>nomatch k],qG];simp_arith[Pb,gC,fQ,jc,m6,o,a,vJ];rfl
 rw[jz h1] at a
 obtain⟨l,lE⟩:∃l,l=lv.filter (lF 022 n aP a1 b1):=05
 have j:l.length<=16:=by rw[lE];exact jw (zZ _ _) r
 have c:=anN (C:=C) hN hP p z a1 b1 n aP lv;rw[<-lE] at c;have q:(l.length<=1000000)=True:=eqT;have nl:=CN l;have kd:fO (.str h)=aa (.inr h):=rfl;have b:=λs=>aoU (C:=C) (h:=h) j s
 have m:(lU 0 l.length).length=l.length:=by simp[lU]
 have A:zV [(h,[])] 0:=⟨cH _,λx v e=>by
  rw[Ai] at e;split at e
  .cases e;exact cH _
  .cases e⟩
 obtain⟨u,y,w,t,d,e1⟩:=aei (C:=C) (v0:=aa (.im 008)) (v1:=aa (.im 013)) (v2:=aa 06) (v3:=aa (000 h)) (v4:=aa (00 aP)) j (lU 0 l.length) [(h,[])] 0 (005 (l.map bU)) aj aj aj aj 038 A (by rw[m];lia)
 rw[m] at e1;have g:((wz l l.length [(h,[])]).map (·.1)).Nodup:=aid (lM.mpr #[nM,qG]);generalize wz l l.length [(h,[])]=f at b e1 g;refine i #[f,gm [aa _,aa (.im 013),aa 06,aa (000 h),aa (00 aP),aj,aj,aj,aj,aj,aj] rfl rfl ?_ rfl rfl,λs=>#[#[λk=>?_,λ_=>by have:=(b s).1;rw[lE] at this;exact this],(b s).2],g]
 .refine(congrArg _ ((oW (e1:=[aa (.im 008),aa (.im 013),aa 06,aa (000 h),aa (00 aP),aj,aj,aj,aj,aj,aj]) (C1:=C) ?_).trans ?_:Pb _ C=aa (.rt (011 (je f)),yw (aa (.im 008)) (aa (.im 013)) (aa 06) (aa (000 h)) (aa (00 aP)) u f y w t d,C))).trans rfl
  .simp_arith[gC,fQ,jc,m6,o,a]
  refine(oW (e1:=yw (aa (.im 008)) (aa (.im 013)) (aa 06) (aa (000 h)) (aa (00 aP)) (aa (005 (l.map bU))) [(h,[])] aj aj aj aj) (C1:=C) ?_).trans ?_
  .have B:bI (je [(h,[])])=[(.str h,.list [])]:=rfl;simp only[yw,B];simp_arith[c,q,nl,xV,kd]
  refine(oW ((Ky (aac (k:=(l.length:Int)) ?_ aK aK)).trans e1)).trans ?_
  .show aa _=_;rw[bR];rfl
  .rfl
 .cases e:eO f s with
  |none=>rfl
  |some v=>
   have:=(b s).1;rw[e,lE] at this;exact absurd (k.resolve_left h1) (aqj (ht:=#[ps',[],lv,[]]) h1 this.1)
theorem anO(hN:054)(hP:iU zs ps)(a:ps.length<=8)(b:053)(z a1 b1:Str)(n aP:Int)(h:Str):
  ∃f:Tb,Cy [.im (.dict (bI (cD ps))),.im (.list (lv.map bU)),.im (cJ z a1 b1 n),.im (.str h),.im (.int aP)] C=aa (.ow (.dict (bI (je f))),C)/\∀s,yj #[ps',[],lv,[]] (up ps z) n aP a1 b1 h s (eO f s)/\∀v,eO f s=aa v->v.length<=16:=by
 obtain⟨f,e,M,_⟩:=aej hN hP a b z a1 b1 n _ h
 exact#[f,e,M]
def Dq(R:Int->Prop):Option Int->Prop
 |none=>∀n,0<=n->n<=1000000000->¬R n
 |some m=>(0<=m/\m<=1000000000)/\R m/\∀n,m<n->n<=1000000000->¬R n
theorem Dq.unique:∀{o o':Option Int},Dq R o->Dq R o'->o=o'
 |none,none,_,_=>rfl
 |none,some m,a,b=>absurd b.2.1 (a m b.1.1 b.1.2)
 |some m,none,a,b=>absurd a.2.1 (b m a.1.1 a.1.2)
 |some m,some m',a,b=>by
  rcases Int.lt_trichotomy m m' with l|l|l
  .exact absurd b.2.1 (a.2.2 m' l b.1.2)
  .lia
  .exact absurd a.2.1 (b.2.2 m l a.1.2)
theorem afT(h:∀w∈ws,w∈ws'){a b:Str}(p:iQ ws a r b):iQ ws' a r b:=by
 induction p with
 |nil p=>exact .nil p
 |cons h1 _ ih=>exact .cons (h _ h1) ih
def Rn(ht:oV)(os:014)(aP:Int)(a1 b1 h s:Str)(n:Int):Prop:=¬((h=a1\/h=b1)\/(s=a1\/s=b1))/\rG (iC ht os n aP a1 b1) h s
theorem JT{a:014}{r:cY}(h:lF a n aP a1 b1 r=aq)(b:m<=r.2.2.2.2.2.2):lF a m aP a1 b1 r=aq:=by
 unfold lF at h⊢
 lia
theorem Kz{a:014}{r:cY}(h:lF a n aP a1 b1 r=aq):n<=r.2.2.2.2.2.2:=by
 unfold lF at h
 grind
theorem afU:∀(ns:028)(n:Int),(∃x∈ns,n<=x)->∃m∈ns,n<=m/\∀x∈ns,n<=x->m<=x
 |[],_,⟨_,h,_⟩=>absurd h nM
 |y::ns,n,⟨x,hx,l⟩=>by
  by_cases c:∃x∈ns,n<=x
  .obtain⟨m,h1,h2,a⟩:=afU ns n c
   by_cases q:n<=y/\y<=m
   .exact#[y,fV,q.1,λx h l=>(cB.mp h).elim (λe=>e▸Fy _) λh=>O1 q.2 (a x h l)]
   .exact#[m,fU _ h1,h2,λx h l=>(cB.mp h).elim (λe=>(Int.le_total m y).elim (λg=>e▸g) λg=>absurd ⟨e▸l,g⟩ q) λh=>a x h l]
  .have g:=λx h l=>c ⟨x,h,l⟩
   cases cB.mp hx with
   |inl e=>subst e;exact#[x,fV,l,λz h q=>(cB.mp h).elim (λe=>e▸Fy _) λh=>(g z h q).elim]
   |inr e=>exact(g x e l).elim
structure Ma(ht:oV)(ns:List Int):Prop where
 down:ns.Pairwise (·>=·)
 Mf:∀n∈ns,0<=n/\n<=1000000000
 top:1000000000∈ns
 each:∀r∈ht.leaves,r.2.2.2.2.2.2∈ns
 len:ns.length<=17
theorem Ma.up{ht:oV}(S:Ma ht ns){c:014}{aP n:Int}(f:n<=1000000000)(R:Rn ht c aP a1 b1 h s n):∃m∈ns,n<=m/\Rn ht c aP a1 b1 h s m:=by
 obtain⟨m,h1,h2,e⟩:=afU ns n #[_,S.top,f]
 obtain⟨k,r,p⟩:=R
 refine#[m,h1,h2,k,r,afT (λw d=>?_) p]
 obtain⟨l,hl,rfl⟩:=dG.mp d
 obtain⟨b,a⟩:=lK.mp hl
 exact dG.mpr #[l,lK.mpr #[b,JT a (e _ (S.each l b) (Kz a))],rfl]
theorem Ma.most{ht:oV}(S:Ma ht ns){b:014}{aP:Int}(f:match o with|none=>∀n∈ns,¬Rn ht b aP a1 b1 h s n|some m=>∃l r,ns=l++m::r/\Rn ht b aP a1 b1 h s m/\∀n∈l,¬Rn ht b aP a1 b1 h s n):Dq (Rn ht b aP a1 b1 h s) o:=by
 cases o with
 |none=>
  intro n _ h2 R
  obtain⟨m,d,_,c⟩:=S.up h2 R
  grind
 |some m=>
  obtain⟨l,r,e,h1,h2⟩:=f
  refine#[S.Mf m 07,h1,λn d c R=>?_]
  obtain⟨x,a,i,g⟩:=S.up c R
  rw[e] at a;rcases gP.mp a with a|a
  .grind
  .rcases cB.mp a with rfl|a
   .lia
   .have:=S.down;rw[e] at this;have:=(rM.mp (Uz.mp this).2.1).1 x a;lia
theorem asj(hG:qb zs ps ht):∃ns,N7 [.im (kE ht)] C=aa (.ow (.list (ns.map .int)),C)/\Ma ht ns:=by
 have c:=oN (T:=.one) (ft:=dU) (fe:=acw) (fs:=[]) (C:=C) bU _ _ (l:=ht.leaves) λr _=>#[_,rfl,rfl,λ_=>#[_,_,rfl,rfl]]
 rw[BP.mpr λ_ _=>rfl] at c;have o:=hG.jd
 obtain⟨d,i⟩:∃d:List Int,d=ht.leaves.map λr=>if 1000000000<r.2.2.2.2.2.2 then 1000000000 else r.2.2.2.2.2.2:=05
 have t:d.length=ht.leaves.length:=by rw[i,bR]
 have q:(d.length<=1000000)=True:=eqT;have c2:ht.leaves.map (λr=>kZ (if 1000000000<r.2.2.2.2.2.2 then 1000000000 else r.2.2.2.2.2.2))=d.map .int:=by rw[i,dJ];rfl
 rw[c2] at c;have p:intsOf (.int _::d.map .int)=aa _:=WX (1000000000::d);have j:decide (d.length+1<64)=aq:=f9 aK;have m:cZ (.list [.int _]) _=aa (.ow (.list (.int 1000000000::d.map .int))):=add_l (by rw[bR];show 1+_<=_;lia);have k:=qJ (lt:=ltI) (1000000000::d);have mem:∀n,n∈(jL ltI _).reverse↔n=1000000000\/n∈d:=λn=>by rw[List.mem_reverse,k.mem_iff,cB]
 have s:∀n∈d,∃r∈ht.leaves,r.2.2.2.2.2.2=n:=λn g=>by
  rw[i] at g
  obtain⟨r,f,e⟩:=dG.mp g
  refine#[r,f,?_]
  have:=(hG.leaves r f).most;split at e<;>lia
 refine#[_,gm [aa _,aj] rfl rfl ?_ rfl rfl,#[?_,λn g=>?_,(mem _).mpr 038,λr f=>(mem _).mpr (.inr ?_),?_]]
 .simp_arith[VG,c,q,ZX,m,p,j]
 .have:=Gp SX (l:=1000000000::d) λ_ _=>trivial
  exact akE.mpr (this.imp λ{a b} h=>by exact Int.not_lt.mp (of_decide_eq_false h))
 .rcases(mem n).mp g with rfl|g
  .exact#[bh,bh]
  .obtain⟨r,f,rfl⟩:=s n g
   exact(hG.leaves r f).most
 .rw[i];refine dG.mpr #[r,f,?_];have:=(hG.leaves r f).most;split<;>lia
 .rw[List.length_reverse,k.length_eq,eZ];lia
def Ia:Option Int->az
 |none=>.none
 |some m=>.int m
section
variable{C:Ce}{zs:List Str}{ps:List (Str×Str)}{ht:oV}(hN:Names zs)(hP:iU zs ps)(hG:qb zs ps ht){z a1 b1 h s:Str}{aP:Int}
include hN hP hG
theorem aeT:∀(ns:028)(v8:032),∃(o:Option Int)(d:En),iY (dM 8) adD (ns.map .int) [aa (.im (kE ht)),aa (.im (.str z)),aa (.im (.tuple [.str a1,.str b1])),aa (.im (.str h)),aa (.im (.str s)),aa (.im (.int aP)),aa (.im (.str a1)),aa (.im (.str b1)),v8] C=aa ((match o with|none=>.nx|some m=>.rt (00 m)),d,C)/\
  match o with|none=>∀n∈ns,¬Rn ht 022 aP a1 b1 h s n|some m=>∃l r,ns=l++m::r/\Rn ht 022 aP a1 b1 h s m/\∀n∈l,¬Rn ht 022 aP a1 b1 h s n
 |[],v8=>#[aj,_,rfl,λn b=>nomatch b]
 |n::ns,v8=>by
  obtain⟨o,e1,h1,h2⟩:=JS (C:=C) hN hP hG z a1 b1 n _ h s
  have R:o.isSome=aq↔Rn ht 022 aP a1 b1 h s n:=by
   by_cases c:(h=a1\/h=b1)\/(s=a1\/s=b1)
   .rw[h1 c]
    exact#[λk=>(nomatch k),λk=>absurd c k.1]
   .have:=h2 c;cases o with
    |none=>exact#[λk=>(nomatch k),λk=>absurd k.2 λ⟨r,p⟩=>this r p]
    |some r=>exact#[λ_=>#[c,r,this.1],λ_=>rfl]
  rw[dN,iY];cases o with
  |some r=>
   refine#[aa n,[aa (.im (kE ht)),aa (000 z),aa (.im (.tuple [.str a1,.str b1])),aa (000 h),aa (000 s),aa (00 aP),aa (000 a1),aa (000 b1),aa (00 n)],?_,[],ns,rfl,R.mp rfl,λn b=>nomatch b]
   simp_arith[e1,oE,yX,isNone]
  |none=>
   obtain⟨o,d,e2,f⟩:=aeT ns _
   refine#[o,d,?_,?_]
   .simp_arith[e1,isNone];exact e2
   .have g:¬Rn ht _ _ a1 b1 h s n:=λk=>nomatch R.mpr k
    cases o with
    |none=>exact λx a=>(cB.mp a).elim (λe=>by rwa [e]) (f x)
    |some m=>
     obtain⟨l,r,e,p1,p2⟩:=f
     exact#[_,r,by rw[e];rfl,p1,λx a=>(cB.mp a).elim (λe=>by rwa [e]) (p2 x)]
theorem Zi:∃o,Af [.im (kE ht),.im (.str z),.im (.tuple [.str a1,.str b1]),.im (.str h),.im (.str s),.im (.int aP)] C=aa (.im (Ia o),C)/\Dq (Rn ht 022 aP a1 b1 h s) o:=by
 refine hide λGG b=>?_
 obtain⟨ns,e1,S⟩:=asj (C:=C) hG
 obtain⟨o,c,e2,a⟩:=aeT (C:=C) hN hP hG ns aj
 refine b (#[o,gm [aa _,aa _,aa _,aa _,aa _,aa _,aj,aj,aj] rfl rfl ?_ rfl rfl,S.most a]);cases o with
 |none=>
  simp_arith[Qi,e1,iG,e2];rfl
 |some m=>
  simp_arith[Qi,e1,iG,e2];rfl
end
def mG{α:Type}(D:α->az)(l:List (Int×α)):List (az×az):=l.map λx=>(.int x.1,D x.2)
def zW{α:Type}(l:List (Int×α))(n:Int):Option α:=(l.find? λx=>decide (x.1=n)).map (·.2)
theorem aqk(x:Int×α)(l:List (Int×α))(n:Int):zW (x::l) n=if x.1=n then aa x.2 else zW l n:=by
 unfold zW
 grind
theorem aif(D:α->az):∀l:List (Int×α),cO fO (mG D l)=aa (l.map λx=>.inl x.1)
 |[]=>rfl
 |x::l=>by
  unfold mG;rw[dN,cO];have:=aif D l;unfold mG at this;rw[this];rfl
theorem ahd(D:α->az)(l:List (Int×α))(n:Int):n6 (mG D l) (.int n)=aa ((zW l n).map D):=by
 have e:∀l,pM _ _ (mG D l)=(zW l n).map D:=λl=>by
  induction l with
  |nil=>rfl
  |cons x l ih=>
   show(if fO (.int _)=aa _ then aa (D _) else pM _ _ (mG D l))=_
   rw[ih,aqk];by_cases h:x.1=n
   .rw[bZ (by rw[h];rfl),bZ h];rfl
   .rw[cC (λk=>h (by injection k with k;injection k)),cC h]
 show(if(cO _ _).isSome then aa _ else aj)=_
 rw[aif,e];rfl
theorem aql(D:α->az)(l:List (Int×α))(n:Int):pH (.int n) (.dict (mG D l))=aa (.im (.bool (zW l n).isNone)):=by
 show((n6 _ _).map _).map _=_
 rw[ahd]
 grind
theorem avI(D:α->az)(h:zW l n=aa x):bW (.dict (mG D l)) (.int n)=aa (.im (D x)):=by
 unfold bW wG;simp only[ahd,h,mU]
theorem afV:∀xs ys:List Int,NZ (xs.map .int) (ys.map .int)=decide (xs=ys)
 |[],[]=>rfl
 |[],y::ys=>rfl
 |x::xs,[]=>rfl
 |x::xs,y::ys=>by
  show((x==y)&&NZ _ _)=_
  rw[afV xs ys,Cg];simp
theorem aqm(xs ys:028):uV (.list (xs.map .int)) (.list (ys.map .int))=aa (decide (xs=ys)):=by
 show(if iK _&&iK _&&(jk _&&jk _) then aa _ else aj)=_
 rw[shaped_ints,shaped_ints,show iK (.list _)=aq from(lay_ints xs).2.2,show iK (.list _)=aq from(lay_ints ys).2.2];show aa (NZ _ _)=_;rw[afV]
def Te:List Int->Bool
 |a::b::r=>decide (a<b)&&Te (b::r)
 |_=>aq
theorem aih:∀{l:028},l.Pairwise (λa b=>ltI b a=aR)->Te l=decide l.Nodup
 |[],_=>rfl
 |[a],_=>rfl
 |a::b::r,h=>by
  have h2:=(rM.mp h).2;have h1:=λx c=>by
   have:=(rM.mp h).1 x c;unfold ltI at this;simpa using this
  have d:=λx c=>by
   have:=(rM.mp h2).1 x c;unfold ltI at this;simpa using this
  rw[Te,aih h2,Cg,lJ,decide_eq_true_iff,decide_eq_true_iff,decide_eq_true_iff,lM (a:=a)]
  refine#[λk=>#[λm=>?_,k.2],λk=>#[?_,k.2]]
  .grind
  .have:=h1 b fV
   grind
theorem aeU(l:028)(h:l.length<64):J8 [.list (l.map .int)]=aa (005 ((jL ltI l).map .int)):=by
 have hs:KY (l.map .int)=aa ((jL ltI l).map .int):=by
  unfold KY;rw[bZ 07];simp only[WX]
 unfold J8 QJ;simp_all
theorem tail_zip:∀l:List Int,rA (l.map .int) ((l.drop 1).map .int)=(l.zip (l.drop 1)).map λp=>.tuple [.int p.1,.int p.2]
 |[]=>rfl
 |[a]=>rfl
 |a::b::r=>by
  have:=tail_zip (b::r);show .tuple _::rA _ (((b::r).drop 1).map _)=_;simp_all
theorem Xy{α:Type}(f:α->Bool):∀l:List α,boolsOf (l.map λx=>.bool (f x))=aa (l.map f)
 |[]=>rfl
 |x::l=>by
  rw[dN,boolsOf,Xy f l];rfl
theorem ahe:∀l:List Int,((l.zip (l.drop 1)).map λp=>decide (p.1<p.2)).all id=Te l
 |[]=>rfl
 |[a]=>rfl
 |a::b::r=>by
  show(decide _&&(((b::r).zip ((b::r).drop 1)).map _).all id)=_
  rw[ahe _];rfl
theorem aoV{xs:028}(hl:xs.length<=60):M7 [.im (.list (xs.map .int))] C=aa (.im (.bool (decide xs.Nodup)),C):=by
 have num:∀x:Int,O9 [.im (.int x)] C=aa (.im 037,C):=λx=>gm _ rfl rfl (rfl) rfl rfl
 have c:=oN (T:=.one) (ft:=dU) (fe:=abS) (fs:=[]) (C:=C) kZ (λ_=>aq) _ (l:=xs) λx _=>#[[.int x],rfl,rfl,λ_=>#[.im 037,_,by have:=num x;simp_arith[gK,jg,this];rfl,rfl]]
 rw[BP.mpr λ_ _=>rfl] at c;have a1:zp [.list (xs.map λ_=>.bool aq)]=aa (.im 037):=by
  show(boolsOf _).map _=_
  rw[Xy (λ_=>aq)];simp
 have d:=aeU xs aK;have sl:(jL ltI xs).length=xs.length:=(qJ xs).length_eq;have up:=Gp (lt:=ltI) SX (l:=xs) λ_ _=>trivial
 have h:decide (jL ltI xs).Nodup=decide xs.Nodup:=decide_eq_decide.mpr (qJ xs).nodup_iff;have a:=ahe (jL ltI xs);rw[aih up,h] at a;generalize jL ltI xs=ys at d sl a;have k:mQ (ys.map kZ) (aa 1) aj=(ys.drop 1).map .int:=by
  unfold mQ;rw[show HT.fD _ 0 (aa 1)=min 1 ys.length by rw[bR];rfl,List.take_of_length_le (by rw[Vc];exact cH _)];cases ys with
  |nil=>rfl
  |cons y ys=>rw[Vo (by rw[eZ];lia),ams]
 have c2:=oN (T:=.many 2) (ft:=dU) (fe:=ac7) (fs:=[]) (C:=C) (λp:Int×Int=>.tuple [.int p.1,.int p.2]) (λ_=>aq) _ (l:=ys.zip (ys.drop 1)) λp _=>#[_,rfl,rfl,λ_=>#[_,_,rfl,rfl]]
 rw[BP.mpr λ_ _=>rfl] at c2;have b:zp [.list ((ys.zip (ys.drop 1)).map λp=>.bool (decide (p.1<p.2)))]=aa (.im (.bool (decide xs.Nodup))):=by
  show(boolsOf _).map _=_
  rw[Xy _];show aa (Vl.im (.bool _))=_;rw[a]
 have i:(ys.zip (ys.drop 1)).length<=60:=by rw[Jb];lia
 have e:=tail_zip ys;generalize ys.zip (ys.drop 1)=zs at c2 b i e;have g:(xs.length<=1000000)=True:=eqT;have f:(zs.length<=1000000)=True:=eqT;have j:Pa [.im (.list (ys.map .int))] C=aa (.im (.bool (decide xs.Nodup)),C):=by
  refine gm [aa _] rfl rfl ?_ rfl rfl;simp_arith[Wr,zQ,gC,fQ,jc,m6,k,e,c2,f,n2,b]
 refine gm [aa _] rfl rfl ?_ rfl rfl;simp_arith[UG,mY,wg,c,g,n1,a1,d,j]
abbrev Wy:=Int×Str×Str
abbrev uX(p:Str×Str):az:=.tuple [.str p.1,.str p.2]
def xX(ws:List Wy):Str->List Int->Option Str
 |h,[]=>aa h
 |h,n::r=>(zW ws n).bind λp=>if p.1=h then xX ws p.2 r else aj
def DN:Option Str->az
 |none=>.none
 |some s=>.str s
section
variable{v1 v2:Option Vl}{ws:List Wy}
theorem aek:∀(xs:028)(h:Str)(v4 v5 v6:032),∃a d,iY (dM 4) acQ (xs.map .int) [aa (.im (.dict (mG uX ws))),v1,v2,aa (.im (.str h)),v4,v5,v6] C=aa (a,d,C)/\((a=.nx/\∃s,xX ws h xs=aa s/\d[3]?=aa (aa (000 s)))\/(a=.rt (.im .none)/\xX ws h xs=aj))
 |[],h,v4,v5,v6=>#[_,_,rfl,.inl #[rfl,h,rfl,rfl]]
 |n::xs,h,v4,v5,v6=>by
  have b:=aql uX ws n;rw[dN,iY];cases hn:zW ws n with
  |none=>
   rw[hn] at b
   refine#[_,[aa (.im (.dict (mG uX ws))),v1,v2,aa (000 h),aa (00 n),v5,v6],?_,.inr #[rfl,by rw[xX,hn];rfl]]
   simp_arith[b,Option.isNone_none]
  |some p=>
   rw[hn] at b;have f:=avI uX hn;have ne:=GF p.1 h;by_cases c:p.1=h
   .rw[f9 c] at ne
    obtain⟨a,d,e,k⟩:=aek xs _ _ _ _
    refine#[a,d,?_,?_]
    .simp_arith[b,ak8,f,ne];exact e
    .rwa [xX,hn,ir,bZ c]
   .rw[jz c] at ne
    refine#[_,[aa (.im (.dict (mG uX ws))),v1,v2,aa (000 h),aa (00 n),aa (.im (.str p.1)),aa (.im (.str p.2))],?_,.inr #[rfl,by rw[xX,hn,ir,cC c]]]
    simp_arith[b,ak8,f,ne]
theorem aqn(xs:028)(h:Str):Ox [.im (.dict (mG uX ws)),.im (.str h),.im (.list (xs.map .int))] C=aa (.im (DN (xX ws h xs)),C):=by
 obtain⟨a,b,e,k⟩:=aek (C:=C) (v1:=aa (000 h)) (v2:=aa (.im (.list (xs.map .int)))) xs h aj aj aj
 rcases k with⟨rfl,s,hs,h3⟩|⟨rfl,hs⟩
 .rw[hs];refine gm [aa _,aa _,aa _,aj,aj,aj,aj] rfl rfl ?_ rfl rfl;simp_arith[Ow,iG,e,h3,DN]
 .rw[hs];refine gm [aa _,aa _,aa _,aj,aj,aj,aj] rfl rfl ?_ rfl rfl;simp_arith[Ow,iG,e,DN]
theorem asl(D:α->az)(x:α)(h:n∉l.map (·.1)):pU fO (.inl n) (.int n) (D x) (mG D l)=mG D (l++[(n,x)]):=by
 unfold pU;rw[cC]
 .unfold mG
  grind
 .simp only[mG,List.any_map,acA,Function.comp,decide_eq_true_eq,not_exists,not_and];intro y a k;injection k with k
  grind
theorem aeV:∀(ws bu:List Wy),((bu++ws).map (·.1)).Nodup->bu.length+ws.length<=1000->uK (.many 3) dU Ws Wt [] (ws.map wD) (mG uX bu) C=aa (mG uX (bu++ws),C)
 |[],bu,_,_=>by rw[jg];rfl
 |w::ws,bu,nd,hl=>by
  rw[eZ] at hl;have b:=λm=>by
   rw[kj] at nd
   exact(qF.mp nd).2.2 _ m _ fV rfl
  have a:uK _ _ _ _ _ _ _ C=_:=aeV ws (bu++[w]) (by rwa [ie]) (by rw[fW];show _+1+_<=_;lia);have q:((mG uX bu).length<1000000)=True:=eq_true (by unfold mG;rw[bR];lia);have d:=asl uX w.2 b;rw[ie] at a;have a:uK _ _ _ _ [] _ _ C=aa (mG _ (bu++w::ws),C):=a;rw[dN,uK];have kd:fO (.int w.1)=aa _:=rfl;have c:yr (.many 3) (wD w)=aa _:=rfl;simp only[c];simp_arith[gK,jg,dU,kd,q,d,a]
end
def ajj(ws:List Wy)(side:Prop)[Decidable side](h s:Str)(xs:028):Bool:=!decide side&&(decide xs.Nodup&&(if h=s then decide (xs=[]) else decide (xX ws h xs=aa s)))
theorem eq_str(x y:Str):j5 (.str x) (.str y)=aa (.im (.bool (decide (x=y)))):=rfl
theorem asm(o:Option Str)(hs:nameB s=aq):j5 (DN o) (.str s)=aa (.im (.bool (decide (o=aa s)))):=by
 cases o with
 |none=>
  have a:jk (.str s)=aq:=by
   unfold jk;simp only[yI,CJ hs];rfl
  show(if iK _&&iK _&&(jk _&&jk _) then aa _ else aj).map _=_
  rw[a];rfl
 |some x=>
  rw[DN,eq_str];simp_all
theorem aoW(hG:qb zs ps ht)(a:014)(n aP:Int)(a1 b1:Str):((iC ht a n aP a1 b1).map (·.1)).Nodup:=by
 unfold iC;rw[dJ];exact hG.T6.sublist (List.filter_sublist.map _)
theorem avJ(ws:List Wy):pW (mG uX ws)=aq:=by
 induction ws with
 |nil=>rfl
 |cons w ws ih=>trivial
theorem aqo(hN:054)(hP:iU zs ps)(hG:qb zs ps ht)(z a1 b1:Str)(n aP:Int)(h s:Str)(xs:028)(hl:xs.length<=60)(ns:nameB s=aq):
  CW [.im (kE ht),.im (cJ z a1 b1 n),.im (.str h),.im (.str s),.im (.int aP),.im (.list (xs.map .int))] C=aa (.im (.bool (ajj (iC ht 022 n aP a1 b1) ((h=a1\/h=b1)\/(s=a1\/s=b1)) h s xs)),C):=by
 have s1:=Dh (C:=C) (z:=z) (a1:=a1) (b1:=b1) (n:=n) (p:=h);have a:=Dh (C:=C) (z:=z) (a1:=a1) (b1:=b1) (n:=n) (p:=s);have un:=aoV (C:=C) hl;have es:=eq_str h s;have l:j5 (.list (xs.map .int)) (.list [])=aa (.im (.bool (decide (xs=[])))):=by
  have:=aqm xs [];unfold j5;rw[show(.list []:az)=.list (([]:List Int).map .int) from rfl,this];rfl
 have w:=RJ (C:=C) hN hP hG z a1 b1 n aP;have j:=Ah hG 022 n aP a1 b1;have i:=aoW hG 022 n aP a1 b1;generalize iC ht 022 n aP a1 b1=ws at w j i;have c:=aeV (C:=C) ws [] i (by show 0+_<=_;lia);have c:uK (.many 3) dU Ws Wt [] (ws.map wD) [] C=aa (mG uX ws,C):=c;have t:=aqn (C:=C) (ws:=ws) xs h;have b:=asm (xX ws h xs) ns;have nl:=avJ ws;unfold ajj;refine gm [aa (.im (kE ht)),aa 06,aa (000 h),aa (000 s),aa (00 aP),aa (.im (.list (xs.map .int))),aj] rfl rfl ?_ rfl rfl;by_cases h1:h=a1\/h=b1
 .rw[f9 h1] at s1;rw[f9 (.inl h1:(h=a1\/h=b1)\/(s=a1\/s=b1))];simp_arith[Ag,s1,adi,adb]
 rw[jz h1] at s1;by_cases h2:s=a1\/s=b1
 .rw[f9 h2] at a;rw[f9 (.inr h2:(h=a1\/h=b1)\/(s=a1\/s=b1))];simp_arith[Ag,s1,a,adi,adb]
 rw[jz h2] at a;rw[jz (λk=>k.elim h1 h2)];by_cases g:xs.Nodup
 .rw[f9 g] at un;rw[f9 g];by_cases d:h=s
  .rw[f9 d] at es;rw[bZ d];simp_arith[Ag,s1,a,un,es,l,Vx,Oe]
  .rw[jz d] at es;rw[cC d];generalize xX ws h xs=o at t b⊢;cases o with
   |none=>
    simp only[DN] at t b;have m:∀e f:En,rst (.im .none) e f=e:=λ_ _=>rfl
    simp_arith[m,Ag,s1,a,un,es,w,wJ,Bv,frB,c,nl,t,b,Vx,Oe]
   |some o=>
    simp only[DN] at t b;simp_arith[Ag,s1,a,un,es,w,wJ,Bv,frB,c,nl,t,b,Vx,Oe]
 .rw[jz g] at un;rw[jz g];simp_arith[Ag,s1,a,un,Vx,Oe,adb]
def Bp(st:019)(z:Str)(v:Int):List (Str×Int):=if z∈st.map (·.1) then st.map (λx=>if x.1=z then(z,v) else x) else st++[(z,v)]
theorem ahf:∀st:List (Str×Int),dm (st.map λx=>if x.1=z then(z,v) else x) p=if z=p then(dm st p).map λ_=>v else dm st p
 |[]=>by
  split<;>rfl
 |x::st=>by
  rw[dN,QV,QV,ahf st]
  grind
theorem Ys(st:019)(z p:Str)(v:Int):dm (Bp st z v) p=if z=p then aa v else dm st p:=by
 unfold Bp;split
 .rename_i h;rw[ahf];by_cases e:z=p
  .subst e;cases k:dm st z with
   |none=>exact absurd h (rQ.mp k)
   |some w=>rfl
  lia
 .have:=J9 st [z] v p;rw[dN,rN] at this;rw[this];by_cases e:z=p
  .grind
  .split
   .rfl
   .rename_i k;rw[cC (λm=>e (jU.mp m).symm),rQ.mpr k]
theorem aqp(st:019)(z:Str)(v:Int):(Bp st z v).length<=st.length+1:=by
 unfold Bp
 grind
theorem auz(st:019)(z:Str)(v:Int):putD (bI (stL st)) (.str z) (.int v)=aa (bI (stL (Bp st z v))):=by
 have ks:(stL st).map (·.1)=st.map (·.1):=by
  unfold stL;rw[dJ];rfl
 by_cases h:z∈st.map (·.1)
 .show(if(cO _ _).isSome then aa _ else aj)=_
  rw[CV];refine congrArg aa ?_;unfold pU Bp;rw[bZ h,bZ]
  .unfold bI stL;rw[dJ,dJ,dJ,dJ];refine wR λx _=>?_
   by_cases e:x.1=z
   .simp[yU,e]
   .simp[yU,e]
  .obtain⟨x,a,e⟩:=dG.mp h
   refine acA.mpr #[_,dG.mpr #[_,dG.mpr #[x,a,rfl],rfl],f9 ((yU _ _).mpr e)]
 .rw[QS 07];unfold Bp stL
  grind
def zX(i j:Int):Int:=if j>i then j else i
def tX(i j:Int):Int:=if j<i then j else i
theorem aii(i j:Int):tX i j<=i/\tX i j<=j/\∀n,n<=i->n<=j->n<=tX i j:=by unfold tX;grind
theorem RK(i j:Int):i<=zX i j/\j<=zX i j/\(zX i j=i\/zX i j=j):=by unfold zX;grind
def ou(f:019)(r:cY):List (Str×Int):=match dm f r.2.1 with
 |none=>f
 |some v=>Bp f r.2.2.1 (zX ((dm f r.2.2.1).getD (-1)) (tX v r.2.2.2.2.2.2))
def xY(lv:055):Nat->List (Str×Int)->List (Str×Int)
 |0,f=>f
 |n+1,f=>xY lv n (lv.foldl ou f)
def Up(f g:019):Prop:=∀x v,dm f x=aa v->∃w,dm g x=aa w/\v<=w
theorem Up.refl(f:019):Up f f:=λx v h=>#[v,h,Fy _]
theorem Up.trans(a:Up f g)(b:Up g h):Up f h:=λx v e=>by
 obtain⟨w,e1,c⟩:=a x v e
 obtain⟨u,e2,d⟩:=b x w e1
 grind
theorem aeW(f:019)(r:cY):(ou f r).length<=f.length+1:=by
 unfold ou;split
 .grind
 .exact aqp _ _ _
theorem afW:∀(lv:055)(f:019),(lv.foldl ou f).length<=f.length+lv.length
 |[],_=>cH _
 |r::lv,f=>by
  have:=afW lv (ou f r);have:=aeW f r
  grind
theorem afX(f:019)(r:cY):Up f (ou f r):=by
 unfold ou;split
 .exact Up.refl f
 .intro x w a;rw[Ys];by_cases e:r.2.2.1=x
  .rw[bZ e,e,a]
   exact#[_,rfl,(RK _ _).1]
  grind
theorem Zj:∀(lv:055)(f:019),Up f (lv.foldl ou f)
 |[],f=>Up.refl f
 |r::lv,f=>(afX f r).trans (Zj lv _)
theorem ahg(lv:055):∀(n:Nat)(f:019),Up f (xY lv n f)
 |0,f=>Up.refl f
 |n+1,f=>(Zj lv f).trans (ahg lv n _)
theorem afY(h1:n<=v)(h2:n<=r.2.2.2.2.2.2):∀{lv:055}{f:019},r∈lv->dm f r.2.1=aa v->∃w,dm (lv.foldl ou f) r.2.2.1=aa w/\n<=w
 |q::lv,f,a,hg=>by
  rw[z7];by_cases c:r=q
  .have:dm (ou f r) r.2.2.1=aa (zX ((dm f r.2.2.1).getD (-1)) (tX v r.2.2.2.2.2.2)):=by
    unfold ou;rw[hg];rw[Ys,bZ rfl]
   obtain⟨w,e,l⟩:=Zj lv _ _ _ this
   have:=(aii v _).2.2 n h1 h2;have:=(RK ((dm f r.2.2.1).getD (-1)) (tX v r.2.2.2.2.2.2)).2.1
   grind
  .have a:=(cB.mp a).resolve_left c
   obtain⟨w,e,l⟩:=afX f q _ _ hg
   exact afY (O1 h1 l) h2 a e
theorem aqq(b:∀w∈ws,∃r∈lv,n<=r.2.2.2.2.2.2/\uP r=w)(g:iQ ws a p x):∀{k:Nat}{f:019}{v:Int},dm f a=aa v->n<=v->p.length<=k->∃w,dm (xY lv k f) x=aa w/\n<=w:=by
 induction g with
 |nil _=>
  intro k f v h l _
  obtain⟨w,e,m⟩:=ahg lv k f _ _ h
  grind
 |cons h1 _ ih=>
  intro k f v h l hl;cases k with
  |zero=>grind
  |succ k=>
   refine hide λGG c=>?_
   obtain⟨r,i,j,e⟩:=b _ h1
   injection e with e1 e2
   injection e2 with e2 e3
   obtain⟨w,o,d⟩:=afY l j i (by rwa [e2])
   exact c (ih (k:=k) (by lia) d (akx hl))
def jE(W:Int->List (Int×Str×Str))(h:Str)(f:019):Prop:=∀x v,dm f x=aa v->0<=v/\v<=1000000000/\rG (W v) h x
theorem aqr(hd:∀n m,n<=m->∀w∈W m,w∈W n)(t:0<=r.2.2.2.2.2.2)(q:∀n,n<=r.2.2.2.2.2.2->uP r∈W n)(H:jE W h f):jE W h (ou f r):=by
 unfold ou;split
 .exact H
 .rename_i v c;intro x w a;rw[Ys] at a;by_cases e:r.2.2.1=x
  .rw[bZ e] at a;have a:=nO a
   obtain⟨j,u,p,l⟩:=H _ _ c
   obtain⟨g,d,i⟩:=aii v _
   have s:=i 0 j t;have b:0<=tX v _/\tX v r.2.2.2.2.2.2<=1000000000/\rG _ h x:=#[s,aK,_,by rw[<-e];exact(afT (hd _ _ g) l).snoc (q _ d)]
   cases ho:dm f _ with
   |none=>
    rw[ho] at a;have:w=tX v r.2.2.2.2.2.2:=by
     have:=(RK (-1) (tX v r.2.2.2.2.2.2)).2
     grind
    lia
   |some o=>
    rw[ho] at a
    rcases(RK o _).2.2 with k|k
    .have:w=o:=by rwa [<-a]
     rw[this];rw[e] at ho;exact H x o ho
    grind
  .rw[cC e] at a;exact H x w a
theorem ahh(hd:∀n m,n<=m->∀w∈W m,w∈W n):∀{lv:055}{f:019},(∀r∈lv,0<=r.2.2.2.2.2.2/\∀n,n<=r.2.2.2.2.2.2->uP r∈W n)->jE W h f->jE W h (lv.foldl ou f)
 |[],_,_,H=>H
 |r::lv,f,hr,H=>ahh hd (lv:=lv) (λq a=>hr q (fU _ a)) (aqr hd (hr r fV).1 (hr r fV).2 H)
theorem ahi(hd:∀n m,n<=m->∀w∈W m,w∈W n)(a:∀r∈lv,0<=r.2.2.2.2.2.2/\∀n,n<=r.2.2.2.2.2.2->uP r∈W n):∀{n:Nat}{f:019},jE W h f->jE W h (xY lv n f)
 |0,_,H=>H
 |n+1,_,H=>ahi hd a (n:=n) (ahh hd a H)
theorem aad:n6 (bI (stL st)) (.str z)=aa ((dm st z).map .int):=Rh st z
theorem mn2(i j:Int):sZ [.int i,.int j]=aa (00 (tX i j)):=rfl
theorem mx2(i j:Int):xO [.int i,.int j]=aa (00 (zX i j)):=rfl
section
variable{v0 v1 v2 v3 v4 v6:Option Vl}
theorem afZ{v7:032}:∀(lv:055)(f:019)(v8:032),f.length+lv.length<=1000->∃d,iY (dM 8) Jd (lv.map bU) [v0,v1,v2,v3,v4,aa (.ow (.dict (bI (stL f)))),v6,v7,v8] C=
  aa (.nx,[v0,v1,v2,v3,v4,aa (011 (stL (lv.foldl ou f))),v6,v7,d],C)
 |[],f,v8,_=>#[v8,rfl]
 |r::lv,f,v8,hl=>by
  rw[eZ] at hl;have sl:=aeW f r
  obtain⟨d,e⟩:=afZ (v7:=v7) lv (ou f r) _ aK
  refine#[d,?_]
  have q:((bI (stL f)).length<1000000)=True:=eq_true (by unfold bI stL;rw[bR,bR];lia);rw[z7,<-e];have run:∀g,Jd [v0,v1,v2,v3,v4,aa (.ow (.dict (bI (stL f)))),v6,v7,aa (.im (bU r))] C=aa (.nx,[v0,v1,v2,v3,v4,aa (011 (stL g)),v6,v7,aa (.im (bU r))],C)->iY (dM 8) Jd (bU r::lv.map bU) [v0,v1,v2,v3,v4,aa (011 (stL f)),v6,v7,v8] C=iY (dM 8) Jd (lv.map bU) [v0,v1,v2,v3,v4,aa (011 (stL g)),v6,v7,aa (.im (bU r))] C:=λg h=>by
   rw[iY];simp only[dM,Nf,acg,h]
  refine run _ ?_;unfold ou;simp only[bU];cases hg:dm f r.2.1 with
  |none=>
   have c:=jz (rQ.mp hg);simp_arith[Ld,c]
  |some v=>
   have c:decide (r.2.1∈f.map (·.1))=aq:=by rw[<-Lb,hg];rfl
   have i:=aaA hg;have p1:=auz f r.2.2.1 (zX ((dm f r.2.2.1).getD (-1)) (tX v r.2.2.2.2.2.2));cases ht:dm f r.2.2.1 with
   |none=>
    have a:=aad (st:=f) (z:=r.2.2.1);rw[ht] at a p1;have b:(DG (aG (aW (.int 1)))) [v0,v1,v2,v3,v4,aa (.ow (.dict (bI (stL f)))),v6,v7,aa (.im (bU r))] C=aa _:=rfl;simp only[bU,Nk] at b p1;simp_arith[Ld,c,qm,rm,b,a,Vp,i,uI,p1,q,mn2,mx2,Nk]
   |some o=>
    have a:=aad (st:=f) (z:=r.2.2.1);rw[ht] at a p1;have b:(DG (aG (aW (.int 1)))) [v0,v1,v2,v3,v4,aa (.ow (.dict (bI (stL f)))),v6,v7,aa (.im (bU r))] C=aa _:=rfl;simp only[bU,IW] at b p1;simp_arith[Ld,c,qm,rm,b,a,i,uI,p1,q,mn2,mx2,IW]
end
theorem aeX{v0 v1 v2 v3 v4:032}(g:053):∀(aN:036)(f:019)(a:Vl)(v7 v8:032),a=.ow 013\/a=.im 013->f.length+16*aN.length<=900->∃c e b,iY (dM 7) acR aN [v0,v1,v2,v3,v4,aa (.ow (.dict (bI (stL f)))),aa a,v7,v8] C=
  aa (.nx,[v0,v1,v2,v3,v4,aa (011 (stL (xY lv aN.length f))),c,e,b],C)
 |[],f,a,v7,v8,_,_=>#[_,v7,v8,rfl]
 |d::aN,f,a,v7,v8,hv,hl=>by
  rw[eZ] at hl;have i:=afW lv f
  obtain⟨h,e1⟩:=afZ (C:=C) (v0:=v0) (v1:=v1) (v2:=v2) (v3:=v3) (v4:=v4) (v6:=aa (.im 013)) (v7:=aa (.im d)) lv f v8 aK
  obtain⟨c,e,b,e2⟩:=aeX g aN (lv.foldl ou f) _ (aa (.im d)) h (.inr rfl) aK
  refine#[c,e,b,?_]
  rw[eZ,xY,<-e2,iY];rcases hv with rfl|rfl
  .simp_arith[iG,e1]
  .simp_arith[iG,e1]
theorem af0(lv:055):∀k,xY lv k []=[]
 |0=>rfl
 |k+1=>by
  have:∀l:List _,l.foldl ou []=[]:=λl=>by
   induction l with
   |nil=>rfl
   |cons r l ih=>rwa [z7]
  rw[xY,this,af0 lv k]
theorem aoX(ht:oV)(b:014)(aP:Int)(a1 b1:Str):∀n m,n<=m->∀w∈iC ht b m aP a1 b1,w∈iC ht b n aP a1 b1:=λn m l w d=>by
 obtain⟨r,e,rfl⟩:=dG.mp d
 obtain⟨c,a⟩:=lK.mp e
 exact dG.mpr #[r,lK.mpr #[c,JT a (O1 l (Kz a))],rfl]
theorem af1{a:014}{n aP:Int}(hs:¬(h=a1\/h=b1))(R:rG (iC ht a n aP a1 b1) h s):¬(s=a1\/s=b1):=by
 obtain⟨p,c⟩:=R
 have:=c.Kr;generalize p.reverse=d at this;cases this with
 |nil=>trivial
 |cons hw _=>
  obtain⟨r,b,e⟩:=dG.mp (JM.mp hw)
  injection e with e1 e2
  injection e2 with e2 e3
  rw[<-e3];exact aeS (lK.mp b).2
theorem anP{C:Ce}(hG:qb zs ps #[ps',[],lv,[]])(a:014)(aP:Int)(a1 b1 h s:Str):
  Dq (Rn #[ps',[],lv,[]] a aP a1 b1 h s) (dm (xY (lv.filter (lF a 0 aP a1 b1)) (lv.filter (lF a 0 aP a1 b1)).length (if h=a1\/h=b1 then[] else[(h,1000000000)])) s):=by
 by_cases c:h=a1\/h=b1
 .rw[bZ c,af0];exact λn _ _ R=>R.1 (.inl c)
 rw[cC c];have T0:jE (λn=>iC #[ps',[],lv,[]] a n aP a1 b1) h [(h,1000000000)]:=λx v e=>by
  rw[QV] at e;split at e
  .rename_i k;cases e
   exact#[Wf (show(0)<1000000000 by decide),Fy _,[],by rw[<-k];exact .nil _]
  .cases e
 have T:=ahi (aoX _ a _ a1 b1) (lv:=lv.filter (lF a 0 _ a1 b1)) (λr g=>by
  obtain⟨d,b⟩:=lK.mp g
  exact⟨(hG.leaves r d).most.1,λn l=>dG.mpr ⟨r,lK.mpr ⟨d,JT b l⟩,rfl⟩⟩) (n:=(lv.filter (lF a 0 aP a1 b1)).length) T0
 have big:∀n,0<=n->n<=1000000000->rG _ h s->∃w,dm (xY (lv.filter (lF a 0 aP a1 b1)) _ [(h,1000000000)]) s=aa w/\n<=w:=λn f n1 R=>by
  have z:=Ah hG a n aP a1 b1
  obtain⟨st,_,B⟩:=JR (C:=C) (ws:=(iC _ a n _ a1 b1).map sy) (by rwa [bR])
  obtain⟨p,t,o⟩:=B.Yi R
  have q:(iC #[ps',[],lv,[]] a n aP a1 b1).length<=(lv.filter (lF a 0 aP a1 b1)).length:=by
   unfold iC;rw[bR,<-aj9,<-aj9];exact List.countP_mono_left λr _ k=>JT k (O1 f (Kz k))
  refine aqq (λw j=>?_) t (by rw[QV,bZ rfl]) n1 (jw o q)
  obtain⟨r,g,e⟩:=dG.mp j
  obtain⟨d,b⟩:=lK.mp g
  exact#[r,lK.mpr #[d,JT b (O1 f (Kz b))],Kz b,e]
 cases e:dm _ s with
 |none=>
  intro n f n1 R
  obtain⟨w,e2,_⟩:=big n f n1 R.2
  grind
 |some v=>
  obtain⟨m,u,i⟩:=T s v e
  refine#[#[m,u],#[λk=>k.elim c (af1 c i),i],λn l n1 R=>?_]
  obtain⟨w,e2,y⟩:=big n aK n1 R.2
  grind
theorem asn(l:055)(v0 v1 v2 v3 v4 v5:032):aG (dz jY (cM (aM 6) dw)) [v0,v1,v2,v3,v4,v5,aa (005 (l.map bU)),aj,aj] C=aa (.int ((l.map bU).length:Int),[v0,v1,v2,v3,v4,v5,aa (005 (l.map bU)),aj,aj],C):=rfl
theorem aoY(hN:054)(hP:iU zs ps)(f:ps.length<=8)(z a1 b1:Str)(n aP:Int)(lv:055):jy .one Nu Nv [aa (.im 008),aa 06,aa (00 aP)] (lv.map bU) C=aa ((lv.filter (lF 022 0 aP a1 b1)).map bU,C):=by
 have g:mQ [gR z,.int n,.str a1,.str b1] (aa 2) aj=[.str a1,.str b1]:=rfl;have e:∀a b c d,cZ (.tuple [a,b]) (.tuple [c,d])=aa _:=λ_ _ _ _=>R0 (BK rfl)
 refine oN _ _ _ λr _=>#[_,rfl,?_,λ_=>#[_,_,rfl,rfl]]
 have q:=ag8 (C:=C) hN hP f z a1 b1 0 aP r;simp_arith[gK,m8,lN,gC,fQ,jc,m6,g,e,q]
theorem aso{C:Ce}{n aP:Int}{lv l:055}(c:jy .one Nu Nv [aa (.im 008),aa 06,aa (00 aP)] (lv.map bU) C=aa (l.map bU,C))(a:l.length<=16)(v5:032):cP 6 (gM (iB (aM 1)) .one Nu Nv [0,2,4]) [aa (.im 008),aa (.im 013),aa 06,aa (000 h),aa (00 aP),v5,aj,aj,aj] C=aa (.nx,[aa (.im 008),aa (.im 013),aa 06,aa (000 h),aa (00 aP),v5,aa (005 (l.map bU)),aj,aj],C):=by
 have q:(l.length<=1000000)=True:=eqT;have nl:=CN l;simp_arith[c,q,nl]
theorem aoZ(hN:054)(hP:iU zs ps)(hG:qb zs ps #[ps',[],lv,[]])(z a1 b1:Str)(n aP:Int)(h:Str):
  ∃f:List (Str×Int),Oz [.im (.dict (bI (cD ps))),.im (.list (lv.map bU)),.im (cJ z a1 b1 n),.im (.str h),.im (.int aP)] C=aa (.ow (.dict (bI (stL f))),C)/\∀s,Dq (Rn #[ps',[],lv,[]] (up ps z) aP a1 b1 h s) (dm f s):=by
 refine hide λGG m=>?_
 have A:=hG.p8;have B:053:=hG.jd;have y:mQ [gR z,.int n,.str a1,.str b1] (aa 2) aj=[.str a1,.str b1]:=rfl;have d:pH (.str h) (.tuple [.str a1,.str b1])=aa (.im (.bool (!decide (h=a1\/h=b1)))):=by
  have:=Hq h a1 b1;unfold lC at this;unfold pH;cases hh:inB (.str h) (.tuple [.str a1,.str b1]) with
  |none=>rw[hh] at this;cases this
  |some v=>rw[hh] at this;cases this;rfl
 have D:uE (.int 10) (.int 9)=aa (00 1000000000):=rfl;have kd:fO (.str h)=aa (.inr h):=rfl
 obtain⟨l,lE⟩:∃l,l=lv.filter (lF 022 0 aP a1 b1):=05
 have o:l.length<=16:=by rw[lE];exact jw (zZ _ _) B
 have c:=aoY (C:=C) hN hP A z a1 b1 n aP lv;rw[<-lE] at c;have nl:=CN l;have a:=λs=>anP (C:=C) hG 022 aP a1 b1 h s
 rw[<-lE] at a;have E:(lU 0 l.length).length=l.length:=by simp[lU]
 have k:=aso (h:=h) c o
 obtain⟨b,q,t⟩:∃b:List az,b.length=l.length/\∀v5:Option Vl,mR (aG (dz jY (cM (aM 6) dw))) [aa (.im (.dict (bI (cD ps)))),aa (.im (.list (lv.map bU))),aa (.im (cJ z a1 b1 n)),aa (.im (.str h)),aa (.im (.int aP)),v5,aa (.ow (.list (l.map bU))),aj,aj] C=aa (b,[aa (.im 008),aa (.im 013),aa 06,aa (000 h),aa (00 aP),v5,aa (005 (l.map bU)),aj,aj],C):=(#[lU 0 (Int.toNat ((l.map bU).length:Int)),by rw[Er,bR];exact E,λv5=>aac (asn l _ _ _ _ _ v5) aK (by rw[bR];lia)])
 have go:∀i:List (Str×Int),i.length<=1->∃w x u,_:=λi F=>aeX (C:=C) (v0:=aa (.im 008)) (v1:=aa (.im 013)) (v2:=aa 06) (v3:=aa (000 h)) (v4:=aa (00 aP)) o b i (005 (l.map bU)) aj aj 038 (by rw[q];lia)
 rw[q] at go;by_cases h1:h=a1\/h=b1
 .simp only[bZ h1] at a;rw[f9 h1] at d
  obtain⟨w,x,u,e1⟩:=go [] (lO _)
  have j:bI (stL [])=[]:=rfl;rw[j] at e1;refine m #[_,gm _ rfl rfl ?_ rfl rfl,a];have e:cP 5 (q9 (dR (aX pH (aM 3) (aG (gC (aM 2) (fQ (aG (aW (.int 2)))) jc)))) (xV (aM 3) (aX uE (aG (aW (.int 10))) (aG (aW (.int 9))))) vJ) [aa (.im (.dict (bI (cD ps)))),aa (.im (.list (lv.map bU))),aa (.im (cJ z a1 b1 n)),aa (.im (.str h)),aa (.im (.int aP)),aj,aj,aj,aj] C=aa (.nx,[aa (.im 008),aa (.im 013),aa 06,aa (000 h),aa (00 aP),aa (.ow (.dict [])),aj,aj,aj],C):=by
   simp_arith[gC,fQ,jc,m6,y,d,vJ]
  have r:=(oW e).trans ((oW (k _)).trans (oW (g:=oh 5) ((Ky (t _)).trans e1)));exact congrArg (ael λp=>(p.1,p.2.2)) r
 .simp only[cC h1] at a;rw[jz h1] at d
  obtain⟨w,x,u,e1⟩:=go [(h,1000000000)] 046
  have j:bI (stL [(h,1000000000)])=[(.str h,.int 1000000000)]:=rfl;rw[j] at e1;refine m #[_,gm _ rfl rfl ?_ rfl rfl,a];have e:cP 5 (q9 (dR (aX pH (aM 3) (aG (gC (aM 2) (fQ (aG (aW (.int 2)))) jc)))) (xV (aM 3) (aX uE (aG (aW (.int 10))) (aG (aW (.int 9))))) vJ) [aa (.im (.dict (bI (cD ps)))),aa (.im (.list (lv.map bU))),aa (.im (cJ z a1 b1 n)),aa (.im (.str h)),aa (.im (.int aP)),aj,aj,aj,aj] C=aa (.nx,[aa (.im 008),aa (.im 013),aa 06,aa (000 h),aa (00 aP),aa (.ow (.dict [(.str h,.int 1000000000)])),aj,aj,aj],C):=by
   simp_arith[gC,fQ,jc,m6,y,d,xV,D,kd]
  have r:=(oW e).trans ((oW (k _)).trans (oW (g:=oh 5) ((Ky (t _)).trans e1)));exact congrArg (ael λp=>(p.1,p.2.2)) r
def tO(ws:List Wy)(k:Int):List Wy:=ws.filter λw=>!(w.1==k)
theorem Zk:w∈tO ws k↔w∈ws/\w.1≠k:=by
 unfold tO;simp
theorem ahj{ws:List Wy}{k:Int}(h:iQ ws a r b):k∉r->iQ (tO ws k) a r b:=by
 induction h with
 |nil p=>exact λ_=>.nil p
 |cons hw _ ih=>exact λm=>.cons (Zk.mpr #[hw,λe=>m 07]) (ih λz=>m (fU _ z))
theorem ahk{ws:List Wy}(h:iQ ws a r b):∀k∈r,k∈ws.map (·.1):=by
 induction h with
 |nil _=>grind
 |cons hw _ ih=>
  grind
theorem aeY{ws:List Wy}{b:Str}:∀{c:028}{a:Str},iQ ws a (c++n::l2) b->∃x y,(n,x,y)∈ws/\iQ ws y l2 b
 |[],a,h=>by
  cases h with
  |cons hw hr=>grind
 |k::c,a,h=>by
  cases h with
  |cons hw hr=>exact aeY hr
theorem ao0{ws:List Wy}(j:∀w∈ws,∀w'∈ws,w.1=w'.1->w=w')(h:iQ ws a r b):∃r',iQ ws a r' b/\r'.Nodup/\r'.length<=r.length/\(r'.length=r.length->r'=r):=by
 induction h with
 |nil p=>exact#[[],.nil p,qG,cH _,λ_=>rfl]
 |cons hw _ ih=>
  rename_i n p q s r _;refine hide λGG f=>?_
  obtain⟨l,g,d,i,eq⟩:=ih
  by_cases m:n∈l
  .obtain⟨t,o,rfl⟩:=List.append_of_mem m
   obtain⟨x,y,c,h2⟩:=aeY g
   have e:=j _ hw _ c rfl;injection e with _ e
   injection e with e1 e2
   subst e1 e2;refine f (#[_,.cons hw h2,(qF.mp d).2.1,?_,λk=>?_])
   .grind
   grind
  .refine f (#[_,.cons hw g,lM.mpr #[m,d],Vb i,λk=>?_])
   grind
theorem Zm{C:Ce}{ws:List Wy}(hl:ws.length<=60)(b:∀w∈ws,∀w'∈ws,w.1=w'.1->w=w')(R:qW ws h s r):r.length<=60/\r.Nodup:=by
 obtain⟨st,_,B⟩:=JR (C:=C) (ws:=ws.map _) 07
 obtain⟨p,a,c⟩:=B.Yi #[r,R.1]
 obtain⟨r',h1,h2,d,e⟩:=ao0 b R.1
 have:r.length<=r'.length:=by rcases R.2 r' h1 with k|k<;>lia
 refine#[by rcases R.2 p a with k|k<;>lia,?_]
 grind
theorem ao1(c:l.Nodup):(jL ltI l).Pairwise (·<·):=by
 have h1:=Gp SX (l:=l) λ_ _=>trivial
 have h2:(jL ltI l).Nodup:=(qJ l).nodup_iff.mpr c
 refine(h1.and h2).imp λ{a b} h=>?_
 have:=h.1;have:=of_decide_eq_false this;lia
theorem aij{l m:028}(h1:l.Pairwise (·<·))(h2:m.Pairwise (·<·))(h:∀k,k∈l↔k∈m):l=m:=by
 have p:=aeH (h1.imp λh=>Wg h) (h2.imp λh=>Wg h) h
 exact(sortI p (h1.imp λh=>Wf h)).trans (sortI (Je m) (h2.imp λh=>Wf h)).symm
theorem asp(hl:ws.length<=60)(f:∀w∈ws,∀a∈ws,w.1=a.1->w=a)(h s:Str)(k:Int):∃b,Jt [.im (.list (ws.map wD)),.im (.int k),.im (.str h),.im (.str s)] C=aa (.im (.bool b),C)/\(b=aq↔¬rG (tO ws k) h s):=by
 have c:=oN (T:=.one) (ft:=ac5) (fe:=ac6) (fs:=[aa (00 k)]) (C:=C) wD _ wD (l:=ws) λw _=>#[_,rfl,rfl,λ_=>#[_,_,rfl,rfl]]
 have c:jy _ _ _ _ _ C=aa ((tO ws k).map wD,C):=c;have g:(tO ws k).length<=60:=jw (zZ _ _) hl
 obtain⟨o,e,R⟩:=afP (C:=C) g λw m a d=>f w (Zk.mp m).1 a (Zk.mp d).1
 have q:((tO ws k).length<=1000000)=True:=eqT;have nl:gJ ((tO ws k).map wD)=aq:=Kw (λ_=>rfl) _;cases o with
 |none=>
  refine#[_,gm [aa _,aa _,aa _,aa _,aj] rfl rfl ?_ rfl rfl,iff_of_true rfl λ⟨r,p⟩=>R r p]
  simp only[oE] at e;simp_arith[O8,c,q,nl,e,qR,isNone]
 |some r=>
  refine#[_,gm [aa _,aa _,aa _,aa _,aj] rfl rfl ?_ rfl rfl,iff_of_false kY λn=>n #[r,R.1]]
  simp only[oE] at e;simp_arith[O8,c,q,nl,e,qR,isNone]
def Cut(ws:List Wy)(a1 b1 h s:Str)(k:Int):Prop:=¬((h=a1\/h=b1)\/(s=a1\/s=b1))/\rG ws h s/\¬rG (tO ws k) h s
theorem Cut.num(c:Cut ws a1 b1 h s k):k∈ws.map (·.1):=by
 obtain⟨_,⟨r,a⟩,n⟩:=c
 by_cases m:k∈r
 .exact ahk a k m
 .exact absurd #[r,ahj a m] n
open Classical in
theorem Yt(hN:054)(hP:iU zs ps)(hG:qb zs ps ht)(z a1 b1:Str)(n aP:Int)(h s:Str):
  ∃xs:List Int,z8 [.im (kE ht),.im (cJ z a1 b1 n),.im (.str h),.im (.str s),.im (.int aP)] C=aa (.ow (.list (xs.map .int)),C)/\xs.length<=60/\xs.Pairwise (·<·)/\∀k,k∈xs↔Cut (iC ht (up ps z) n aP a1 b1) a1 b1 h s k:=by
 obtain⟨o,e1,v,g⟩:=JS (C:=C) hN hP hG z a1 b1 n aP h s
 have w:=RJ (C:=C) hN hP hG z a1 b1 n aP;have d:=Ah hG 022 n aP a1 b1;have f:=Pj hG 022 n aP a1 b1;generalize iC ht 022 n aP a1 b1=ws at g w d f;refine hide λGG j=>?_
 cases o with
 |none=>
  refine j (#[[],gm [aa _,aa _,aa (000 h),aa (000 s),aa _,aj,aj] rfl rfl ?_ rfl rfl,lO _,BW,λk=>iff_of_false nM λc=>?_])
  .simp only[oE] at e1;simp_arith[Nt,e1,qR,isNone]
  .obtain⟨r,x⟩:=c.2.1
   exact g c.1 r x
 |some r=>
  have ns:¬((h=a1\/h=b1)\/(s=a1\/s=b1)):=λk=>nomatch v k
  have R:=g ns
  obtain⟨B,A⟩:=Zm (C:=C) d f R
  have p:=aeU r aK;have u:∀k,Jt _ C=aa (.im (.bool (decide _)),C):=λk=>by
   obtain⟨b,e,i⟩:=asp (C:=C) d f h s k
   rw[e];cases b with
   |true=>rw[f9 (i.mp rfl)]
   |false=>rw[jz λz=>kY (i.mpr z)]
  have c:=oN (T:=.one) (ft:=acd) (fe:=ace) (fs:=[aa (.im (.list (ws.map wD))),aa (000 h),aa (000 s)]) (C:=C) kZ (λk=>decide (¬rG (tO ws k) h s)) kZ (l:=jL ltI r) λk _=>#[[.int k],rfl,by have:=u k;simp_arith[gK,m8,lN,this],λ_=>#[.im (.int k),_,rfl,rfl]]
  obtain⟨xs,a⟩:∃xs,xs=(jL ltI r).filter λk=>decide (¬rG (tO ws k) h s):=05
  rw[<-a] at c;have t:xs.length<=60:=by rw[a];exact jw (zZ _ _) (by rwa [(qJ r).length_eq])
  have q:(xs.length<=1000000)=True:=eqT;refine j (#[xs,gm [aa _,aa _,aa (000 h),aa (000 s),aa (00 aP),aj,aj] rfl rfl ?_ rfl rfl,t,?_,λk=>?_])
  .simp only[oE] at e1;simp_arith[Nt,e1,qR,isNone,w,p,c,q]
  .rw[a]
   exact(ao1 A).filter _
  .rw[a,lK,(qJ r).mem_iff,decide_eq_true_iff]
   refine#[λ⟨_,y⟩=>#[ns,#[r,R.1],y],λc=>#[?_,c.2.2]]
   by_cases m:k∈r
   .exact m
   .exact absurd #[r,ahj R.1 m] c.2.2
def Ui(lv:055):Prop:=∀r∈lv,nameB r.2.1=aq/\nameB r.2.2.1=aq/\nameB r.2.2.2.1=aq
theorem aeZ(h:nameB r.2.1=aq/\nameB r.2.2.1=aq/\nameB r.2.2.2.1=aq):jk (bU r)=aq:=by
 have s1:=CJ h.1;have b:=CJ h.2.1;have a:=CJ h.2.2;unfold jk;simp only[bU,yI,BX,s1,b,a,Oe];rfl
theorem aiF(b:nameB q.2.1=aq/\nameB q.2.2.1=aq/\nameB q.2.2.2.1=aq)(a:nameB r.2.1=aq/\nameB r.2.2.1=aq/\nameB r.2.2.2.1=aq)(hu:q.1=r.1->q=r):j6 (bU q) (bU r)=aa (.im (.bool (!(q.1==r.1)))):=by
 have e:uV (bU q) (bU r)=aa (xq (bU q) (bU r)):=by
  show(if iK _&&iK _&&(jk _&&jk _) then aa _ else aj)=_
  rw[aeZ b,aeZ a];rfl
 have f:xq (bU q) (bU r)=(q.1==r.1):=by
  show((q.1==r.1)&&_)=_
  by_cases c:q.1=r.1
  .cases hu c;simp[xq,NZ]
  simp_all
 unfold j6
 grind
def DP(lv:055)(k:Int):List cY:=lv.filter λq=>!(q.1==k)
theorem aqs(ps':029)(lv:055)(a:014)(n aP:Int)(a1 b1:Str)(k:Int):iC #[ps',[],DP lv k,[]] a n aP a1 b1=tO (iC #[ps',[],lv,[]] a n aP a1 b1) k:=by
 unfold iC tO DP;rw[List.filter_map,ak9,ak9];refine congrArg _ (List.filter_congr λq _=>?_);rw[Bool.and_comm];rfl
theorem Yu{ht:oV}{a:014}{n aP:Int}(M:yj ht a n aP a1 b1 h s o):o.isSome=aq↔¬((h=a1\/h=b1)\/(s=a1\/s=b1))/\rG (iC ht a n aP a1 b1) h s:=by
 by_cases c:(h=a1\/h=b1)\/(s=a1\/s=b1)
 .rw[M.1 c]
  grind
 .have R:=M.2 c;cases o with
  |none=>exact iff_of_false kY λz=>let ⟨r,p⟩:=z.2;R r p
  |some r=>exact iff_of_true rfl #[c,r,R.1]
theorem aqt(f:Tb)(z:Str):pH (.str z) (.dict (bI (je f)))=aa (.im (.bool (!(eO f z).isSome))):=by
 show((n6 _ _).map _).map _=_
 rw[Kd,mU,Nh];rfl
theorem asq(hl:f.length<64):xF [.dict (bI (je f))]=aa (005 ((jL strLt (f.map (·.1))).map .str)):=by
 have e:(bI (je f)).map (·.1)=(f.map (·.1)).map gR:=by
  unfold bI je;rw[dJ,dJ,dJ];rfl
 show((strsOf _).bind _)=_
 rw[e,Jw,ir,f9 07];rfl
theorem aqu(c:Ui lv)(d:(lv.map (·.1)).Nodup)(a:r∈lv):jy .one acS acT [aa (.im (bU r))] (lv.map bU) C=aa ((DP lv r.1).map bU,C):=
 oN _ _ _ λq b=>⟨_,rfl,by
  have e:=aiF (c q b) (c r a) (Ri d q b r a);simp_arith[gK,m8,lN,e],λ_=>⟨_,_,rfl,rfl⟩⟩
structure Hs(zs:List Str)(ps ps':List (Str×Str))(lv:List cY):Prop where
 parts:iU zs ps
 gen:qb zs ps #[ps',[],lv,[]]
 nm:Ui lv
 rise:(lv.map (·.1)).Pairwise (·<·)
abbrev hsD(ps':List (Str×Str))(lv:List cY):az:=kE #[ps',[],lv,[]]
abbrev nJ(ps ps':List (Str×Str))(lv:List cY)(z a1 b1:Str)(n aP:Int)(h s:Str)(v8 v9 v10 v11 gk:Option Vl):En:=
 [aa (.im 008),aa (.im 013),aa (.im (hsD ps' lv)),aa 06,aa (.im (.tuple [.str h,.str s])),aa (00 aP),aa (000 h),aa (000 s),v8,v9,v10,v11,gk]
section
variable{C:Ce}{zs:List Str}{ps ps':List (Str×Str)}{lv:List cY}(hN:Names zs)(hH:Hs zs ps ps' lv){z a1 b1 h s:Str}{n aP:Int}
include hN hH
theorem sign_eq(z a1 b1:Str)(n aP:Int)(h:Str):∃(f:Tb)(a:014),Cy [.im (.dict (bI (cD ps))),.im (.list (lv.map bU)),.im (cJ z a1 b1 n),.im (.str h),.im (.int aP)] C=aa (.ow (.dict (bI (je f))),C)/\(∀s,yj #[ps',[],lv,[]] (up ps z) n aP a1 b1 h s (eO f s))/\yK [.im (hsD ps' lv),.im (cJ z a1 b1 n),.im (.str h),.im (.int aP)] C=aa (.ow (.list (a.map .str)),C)/\xF [.dict (bI (je f))]=aa (005 (a.map .str))/\a.length<=61:=by
 have hP:=hH.parts;have hG:=hH.gen;refine hide λGG e=>?_
 obtain⟨f,e1,M,b⟩:=aej (ps':=ps') hN hP hG.p8 (show lv.length<=16 from hG.jd) z a1 b1 n aP h
 obtain⟨a,e2,i,S⟩:=W3 hN hP hG z a1 b1 n _ h
 have mem:∀x,x∈f.map _↔¬(h=a1\/h=b1)/\rG _ h x:=λx=>by
  rw[<-aha,Yu (M x).1]
  exact#[λk=>#[λc=>k.1 (.inl c),k.2],λk=>#[λc=>c.elim k.1 (af1 k.1 k.2),k.2]]
 have o:f.length<=61:=by
  have q:=Ah hG 022 n aP a1 b1;have:=len_sub (m:=h::(iC _ _ n _ a1 b1).map (·.2.2)) b λp j=>by
   obtain⟨r,l⟩:=((mem p).mp j).2
   have:=l.Kr;generalize r.reverse=r' at this;cases this with
   |nil=>grind
   |cons hw _=>exact fU _ (dG.mpr #[_,JM.mp hw,rfl])
  grind
 have d:=asq (f:=f) aK;have g:LQ _ _ h _:=#[_,b,mem,rfl]
 rw[<-S.unique g] at d;exact e (#[f,a,e1,λs=>(M s).1,e2,d,i])
open Classical in
theorem aqv(t:r∈lv)(v:xs.length<=100)(M:yj #[ps',[],lv,[]] 022 n aP a1 b1 h s (eO fr s))(gk:032):
  ∃g,Vn (nJ ps ps' lv z a1 b1 n aP h s (aa (.ow (.dict (bI (je fr))))) v9 (aa (.ow (.list (xs.map .int)))) (aa (.im (bU r))) gk) C=aa (.nx,nJ ps ps' lv z a1 b1 n aP h s (aa (011 (je fr))) v9 (aa (.ow (.list ((xs++if Cut (iC #[ps',[],lv,[]] 022 n aP a1 b1) a1 b1 h s r.1 then[r.1] else[]).map .int)))) (aa (.im (bU r))) g,C):=by
 have hP:=hH.parts;have hG:=hH.gen;have c:=aqu (C:=C) hH.nm hG.T6 t;have m:053:=hG.jd;have p:(DP lv r.1).length<=16:=jw (zZ _ _) m;have q:((DP lv r.1).length<=1000000)=True:=eqT;have nl:=CN (DP lv r.1)
 obtain⟨f,e1,F⟩:=anO (C:=C) (ps':=ps') hN hP hG.p8 p z a1 b1 n aP h
 have F:=Yu (F s).1;rw[aqs] at F;have M:=Yu M;have b:=aiE fr s;have d:=aqt f s;have i:bW (bU r) (.int 0)=aa (.im (.int r.1)):=rfl
 refine#[aa (011 (je f)),(oW (e1:=nJ ps ps' lv z a1 b1 n aP h s (aa (011 (je fr))) v9 (aa (005 (xs.map .int))) (aa (.im (bU r))) (aa (011 (je f)))) (C1:=C) ?_).trans ?_]
 .simp only[nJ];simp_arith[c,q,nl,e1]
 have a:Cut (iC #[ps',[],lv,[]] (up ps z) n aP a1 b1) a1 b1 h s r.1↔(eO fr s).isSome=aq/\(eO f s).isSome=aR:=by
  rw[M,alq,Ne,F]
  exact#[λk=>#[#[k.1,k.2.1],λl=>k.2.2 l.2],λk=>#[k.1.1,k.1.2,λl=>k.2 #[k.1.1,l]]]
 have j:Kq (.list [.int r.1]) (.int 0)=aa (.ow (.list [])):=rfl;have o:Kq (.list [.int r.1]) (.int 1)=aa (.ow (.list [.int r.1])):=rfl;have a0:cZ (.list (xs.map .int)) (.list [])=aa (005 (xs.map .int++[])):=add_l (by rw[bR];show _+0<=_;lia);have e:cZ (.list (xs.map .int)) (.list [.int r.1])=aa _:=add_l (by rw[bR];show _+1<=_;lia);have u:vQ [.bool aq]=aa (00 1):=rfl;have of:vQ [.bool aR]=aa (00 0):=rfl;simp only[nJ];cases yt:(eO fr s).isSome with
 |false=>
  rw[cC λk=>by rw[a,yt] at k;exact kY k.1];rw[yt] at b;simp_arith[oY,b,of,i,j,a0,jg]
 |true=>
  rw[yt] at b;cases Ei:(eO f s).isSome with
  |true=>
   rw[cC λk=>by rw[a,Ei] at k;exact kY k.2.symm];rw[Ei] at d;simp_arith[oY,b,d,of,i,j,a0,jg]
  |false=>
   rw[bZ (a.mpr #[yt,Ei])];rw[Ei] at d;simp_arith[oY,b,d,u,i,o,e,kj]
open Classical in
theorem af2(M:yj #[ps',[],lv,[]] 022 n aP a1 b1 h s (eO fr s)):∀(a:055)(xs:028)(v11 gk:032),(∀r∈a,r∈lv)->xs.length+a.length<=100->
  ∃c b,iY (dM 11) Vn (a.map bU) (nJ ps ps' lv z a1 b1 n aP h s (aa (.ow (.dict (bI (je fr))))) v9 (aa (.ow (.list (xs.map .int)))) v11 gk) C=aa (.nx,nJ ps ps' lv z a1 b1 n aP h s (aa (011 (je fr))) v9 (aa (.ow (.list ((xs++(a.filter λr=>decide (Cut (iC #[ps',[],lv,[]] 022 n aP a1 b1) a1 b1 h s r.1)).map (·.1)).map .int)))) c b,C)
 |[],xs,v11,gk,_,_=>#[_,_,by simp only[List.filter_nil,rN,jg];rfl]
 |r::a,xs,v11,gk,hr,hl=>by
  rw[eZ] at hl
  obtain⟨d,e1⟩:=aqv (C:=C) (v9:=v9) hN hH (hr r fV) (xs:=xs) aK M gk
  obtain⟨c,b,e2⟩:=af2 M a (xs++if Cut _ a1 b1 h s _ then[r.1] else[]) (aa (.im (bU r))) d (λq e=>hr q (fU _ e)) 07
  refine#[c,b,?_]
  have eq:xs++((r::a).filter λr=>decide (Cut (iC #[ps',[],lv,[]] 022 n aP a1 b1) a1 b1 h s r.1)).map (·.1)=(xs++if Cut (iC #[ps',[],lv,[]] 022 n aP a1 b1) a1 b1 h s r.1 then[r.1] else[])++(a.filter λr=>decide (Cut (iC #[ps',[],lv,[]] 022 n aP a1 b1) a1 b1 h s r.1)).map (·.1):=z1 (λr:cY=>Cut (iC #[ps',[],lv,[]] 022 n aP a1 b1) a1 b1 h s r.1) xs r a _
  rw[eq,<-e2,dN,iY];simp only[dM,Nf,acg] at e1⊢;simp_all
open Classical in
theorem am5(z a1 b1:Str)(n aP:Int)(h s:Str):OJ [.im 008,.im 013,.im (hsD ps' lv),.im (cJ z a1 b1 n),.im (.tuple [.str h,.str s]),.im (.int aP)] C=aa (.im 037,C):=by
 have hP:=hH.parts;have hG:=hH.gen;refine hide λGG F=>?_
 obtain⟨b,L,e1,M,e2,G,P⟩:=sign_eq (C:=C) hN hH z a1 b1 n aP h
 have sm:=aoT (C:=C) 0 L aK
 obtain⟨a,H,W⟩:=aoZ (C:=C) hN hP hG z a1 b1 n aP h
 obtain⟨o,f,y,A⟩:=JS (C:=C) hN hP hG z a1 b1 n aP h s
 have J:eO b s=o:=(M s).unique #[y,A];have l:=Kd b s;rw[J] at l
 obtain⟨d,i,K⟩:=Zi (C:=C) hN hP hG (z:=z) (a1:=a1) (b1:=b1) (h:=h) (s:=s) (aP:=aP)
 have u:d=dm a s:=K.unique (W s);have v:=aad (st:=a) (z:=s);rw[<-u] at v;have B:mQ [gR z,.int n,.str a1,.str b1] (aa 2) aj=[.str a1,.str b1]:=rfl;have g:nU 2 [.im (Ia d),.im (Ia d)] C=aa (.im 037,C):=by
  cases d with
  |none=>exact same_none 1
  |some k=>exact same_int 1 k
 obtain⟨m,q,j⟩:=af2 (C:=C) (v9:=aa (011 (stL a))) hN hH (M s) lv [] aj aj (λ_ h=>h) (by have:053:=hG.jd;show 0+_<=_;lia)
 rw[lN] at j
 obtain⟨xs,N,Q,D,O⟩:=Yt (C:=C) hN hP hG z a1 b1 n aP h s
 have eq:(lv.filter λr=>decide (Cut (iC #[ps',[],lv,[]] 022 n aP a1 b1) a1 b1 h s r.1)).map (·.1)=xs:=by
  refine aij (hH.rise.sublist (ay1 _ akW)) D λk=>?_
  rw[O];constructor
  .intro mk
   obtain⟨r,t,rfl⟩:=dG.mp mk
   exact of_decide_eq_true (lK.mp t).2
  .intro c
   obtain⟨w,E,e⟩:=dG.mp c.num
   obtain⟨r,t,rfl⟩:=dG.mp E
   have e:r.1=k:=e;exact dG.mpr #[r,lK.mpr #[(lK.mp t).1,f9 (by rw[e];exact c)],e]
 rw[eq] at j;have x:=same_ints (C:=C) 0 xs aK;refine F (gm [aa (.im 008),aa (.im 013),aa (.im (hsD ps' lv)),aa 06,aa (.im (.tuple [.str h,.str s])),aa (00 aP),aj,aj,aj,aj,aj,aj,aj] rfl rfl ((congrArg (ael λp=>(p.1,p.2.2)) ((oW (e1:=nJ ps ps' lv z a1 b1 n aP h s aj aj aj aj aj) (C1:=C) ?_).trans ?_:V9 _ C=aa (.rt (.im 037),nJ ps ps' lv z a1 b1 n aP h s (aa (011 (je b))) (aa (011 (stL a))) (aa (005 (xs.map .int))) m q,C))).trans rfl) rfl rfl)
 .simp only[nJ];simp_arith[]
 refine(oW (e1:=nJ ps ps' lv z a1 b1 n aP h s (aa (011 (je b))) (aa (011 (stL a))) aj aj aj) (C1:=C) ?_).trans ?_
 .simp only[nJ];simp_arith[e1,H]
 refine(oW (e1:=nJ ps ps' lv z a1 b1 n aP h s (aa (011 (je b))) (aa (011 (stL a))) aj aj aj) (C1:=C) ?_).trans ?_
 .simp only[nJ];simp_arith[e2,G,sm]
 refine(oW (e1:=nJ ps ps' lv z a1 b1 n aP h s (aa (011 (je b))) (aa (011 (stL a))) aj aj aj) (C1:=C) ?_).trans ?_
 .simp only[nJ];cases o with
  |none=>
   have sm:=afQ (C:=C) 0 aj (λr e=>nomatch e);simp only[oE,still] at f sm;simp_arith[f,rm,l,Vp,sm]
  |some r=>
   have I:¬((h=a1\/h=b1)\/(s=a1\/s=b1)):=λk=>nomatch y k
   obtain⟨R,S⟩:=Zm (C:=C) (Ah hG 022 n aP a1 b1) (Pj hG 022 n aP a1 b1) (A I)
   have sm:=afQ (C:=C) 0 (aa r) (λr' e=>by cases e;lia);simp only[oE,still] at f sm;simp_arith[f,rm,l,mU,sm]
 refine(oW (e1:=nJ ps ps' lv z a1 b1 n aP h s (aa (011 (je b))) (aa (011 (stL a))) aj aj aj) (C1:=C) ?_).trans ?_
 .simp only[nJ];cases d with
  |none=>
   simp only[Ia] at i g;simp_arith[gC,fQ,jc,m6,B,i,rm,v,Vp,g]
  |some k=>
   simp only[Ia] at i g;simp_arith[gC,fQ,jc,m6,B,i,rm,v,mU,g]
 refine(oW (e1:=nJ ps ps' lv z a1 b1 n aP h s (aa (011 (je b))) (aa (011 (stL a))) (aa (.ow (.list []))) aj aj) (C1:=C) ?_).trans ?_
 .rfl
 refine(oW ((Ky ?_).trans j)).trans ?_
 .rfl
 .simp only[nJ];simp_arith[N,x]
end
theorem mJ(h:f ao C=aa (.nx,e1,C1))(h2:g e1 C1=aa (fl,e2,C2)):bN f g ao C=aa (fl,e2,C2):=(Z2 h).trans h2
theorem asr{body:FS}{ao a:En}{C C':Ce}(b:xs.length=k)(he:xs.map aa++fX (n-xs.length) aj=ao)(h:body ao C=aa (.rt (.ce m),a,C')):Ip k n body xs C=aa (m,C'):=by
 unfold Ip
 grind
theorem Rk(h1:g d ao=aa e1)(h2:body e1 C=aa (.nx,e2,C1)):iY g body (d::r) ao C=iY g body r e2 C1:=by
 simp only[iY,h1,h2]
theorem aae(h:fi ao C=aa (aN,e1,C1)):iG fi g body ao C=iY g body aN e1 C1:=by
 rw[iG,h]
theorem Qm:∀ds:List az,rB look (ds.map .dat)=aa ds
 |[]=>rfl
 |d::ds=>by
  rw[dN,rB,Qm ds];rfl
theorem aqw(h:jF C lo xs bs):rB (mj C lo (k+1)) xs=aa (bs.map Bi.tree):=by
 induction h with
 |nil=>rfl
 |dat d _ ih=>
  rw[rB,ih];rfl
 |lst m ds hm hc _ ih=>
  have e:MJ (mj C lo (k+1)) (.iM m)=aa (.list ds):=by
   show mj C lo _ m=_;rw[mj,bZ hm,hc]
   show(rB _ _).map _=_
   rw[Qm];rfl
  rw[rB,e,ih];rfl
theorem ao2(T:Told lo C n bs):mj C lo (k+2) n=aa (.list (bs.map Bi.tree)):=by
 obtain⟨xs,a,r,_,_⟩:=T.ex
 rw[mj,bZ T.Bx,a]
 show(rB _ xs).map _=_
 rw[aqw r];rfl
def oZ(ps:029):List (Str×Str):=ps.map λp=>(p.1,gV "")
theorem flat_keys(ps:029):(oZ ps).map (·.1)=ps.map (·.1):=by
 unfold oZ;rw[dJ];rfl
theorem ass(h:jF C lo xs bs):H9 C xs=aa ((rC xs).map .iM):=by
 induction h with
 |nil=>rfl
 |dat d _ ih=>trivial
 |lst m ds hm hc _ ih=>
  rw[H9,hc,ih];rfl
theorem jF.in(h:jF C lo xs bs):∀c∈rC xs,∃ds,C[c]?=aa (.lst (ds.map .dat))/\Bi.lst ds∈bs:=by
 induction h with
 |nil=>intro c a;trivial
 |dat d _ ih=>
  intro c a
  obtain⟨ds,h1,h2⟩:=ih c a
  grind
 |lst m ds hm a _ ih=>
  intro c h;rcases cB.mp (h) with rfl|h
  .grind
  .obtain⟨ds,h1,h2⟩:=ih c h
   grind
theorem ahl:∀{a b:036},a.map Ci.dat=b.map Ci.dat->a=b
 |[],[],_=>rfl
 |x::a,y::b,h=>by
  obtain⟨h1,h2⟩:=Fi h
  rw[Ci.dat.inj h1,ahl h2]
abbrev cE(a b c v:Option Vl):En:=[a,b,c,v]
theorem ae0{p:Nat}{body:FS}{f:List az->List az}
  (m:∀(c:Nat)(C:Ce)(ds:036),C[c]?=aa (.lst (ds.map .dat))->ds.length<=1000->body (cE a0 a1 a2 (aa (.ce c))) C=aa (.nx,cE a0 a1 a2 (aa (.ce c)),C.set c (.lst ((f ds).map .dat)))):
  ∀(r pre:051)(a:Nat)(v:032)(C:Ce),pre++r=cs->r.length<a->r.Nodup->p∉r->C[p]?=aa (.lst (cs.map .iM))->(∀c∈r,∃ds:List az,C[c]?=aa (.lst (ds.map .dat))/\ds.length<=1000)->
  ∃(j:032)(C':Ce),Dw p 3 body a pre.length (cE a0 a1 a2 v) C=aa (.nx,cE a0 a1 a2 j,C')/\C'.length=C.length/\(∀q,q∉r->C'[q]?=C[q]?)/\∀c∈r,∀ds:List az,C[c]?=aa (.lst (ds.map .dat))->C'[c]?=aa (.lst ((f ds).map .dat))
 |[],pre,a+1,v,C,e,_,_,_,hp,_=>by
  refine#[v,C,?_,rfl,λ_ _=>rfl,λc i=>by cases i]
  rw[jg] at e;have:(cs.map Ci.iM)[pre.length]?=aj:=ab2 (by rw[bR,e];exact cH _);simp only[Dw,hp,o8,ir,this]
 |c::r,pre,a+1,v,C,e,hf,nd,np,hp,i=>by
  obtain⟨ds,h1,h2⟩:=i c fV
  obtain⟨n1,n2⟩:=lM.mp nd
  have l:(cs.map Ci.iM)[pre.length]?=aa (.iM c):=by
   rw[jN,<-e,uY 046,Jo];rfl
  have k:c<C.length:=(lW.mp h1).1;have ne:∀q,q≠c->(C.set c (.lst ((f ds).map .dat)))[q]?=C[q]?:=λq d=>yx (jW d)
  obtain⟨j,C',e1,s,n,o⟩:=ae0 (cs:=cs) m r (pre++[c]) a (aa (.ce c)) (C.set c (.lst ((f ds).map .dat))) (by rw[ie];exact e) (by rw[eZ] at hf;lia) n2 (λh=>np (fU _ h)) (by rwa [ne p λh=>np (h▸fV)]) λq d=>by
   obtain⟨x,g⟩:=i q (fU _ d)
   exact#[x,by rw[ne q λh=>n1 (h▸d)];exact g.1,g.2]
  refine#[j,C',?_,by rw[s,Ex],λq d=>?_,λq d x g=>?_]
  .have b:=m c C ds h1 h2;rw[fW] at e1;simp only[Dw,hp,o8,ir,l,Ub,Nf,acg,b];exact e1
  .rw[n q λh=>d (fU _ h),ne q λh=>d (h▸fV)]
  .rcases cB.mp d with rfl|d
   .rw[n q n1,Ir k];rw[h1] at g;have:ds=x:=ahl (Cl.lst.inj (nO g));rw[this]
   .exact o q d x (by rw[ne q λh=>n1 (h▸d)];exact g)
theorem GX(C:Ce):∀ao:En,LC ao (ao.map (frC C))=ao
 |[]=>rfl
 |x::e=>by
  rw[dN,LC,GX C e];cases x with
  |none=>rfl
  |some y=>cases y<;>rfl
theorem ae1{g:Nat->List az}:∀cs:List Nat,(∀c∈cs,lo<=c/\C[c]?=aa (.lst ((g c).map .dat)))->rB (mj C lo (k+1)) (cs.map .iM)=aa (cs.map λc=>.list (g c))
 |[],_=>rfl
 |c::cs,h=>by
  obtain⟨h1,h2⟩:=h c fV
  have e:MJ (mj C lo (k+1)) (.iM c)=aa (.list (g c)):=by
   show mj C lo _ c=_;rw[mj,bZ h1,h2]
   show(rB _ _).map _=_
   rw[Qm];rfl
  rw[dN,rB,e,ae1 cs λq a=>h q (fU _ a)];rfl
theorem ae2{C:Ce}{cs:051}{g:Nat->List az}(b:C[p]?=aa (.lst (cs.map .iM)))(h:∀c∈cs,C[c]?=aa (.lst ((g c).map .dat))):mj C 0 (k+2) p=aa (.list (cs.map λc=>.list (g c))):=by
 rw[mj,b]
 show(rB _ _).map _=_
 rw[ae1 cs λc a=>#[lO _,h c a]];rfl
def jM(cs:051)(g:Nat->List az):List Int:=cs.map λc=>((g c).length:Int)
section
variable{cs:List Nat}{g:Nat->List az}{b0 b2 b3:Option Vl}(hl:cs.length<=1000)(hg:∀c∈cs,(g c).length<=1001)
include hl hg
theorem af3:gM (iB (aM 1)) .one dU Cv [] (cE b0 (aa (.im (.list (cs.map λc=>.list (g c))))) b2 b3) C=aa (.ow (.list ((jM cs g).map .int)),cE b0 (aa (.im (.list (cs.map λc=>.list (g c))))) b2 b3,C):=by
 have t:jy .one dU Cv [] (cs.map λc=>.list (g c)) C=aa ((jM cs g).map .int,C):=by
  have:=oN (T:=.one) (ft:=dU) (fe:=Cv) (fs:=[]) (C:=C) _ _ _ (l:=cs) λc a=>#[[.list (g c)],rfl,rfl,λ_=>#[_,_,rfl,rfl]]
  rw[BP.mpr λ_ _=>rfl] at this;unfold jM
  rwa [dJ]
 have h:((jM cs g).length<=1000000)=True:=eq_true (by unfold jM;grind);simp_arith[t,h]
theorem asu:lQ (gM (iB (aM 1)) .one dU Cv []) (cE b0 (aa (.im (.list (cs.map λc=>.list (g c))))) b2 b3) C=aa (.ow (.list ((jM cs g).map .int)),cE b0 (aa (.im (.list (cs.map λc=>.list (g c))))) b2 b3,C):=by
 have e:=af3 (b0:=frC C b0) (b2:=frC C b2) (b3:=frC C b3) (C:=[]) hl hg;unfold lQ;rw[show(cE b0 _ b2 b3).map _=cE _ (aa _) _ _ from rfl,e,ir,bZ #[Gj _,rfl]];exact congrArg (λe=>aa (_,e,C)) (GX C _)
theorem asv(a:C[p]?=aa (.lst (cs.map .iM)))(h:∀c∈cs,C[c]?=aa (.lst ((g c).map .dat))):lQ (gM (iB (aM 1)) .one dU Cv []) (cE b0 (aa (.ce p)) b2 b3) C=aa (.ow (.list ((jM cs g).map .int)),cE b0 (aa (.ce p)) b2 b3,C):=by
 have e:=af3 (b0:=frC C b0) (b2:=frC C b2) (b3:=frC C b3) (C:=[]) hl hg;have m:(cE b0 (aa (.ce p)) b2 b3).map (frC C)=cE (frC C b0) (aa (.im (.list (cs.map λc=>.list (g c))))) (frC C b2) (frC C b3):=by
  have:frC C (aa (.ce p))=aa (.im (.list (cs.map λc=>.list (g c)))):=by
   show(mj C 0 4 p).map _=_
   rw[ae2 a h];rfl
  grind
 have b:=GX C (cE b0 (aa (.ce p)) b2 b3);unfold lQ;rw[m] at b⊢;rw[e,ir,bZ #[Gj _,rfl]];simp_all
end
abbrev markD:az:=.str (gV "more")
theorem asw{k n:Nat}{body:FS}{C C1:Ce}{en e1:En}(a:xs.length=k)(he:xs.map aa++fX (n-xs.length) aj=en)(h:body en C=aa (.rt (.im d),e1,C1)):fN k n body xs C=aa (.im d,uO C.length C1):=by
 unfold fN;rw[bZ a,he,h];rfl
theorem aqx(a0 a1 a:032)(c:Nat)(C:Ce)(ds:036)(h:C[c]?=aa (.lst (ds.map .dat)))(hl:ds.length<=1000):adF (cE a0 a1 a (aa (.ce c))) C=aa (.nx,cE a0 a1 a (aa (.ce c)),C.set c (.lst ((ds++[markD]).map .dat))):=by
 have b:qx (.im markD)=aa _:=rfl;have e:(aW markD) (cE a0 a1 a (aa (.ce c))) C=aa _:=rfl;show xW 3 _ _ _=_;unfold xW;simp only[List.getElem?_cons_succ,akp,o8] at e⊢;simp only[e,ir,b,h];rw[bZ (by rw[bR];unfold fG;lia),kj];rfl
theorem aqy(xs:List Ci):(rC xs).length<=xs.length:=List.length_filterMap_le _ _
theorem asx(hl:cs.length<=1000)(hg:∀c∈cs,(g c).length<=1000)(k:C[p]?=aa (.lst (cs.map .iM)))(h:∀c∈cs,C[c]?=aa (.lst ((g c++[markD]).map .dat))):
  lQ (aX j5 (aG (lQ (gM (iB (aM 1)) .one dU OD []))) (aG (gM (iB (aM 2)) .one dU Fv []))) (cE b0 (aa (.ce p)) (aa (005 ((jM cs g).map .int))) b3) C=aa (.im 037,cE b0 (aa (.ce p)) (aa (005 ((jM cs g).map .int))) b3,C):=by
 obtain⟨G,hG⟩:∃G:Nat->List az,G=λc=>g c++[markD]:=05
 have h':∀c∈cs,C[c]?=aa (.lst ((G c).map .dat)):=λc b=>by rw[hG];exact h c b
 have a:∀c∈cs,(G c).length<=1001:=λc b=>by rw[hG];rw[fW];exact Vb (hg c b)
 have sz:jM cs G=(jM cs g).map (·+1):=by
  unfold jM;rw[dJ,hG];refine wR λc _=>?_
  rw[fW];rfl
 have d:=GX C (cE b0 (aa (.ce p)) (aa (005 ((jM cs g).map .int))) b3);have m:(cE b0 (aa (.ce p)) (aa (.ow (.list ((jM cs g).map .int)))) b3).map (frC C)=cE (frC C b0) (aa (.im (.list (cs.map λc=>.list (G c))))) (aa (005 ((jM cs g).map .int))) (frC C b3):=by
  have:frC C (aa (.ce p))=aa (.im (.list (cs.map λc=>.list (G c)))):=by
   show(mj C 0 4 p).map _=_
   rw[ae2 k h'];rfl
  rw[<-this];rfl
 have v:=asu (b0:=frC C b0) (b2:=aa (005 ((jM cs g).map .int))) (b3:=frC C b3) (C:=[]) hl a;have t:jy .one dU Fv [] ((jM cs g).map .int) []=aa ((jM cs G).map .int,[]):=by
  have:=oN (T:=.one) (ft:=dU) (fe:=Fv) (fs:=[]) (C:=[]) kZ (λ_=>aq) (λi=>kZ (i+1)) (l:=jM cs g) λi _=>#[[.int i],rfl,rfl,λ_=>#[.im (.int (i+1)),_,rfl,rfl]]
  rw[BP.mpr λ_ _=>rfl] at this
  rwa [sz,dJ]
 have j:((jM cs g).length<=1000000)=True:=eq_true (by unfold jM;rw[bR];lia);have f:((jM cs G).length<=1000000)=True:=eq_true (by unfold jM;rw[bR];lia);have q:=aoD (agY (jM cs G)) bh rfl;have e:(aX j5 (aG (lQ (gM (iB (aM 1)) .one dU OD []))) (aG (gM (iB (aM 2)) .one dU Fv []))) (cE (frC C b0) (aa (.im (.list (cs.map λc=>.list (G c))))) (aa (005 ((jM cs g).map .int))) (frC C b3)) []=aa (.im 037,cE (frC C b0) (aa (.im (.list (cs.map λc=>.list (G c))))) (aa (005 ((jM cs g).map .int))) (frC C b3),[]):=by
  simp_arith[v,t,j,f,q]
 unfold lQ at e⊢;rw[m] at d⊢;rw[e,ir,bZ #[rfl,rfl]];exact congrArg (λe=>aa (_,e,C)) d
theorem asy{cs:051}{C:Ce}{bs:List Bi}(hs:∀ds,Bi.lst ds∈bs->ds.length<=900)(H:∀c∈cs,∃ds,C[c]?=aa (.lst (ds.map .dat))/\Bi.lst ds∈bs):∃g:Nat->List az,∀c∈cs,C[c]?=aa (.lst ((g c).map .dat))/\(g c).length<=900:=by
 classical
 refine#[λc=>if h:c∈cs then Classical.choose (H c h) else[],λc a=>?_]
 grind
theorem ao3(T:Told lo C m bs)(u:bs.length<=1000)(hs:∀ds,Bi.lst ds∈bs->ds.length<=900):∃C':Ce,Ql [.ce m] C=aa (.im 037,C')/\C'.length=C.length/\∀q,q<lo->q<C.length->C'[q]?=(C[q]?).map (Mt C.length):=by
 refine hide λGG o=>?_
 obtain⟨xs,B,r,j,y⟩:=T.ex
 have w:xs.length<=1000:=by rw[r.len];exact u
 have hl:=jw (aqy xs) w
 obtain⟨g,hg⟩:=asy hs (jF.in r)
 have d:=r.bound;have i:=ass r
 obtain⟨cs,f⟩:∃cs,cs=rC xs:=05
 rw[<-f] at i hg d j y hl
 obtain⟨C1,a⟩:∃C1:Ce,C1=C++[.lst (cs.map .iM)]:=05
 have s1:HH 1 0 (cE (aa (.ce m)) aj aj aj) C=aa (.nx,cE (aa (.ce m)) (aa (.ce C.length)) aj aj,C1):=by
  unfold HH;simp only[cE,akp,B,o8,ir,i];rw[bZ (by unfold fG;lia),a];rfl
 have p1:C1[C.length]?=aa (.lst (cs.map .iM)):=by
  rw[a,uY 046,Jo];rfl
 have b:∀c∈cs,C1[c]?=aa (.lst ((g c).map .dat)):=λc h=>by rw[a];exact Av (hg c h).1
 have n:C.length∉cs:=λh=>u9 _ (d _ h).2
 have z:cP 2 (lQ (gM (iB (aM 1)) .one dU Cv [])) (cE (aa (.ce m)) (aa (.ce C.length)) aj aj) C1=aa (.nx,cE (aa (.ce m)) (aa (.ce C.length)) (aa (005 ((jM cs g).map .int))) aj,C1):=by
  have v:=asv (b0:=aa (.ce m)) (b2:=aj) (b3:=aj) hl (λc h=>jw (hg c h).2 bh) p1 b;simp_arith[v]
 obtain⟨v3,C2,D,t,k,s⟩:=ae0 (cs:=cs) (p:=C.length) (aqx (aa (.ce m)) (aa (.ce C.length)) (aa (005 ((jM cs g).map .int)))) cs [] 100000 aj C1 rfl aK j n p1 λc h=>#[g c,b c h,jw (hg c h).2 bh]
 have p2:C2[C.length]?=aa (.lst (cs.map .iM)):=by rw[k _ n];exact p1
 have E:=λc h=>s c h _ (b c h)
 have v:=asx (b0:=aa (.ce m)) (b3:=v3) hl (λc h=>jw (hg c h).2 bh) p2 E;have A:eU (lQ (aX j5 (aG (lQ (gM (iB (aM 1)) .one dU OD []))) (aG (gM (iB (aM 2)) .one dU Fv [])))) (cE (aa (.ce m)) (aa (.ce C.length)) (aa (.ow (.list ((jM cs g).map .int)))) v3) C2=aa (.rt (.im 037),cE (aa (.ce m)) (aa (.ce C.length)) (aa (005 ((jM cs g).map .int))) v3,C2):=by
  unfold eU;rw[v]
 have e:Xu (cE (aa (.ce m)) aj aj aj) C=aa _:=mJ s1 (mJ z (mJ D A));have l:C2.length=C.length+1:=by rw[t,a,fW];rfl
 refine o (#[uO C.length C2,asw rfl rfl e,?_,λq h1 h2=>?_])
 .unfold uO;rw[cC aK,bR,yD];lia
 .have x:q∉cs:=λh=>by have:=(d _ h).1;lia
  unfold uO;rw[cC aK,jN,ake h2,k _ x,a,uZ h2]
theorem ahm(h:jF C lo xs bs)(a:n∉rC xs):jF (C.set n c) lo xs bs:=by
 induction h with
 |nil=>exact .nil
 |dat d _ ih=>exact .dat d (ih a)
 |lst m ds hm hc _ ih=>
  refine .lst m ds hm ?_ (ih λk=>a (fU _ k))
  rwa [yx λe=>a (by rw[e];exact fV)]
theorem Xz(hi:ao[i]?=aa (aa (.ce n)))(he:f ao (C0++Δ)=aa (r,ao,C0++Δ))(e:qx r=aa b)(hd:R7 b=aq)(hl:bs.length<=1000)(T:Told C0.length (C0++Δ) n bs):
  ∃U',xW i f ao (C0++Δ)=aa (.nx,ao,C0++U')/\Told C0.length (C0++U') n (bs++[b])/\∀m c,m≠n->(C0++Δ)[m]?=aa c->(C0++U')[m]?=aa c:=by
 obtain⟨C,u⟩:∃C,C=C0++Δ:=05
 rw[<-u] at he T⊢;refine hide λGG q=>?_
 obtain⟨xs,o,g,p,l⟩:=T.ex
 obtain⟨U2,e2,j,p2⟩:=Gr [b] C (by rw[Jh,hd];rfl)
 have v:=(lW.mp o).1;have s:=T.Bx;have d:n∉rC _:=λm=>by have:=j.bound _ m;lia
 have st:C0++(Δ++U2).set (n-C0.length) (.lst (xs++(jr [b] C).1))=(C++U2).set n (.lst (xs++(jr [b] C).1)):=by grind
 refine q (#[(Δ++U2).set (n-C0.length) (.lst (xs++(jr [b] C).1)),?_,?_,λm c ne w=>?_])
 .unfold xW;simp only[hi,o,o8,ir,he,e];rw[bZ (by rw[g.len];unfold fG;lia),st,e2]
 .rw[st]
  refine#[#[xs++(jr [b] C).1,?_,?_,?_,?_],s]
  .rw[Ir (by rw[fW];lia)]
  .exact(ahm g.more l).app (ahm (j.low aK) d)
  .rw[Gq,qF]
   refine#[p,p2.imp λh=>fH h,λa t b e z=>?_]
   have h1:=g.bound a t;have h2:=j.bound b e;lia
  .rw[Gq,gP];exact λk=>k.elim l d
 grind
def aaB:Option (List Int)->Bi
 |some r=>.lst (r.map .int)
 |none=>.dat .none
def avK(C:Ce)(n:Nat):Option (List Int)->Vl->Prop
 |some r,v=>∃m,v=.ce m/\m≠n/\C[m]?=aa (.lst ((r.map kZ).map .dat))
 |none,v=>v=.im .none
theorem aqz{f g:FE}{ao:En}{i j:Nat}{C0 Δ:Ce}{n:Nat}(s:i≠j)(hi:ao[i]?=aa (aa (.ce n)))(B:j<ao.length)
  (h1:∀C,f ao C=aa (oE o,ao,C))(h2:∀v C,g (ao.set j (aa v)) C=aa (.ow (.list ys),ao.set j (aa v),C))(E:gJ ys=aq)(hl:bs.length<=900)(T:Told C0.length (C0++Δ) n bs):
  ∃v m U',bN (Be j f) (Dy i i j g) ao (C0++Δ)=aa (.nx,(ao.set j (aa v)).set i (aa (.ce m)),C0++U')/\Told C0.length (C0++U') m (bs++[aaB o,.lst ys])/\avK (C0++U') m o v:=by
 obtain⟨C,q⟩:∃C,C=C0++Δ:=05
 rw[<-q] at T⊢;refine hide λGG A=>?_
 obtain⟨xs,x,d,y,G⟩:=T.ex
 have F:=T.Bx;have I:n<C.length:=(lW.mp x).1;have by_:qx (.ow (.list ys))=aa (.lst ys):=by simp only[qx,E,if_true]
 cases o with
 |none=>
  obtain⟨U2,e2,e,p2⟩:=Gr [.lst ys] C rfl
  refine A (#[.im .none,(C++U2).length,Δ++(U2++[.lst (xs++.dat .none::(jr [.lst ys] C).1)]),?_,?_,rfl])
  .have s1:Be j f ao C=aa (.nx,ao.set j (aa (.im .none)),C):=by
    unfold Be;simp only[h1,oE,ir,qx,gb,if_true]
   rw[Z2 s1];unfold Dy;have p:(ao.set j (aa (.im .none)))[i]?=aa (aa (.ce n)):=by rw[yx (jW s)];exact hi
   have l:(ao.set j (aa (Vl.im .none)))[j]?=aa (aa (.im .none)):=Ir B;simp only[p,l,MK,gb,if_true,ir,h2,by_,x,o8];rw[bZ (by rw[d.len];unfold fG;lia),e2,q];simp only[ie]
  .rw[<-ie,<-ie,<-q]
   refine#[#[xs++.dat .none::(jr [.lst ys] C).1,?_,?_,?_,?_],by rw[fW];lia]
   .rw[uY 046,Jo];rfl
   .exact d.more.more.app (.dat _ (e.low aK).more)
   .rw[Gq,qF]
    refine#[y,p2.imp λh=>fH h,λa w b u z=>?_]
    have h1:=d.bound a w;have h2:=e.bound b u;lia
   .rw[Gq,gP,fW]
    rintro(k|k)
    .have:=d.bound _ k;lia
    .have:=e.bound _ k;rw[fW] at this;lia
 |some r=>
  obtain⟨C1,c⟩:∃C1,C1=C++[.lst ((r.map kZ).map .dat)]:=05
  have H:C1.length=C.length+1:=by rw[c,fW];rfl
  have D:C1[C.length]?=aa (.lst ((r.map kZ).map .dat)):=by rw[c,uY 046,Jo];rfl
  have t:C1[n]?=aa (.lst xs):=by rw[c];exact Av x
  obtain⟨U2,e2,e,p2⟩:=Gr [.lst ys] C1 rfl
  refine A (#[.ce C.length,(C1++U2).length,Δ++([.lst ((r.map kZ).map .dat)]++(U2++[.lst (xs++.iM C.length::(jr [.lst ys] C1).1)])),?_,?_,C.length,rfl,?_,?_])
  .have s1:Be j f ao C=aa (.nx,ao.set j (aa (.ce C.length)),C1):=by
    unfold Be;simp only[h1,oE,ir,qx,Gj,if_true,c]
   rw[Z2 s1];unfold Dy;have p:(ao.set j (aa (.ce C.length)))[i]?=aa (aa (.ce n)):=by rw[yx (jW s)];exact hi
   have l:(ao.set j (aa (Vl.ce C.length)))[j]?=aa (aa (.ce C.length)):=Ir B;simp only[p,l,MK,ir,h2,by_,t,o8];rw[bZ (by rw[d.len];unfold fG;lia),e2,c,q];simp only[ie]
  .rw[<-ie,<-ie,<-ie,<-q,<-c]
   refine#[#[xs++.iM C.length::(jr [.lst ys] C1).1,?_,?_,?_,?_],by rw[fW];lia]
   .rw[uY 046,Jo];rfl
   .refine jF.app ?_ (.lst C.length _ aK (Av (Av D)) (e.low aK).more);rw[c];exact d.more.more.more
   .rw[Gq,qF]
    refine#[y,lM.mpr #[λk=>?_,p2.imp λh=>fH h],λa w b u z=>?_]
    .have:=e.bound _ k;lia
    .have h1:=d.bound a w;rcases cB.mp (show b∈C.length::rC _ from u) with k|k
     .lia
     .have h2:=e.bound b k;lia
   .rw[Gq,gP,fW]
    rintro(k|k)
    .have:=d.bound _ k;lia
    .rcases cB.mp (show _∈C.length::rC _ from k) with k|k
     .lia
     .have:=e.bound _ k;rw[fW] at this;lia
  .rw[fW];lia
  .rw[<-ie,<-ie,<-ie,<-q,<-c];exact Av (Av D)
theorem asz{ws:List Wy}(h:iQ ws a r b):b=a\/∃w∈ws,w.2.2=b:=by
 induction h with
 |nil p=>grind
 |cons hw _ ih=>
  grind
structure Sd(d:az):Prop where
 nd:iK d=aq
 sh:lH 2 6000 d
theorem KC(h:∀d∈ds,iK d=aq):jP ds=aq:=by
 induction ds with
 |nil=>rfl
 |cons d r ih=>
  show(iK d&&jP r)=aq
  grind
theorem asA{l:014}(h:∀x∈l,nameB x=aq)(hl:l.length<=61):Sd (.list (l.map .str)):=by
 refine#[KC λd a=>?_,(JN (e:=0) (B:=82) (λd a=>?_) (by rwa [bR])).mono bh bh]
 .obtain⟨x,_,rfl⟩:=dG.mp a
  rfl
 .obtain⟨x,b,rfl⟩:=dG.mp a
  exact GD (zR.name (h x b))
theorem ahn{l:028}(h:∀x∈l,0<=x/\x<=2000)(hl:l.length<=61):Sd (.list (l.map .int)):=by
 refine#[KC λd a=>?_,(JN (e:=0) (B:=12) (λd a=>?_) (by rwa [bR])).mono bh bh]
 .obtain⟨x,_,rfl⟩:=dG.mp a
  rfl
 .obtain⟨x,b,rfl⟩:=dG.mp a
  have:=h x b;exact Ra this.1 aK
theorem aho:Sd .none:=#[rfl,(arQ (M:=0)).sh.mono bh bh]
theorem asB(b:Bool):Sd (.bool b):=#[rfl,(arR (M:=0) b).sh.mono bh bh]
structure uQ(b:Bi):Prop where
 few:∀ds,b=.lst ds->ds.length<=900
 sd:Sd b.tree
section
variable{zs:List Str}{ps ps':List (Str×Str)}{lv:List cY}(hN:Names zs)(hH:Hs zs ps ps' lv)(z a1 b1:Str)(n aP:Int)
include hN hH
theorem aik(h:k∈(iC #[ps',[],lv,[]] 022 n aP a1 b1).map (·.1)):0<=k/\k<=2000:=by
 obtain⟨w,a,rfl⟩:=dG.mp h
 obtain⟨r,b,rfl⟩:=dG.mp a
 exact(hH.gen.leaves r (lK.mp b).1).num
theorem auA(h:Str)(o:nameB h=aq):∃b:Bi,(∀C,∃ds,b=.lst ds/\gJ ds=aq/\yK [.im (hsD ps' lv),.im (cJ z a1 b1 n),.im (.str h),.im (.int aP)] C=aa (.ow (.list ds),C))/\uQ b:=by
 obtain⟨k,e,d,S⟩:=W3 (C:=[]) hN hH.parts hH.gen z a1 b1 n _ h
 refine#[_,λC=>#[_,rfl,Xi _,?_],λds e=>?_,asA (λx c=>?_) d]
 .obtain⟨i,p,_,j⟩:=W3 hN hH.parts hH.gen z a1 b1 n _ h
  rwa [S.unique j]
 .grind
 .obtain⟨l,_,m,rfl⟩:=S
  obtain⟨r,f⟩:=((m x).mp ((qJ _).mem_iff.mp c)).2
  rcases asz f with e|⟨w,a,e⟩
  .rwa [e]
  .obtain⟨q,g,rfl⟩:=dG.mp a
   rw[<-e]
   exact(hH.nm q (lK.mp g).1).2.1
theorem asC(h s:Str):∃o,(∀C,ur [.im (hsD ps' lv),.im (cJ z a1 b1 n),.im (.str h),.im (.str s),.im (.int aP)] C=aa (oE o,C))/\(∀r,o=aa r->r.length<=60)/\uQ (aaB o):=by
 obtain⟨o,e,c,a⟩:=JS (C:=[]) hN hH.parts hH.gen z a1 b1 n _ h s
 have d:∀r,o=aa r->r.length<=60/\∀k∈r,0<=k/\k<=2000:=λr e=>by
  subst e;have b:¬((h=a1\/h=b1)\/(s=a1\/s=b1)):=λk=>nomatch c k
  obtain⟨i,_⟩:=Zm (C:=[]) (Ah hH.gen _ n _ a1 b1) (Pj hH.gen _ n _ a1 b1) (a b)
  exact#[i,λk f=>aik hN hH z a1 b1 n _ (ahk (a b).1 k f)]
 refine#[o,λC=>?_,λr e=>(d r e).1,?_]
 .obtain⟨o',m,s1,g⟩:=JS hN hH.parts hH.gen z a1 b1 n aP h s
  have:=yj.unique #[c,a] #[s1,g]
  rwa [this]
 .cases o with
  |none=>exact#[(λds e=>nomatch e),aho]
  |some r=>
   obtain⟨l,j⟩:=d r rfl
   exact#[(λds e=>by cases e;rw[bR];lia),ahn j aK]
theorem auB(h s:Str):∃ds:List az,(∀C,z8 [.im (hsD ps' lv),.im (cJ z a1 b1 n),.im (.str h),.im (.str s),.im (.int aP)] C=aa (.ow (.list ds),C))/\gJ ds=aq/\uQ (.lst ds):=by
 refine hide λGG g=>?_
 obtain⟨xs,e,j,d,c⟩:=Yt (C:=[]) hN hH.parts hH.gen z a1 b1 n _ h s
 refine g (#[xs.map _,λC=>?_,Gj _,λds e=>?_,ahn (λk f=>?_) aK])
 .obtain⟨i,l,_,a,b⟩:=Yt hN hH.parts hH.gen z a1 b1 n _ h s
  rwa [aij d a λk=>(c k).trans (b k).symm]
 .grind
 .exact aik hN hH z a1 b1 n _ ((c k).mp f).num
theorem aqA(h s:Str):∃d:az,(∀C,Af [.im (hsD ps' lv),.im (.str z),.im (.tuple [.str a1,.str b1]),.im (.str h),.im (.str s),.im (.int aP)] C=aa (.im d,C))/\gb d=aq/\uQ (.dat d):=by
 obtain⟨o,e,M⟩:=Zi (C:=[]) hN hH.parts hH.gen
 refine#[Ia o,λC=>?_,?_,(λds e=>nomatch e),?_]
 .obtain⟨o',b,a⟩:=Zi hN hH.parts hH.gen
  rwa [M.unique a]
 .cases o<;>rfl
 .cases o with
  |none=>exact aho
  |some k=>exact#[rfl,(Ra M.1.1 (by have:=M.1.2;lia)).mono bh bh]
theorem auC(h s:Str)(ns:nameB s=aq)(xs:028)(hl:xs.length<=60):∃b:Bool,∀C,CW [.im (hsD ps' lv),.im (cJ z a1 b1 n),.im (.str h),.im (.str s),.im (.int aP),.im (.list (xs.map .int))] C=aa (.im (.bool b),C):=
 #[_,λC=>aqo hN hH.parts hH.gen z a1 b1 n _ h s xs hl ns]
end
def Ib:Option (List Int)->az
 |some r=>.list (r.map .int)
 |none=>.none
theorem auD(a b c:FS)(ao:En)(C:Ce):bN a (bN b c) ao C=bN (bN a b) c ao C:=by
 unfold bN
 grind
abbrev aE(ps':List (Str×Str))(lv:List cY)(z a1 b1:Str)(n aP:Int)(pe:List Str)(m:Nat)(v5 v6 v7:Option Vl):En:=
 [aa (.im (hsD ps' lv)),aa 06,aa 006,aa (00 aP),aa (.ce m),v5,v6,v7]
section
variable{zs:List Str}{ps ps':List (Str×Str)}{lv:List cY}(hN:Names zs)(hH:Hs zs ps ps' lv)(z a1 b1:Str)(n aP:Int)
include hN hH
theorem aqB(h s:Str)(ns:nameB s=aq):∃cs:List Bi,cs.length=4/\(∀b∈cs,uQ b)/\∀(C0 Δ:Ce)(pe:014)(m:Nat)(bs:List Bi)(v7:032),bs.length<=800->Told C0.length (C0++Δ) m bs->
  ∃m' El U',Qk (aE ps' lv z a1 b1 n aP pe m (aa (.im (.str h))) (aa (.im (.str s))) v7) (C0++Δ)=aa (.nx,aE ps' lv z a1 b1 n aP pe m' (aa (000 h)) (aa (000 s)) El,C0++U')/\Told C0.length (C0++U') m' (bs++cs):=by
 refine hide λGG A=>?_
 obtain⟨o,e1,t,G⟩:=asC hN hH z a1 b1 n aP h s
 obtain⟨ys,e2,n2,Q⟩:=auB hN hH z a1 b1 n aP h s
 obtain⟨d,D,B,k3⟩:=aqA hN hH z a1 b1 aP h s
 obtain⟨b,L⟩:=auC hN hH z a1 b1 n aP h s ns (o.getD [3]) (by cases o with|none=>decide|some r=>exact t r rfl)
 refine A (#[[aaB o,.lst ys,.dat d,.dat (.bool b)],rfl,λx k=>?_,λC0 Δ pe m bs v7 hl T=>?_])
 .rcases cB.mp k with rfl|k
  .exact G
  rcases cB.mp k with rfl|k
  .exact Q
  rcases cB.mp k with rfl|k
  .exact k3
  rw[jU.mp k]
  exact#[(λds e=>nomatch e),asB b]
 .obtain⟨v,a,H,s1,M,u⟩:=aqz (i:=4) (j:=7) (ao:=aE ps' lv z a1 b1 n aP pe m (aa (000 h)) (aa (000 s)) v7) (C0:=C0) (Δ:=Δ) (o:=o) (ys:=ys)
   (f:=bO ur (aD (aO 0) (aD (aO 1) (aD (aO 5) (aD (aO 6) (aD (aO 3) bD))))))
   (g:=bO z8 (aD (aO 0) (aD (aO 1) (aD (aO 5) (aD (aO 6) (aD (aO 3) bD)))))) bh rfl (by show 7<8;decide)
   (λC=>by
    have e:=e1 C;cases o with
    |none=>simp only[oE] at e⊢;simp_arith[e]
    |some r=>simp only[oE] at e⊢;simp_arith[e]) (λv C=>by have e:=e2 C;simp_arith[e]) n2 aK T
  have P:mQ [gR z,.int n,.str a1,.str b1] (aa 2) aj=[.str a1,.str b1]:=rfl
  obtain⟨c,J,K,I⟩:=Xz (i:=4) (ao:=aE ps' lv z a1 b1 n aP pe a (aa (.im (.str h))) (aa (.im (.str s))) (aa v)) (f:=bO Af (aD (aO 0) (aD (aX bW (aM 1) (aG (aW (.int 0)))) (aD (gC (aM 1) (fQ (aG (aW (.int 2)))) jc) (aD (aO 5) (aD (aO 6) (aD (aO 3) bD))))))) (r:=.im d) (b:=.dat d) rfl (by
   have e:=D (C0++H);simp_arith[gC,fQ,jc,m6,P,e]) (by simp only[qx,B,if_true]) rfl (by rw[fW];show _+2<=_;lia) M
  have N:lQ (bO CW (aD (aO 0) (aD (aO 1) (aD (aO 5) (aD (aO 6) (aD (aO 3) (aD (q9 (dR (aX yX (aM 7) (aG (aW .none)))) (dz GC (cM (aM 7) dw)) (iD (aD (aW (.int 3)) bD))) bD))))))) (aE ps' lv z a1 b1 n aP pe a (aa (.im (.str h))) (aa (.im (.str s))) (aa v)) (C0++c)=aa (.im (.bool b),aE ps' lv z a1 b1 n aP pe a (aa (000 h)) (aa (000 s)) (aa v),C0++c):=by
   have p:=GX (C0++c) (aE ps' lv z a1 b1 n aP pe a (aa (000 h)) (aa (000 s)) (aa v));have e:=L [];have F:(aE ps' lv z a1 b1 n aP pe a (aa (.im (.str h))) (aa (.im (.str s))) (aa v)).map (frC (C0++c))=[aa (.im (hsD ps' lv)),aa 06,aa 006,aa (00 aP),frC (C0++c) (aa (.ce a)),aa (000 h),aa (000 s),aa (.im (Ib o))]:=by
    cases o with
    |none=>cases show v=_ from u;rfl
    |some r=>
     obtain⟨q,rfl,ne,l⟩:=u
     have l:=I q _ ne l;have:frC (C0++c) (aa (.ce q))=aa (.im (Ib (aa r))):=by
      show(mj (C0++c) 0 4 q).map _=_
      rw[mj,bZ (lO _),l]
      show((rB _ ((r.map kZ).map .dat)).map am6).map Vl.im=_
      rw[Qm];rfl
     rw[<-this];rfl
   unfold lQ;rw[F] at p⊢;generalize frC (C0++c) (aa (.ce a))=y at p⊢;have run:(bO CW (aD (aO 0) (aD (aO 1) (aD (aO 5) (aD (aO 6) (aD (aO 3) (aD (q9 (dR (aX yX (aM 7) (aG (aW .none)))) (dz GC (cM (aM 7) dw)) (iD (aD (aW (.int 3)) bD))) bD))))))) [aa (.im (hsD ps' lv)),aa (.im (cJ z a1 b1 n)),aa (.im (.list (pe.map .str))),aa (.im (.int aP)),y,aa (.im (.str h)),aa (.im (.str s)),aa (.im (Ib o))] []=aa (.im (.bool b),[aa (.im (hsD ps' lv)),aa 06,aa 006,aa (00 aP),y,aa (000 h),aa (000 s),aa (.im (Ib o))],[]):=by
    cases o with
    |none=>
     simp only[Nk,dN,rN] at e;simp_arith[Ib,yX,isNone,e]
    |some r=>
     have q:(r.length<=1000000)=True:=eq_true (by have:=t r rfl;lia);simp only[IW] at e;simp_arith[Ib,yX,isNone,GC,q,e]
   rw[run,ir,bZ #[rfl,rfl]];exact congrArg (λe=>aa (_,e,C0++c)) p
  obtain⟨E,O,w,_⟩:=Xz (i:=4) (ao:=aE ps' lv z a1 b1 n aP pe a (aa (000 h)) (aa (000 s)) (aa v)) (r:=.im (.bool b)) (b:=.dat (.bool b)) rfl N rfl rfl (by rw[fW,fW];show _+2+1<=_;lia) K
  refine#[a,aa v,E,?_,?_]
  .unfold Qk;rw[auD];exact mJ s1 (mJ J O)
  .rw[ie,ie] at w;exact w
end
section
variable{zs:List Str}{ps ps':List (Str×Str)}{lv:List cY}(hN:Names zs)(hH:Hs zs ps ps' lv)(z a1 b1:Str)(n aP:Int)
include hN hH
theorem ae3(h:Str):∀a:List Str,(∀s∈a,nameB s=aq)->∃cs:List Bi,cs.length=4*a.length/\(∀b∈cs,uQ b)/\∀(C0 Δ:Ce)(pe:014)(m:Nat)(bs:List Bi)(v6 v7:032),bs.length+4*a.length<=800->Told C0.length (C0++Δ) m bs->
  ∃m' M3 El U',iY (dM 6) Qk (a.map .str) (aE ps' lv z a1 b1 n aP pe m (aa (.im (.str h))) v6 v7) (C0++Δ)=aa (.nx,aE ps' lv z a1 b1 n aP pe m' (aa (000 h)) M3 El,C0++U')/\Told C0.length (C0++U') m' (bs++cs)
 |[],_=>#[[],rfl,(λ_ k=>nomatch k),λC0 Δ pe m bs v6 v7 _ T=>#[m,v6,v7,Δ,rfl,by rwa [jg]]]
 |s::a,hs=>by
  obtain⟨A,y,g,o⟩:=aqB hN hH z a1 b1 n _ h s (hs s fV)
  obtain⟨c2,x,w,v⟩:=ae3 h a λq r=>hs q (fU _ r)
  refine#[_,by rw[fW,eZ];lia,λb d=>(gP.mp d).elim (g b) (w b),λC0 Δ pe m bs v6 v7 hl T=>?_]
  rw[eZ] at hl
  obtain⟨e,t,i,s1,u⟩:=o C0 Δ pe m bs v7 aK T
  obtain⟨c,p,j,f,l,B⟩:=v C0 i pe e _ _ t (by rw[fW];lia) u
  refine#[c,p,j,f,?_,by rwa [<-ie]]
  exact(Rk (h1:=rfl) (h2:=s1)).trans l
theorem anQ(h:Str)(u:nameB h=aq)(pe:014)(j:∀s∈pe,nameB s=aq):∃cs:List Bi,cs.length=1+4*pe.length/\(∀b∈cs,uQ b)/\∀(C0 Δ:Ce)(m:Nat)(bs:List Bi)(v6 v7:032),bs.length+(1+4*pe.length)<=800->Told C0.length (C0++Δ) m bs->
  ∃m' M3 El U',Xr (aE ps' lv z a1 b1 n aP pe m (aa (.im (.str h))) v6 v7) (C0++Δ)=aa (.nx,aE ps' lv z a1 b1 n aP pe m' (aa (000 h)) M3 El,C0++U')/\Told C0.length (C0++U') m' (bs++cs):=by
 refine hide λGG a=>?_
 obtain⟨b,e1,A⟩:=auA hN hH z a1 b1 n aP h u
 obtain⟨cs,y,w,v⟩:=ae3 hN hH z a1 b1 n aP h pe j
 refine a (#[b::cs,by rw[eZ];lia,λx d=>(cB.mp d).elim (λe=>by rwa [e]) (w x),λC0 Δ m bs v6 v7 hl T=>?_]);refine hide λGG a=>?_
 obtain⟨ds,rfl,nl,e⟩:=e1 (C0++Δ)
 obtain⟨k,s1,t,_⟩:=Xz (i:=4) (ao:=aE ps' lv z a1 b1 n aP pe m (aa (000 h)) v6 v7) (f:=bO yK (aD (aO 0) (aD (aO 1) (aD (aO 5) (aD (aO 3) bD))))) (r:=.ow (.list ds)) (b:=.lst ds) rfl (by simp_arith[e]) (by simp only[qx,nl,if_true]) rfl aK T
 obtain⟨c,p,q,g,l,o⟩:=v C0 k pe m _ v6 v7 (by rw[fW];show _+1+_<=_;lia) t
 refine a (#[c,p,q,g,mJ s1 ((aae rfl).trans l),?_])
 rwa [ie] at o
theorem ae4(pe:014)(a:∀s∈pe,nameB s=aq):∀hs:List Str,(∀s∈hs,nameB s=aq)->∃cs:List Bi,cs.length=(1+4*pe.length)*hs.length/\(∀b∈cs,uQ b)/\∀(C0 Δ:Ce)(m:Nat)(bs:List Bi)(v5 v6 v7:032),bs.length+(1+4*pe.length)*hs.length<=800->Told C0.length (C0++Δ) m bs->
  ∃m' Ej M3 El U',iY (dM 5) Xr (hs.map .str) (aE ps' lv z a1 b1 n aP pe m v5 v6 v7) (C0++Δ)=aa (.nx,aE ps' lv z a1 b1 n aP pe m' Ej M3 El,C0++U')/\Told C0.length (C0++U') m' (bs++cs)
 |[],_=>#[[],rfl,(λ_ k=>nomatch k),λC0 Δ m bs v5 v6 v7 _ T=>#[m,v5,v6,v7,Δ,rfl,by rwa [jg]]]
 |h::hs,hn=>by
  obtain⟨C,B,g,p⟩:=anQ hN hH z a1 b1 n _ h (hn h fV) pe a
  obtain⟨c2,A,y,x⟩:=ae4 pe a hs λq u=>hn q (fU _ u)
  refine#[_,by rw[fW,eZ,amP];lia,λb d=>(gP.mp d).elim (g b) (y b),λC0 Δ m bs v5 v6 v7 hl T=>?_]
  rw[eZ,amP] at hl
  obtain⟨e,t,v,i,s1,w⟩:=p C0 Δ m bs v6 v7 aK T
  obtain⟨c,l,r,j,f,o,D⟩:=x C0 i e _ _ t v (by rw[fW];lia) w
  refine#[c,l,r,j,f,?_,by rwa [<-ie]]
  exact(Rk (h1:=rfl) (h2:=s1)).trans o
theorem asD(pe:014)(a:∀s∈pe,nameB s=aq)(e:pe.length<=3):∃bs:List Bi,bs.length<=100/\(∀b∈bs,uQ b)/\∀C,∃m Δ,Kv [.im (hsD ps' lv),.im (cJ z a1 b1 n),.im (.list (pe.map .str)),.im (.int aP)] C=aa (m,C++Δ)/\Told C.length (C++Δ) m bs:=by
 obtain⟨bs,o,f,h⟩:=ae4 hN hH z a1 b1 n _ pe a pe a
 have t:(1+4*pe.length)*pe.length<=13*3:=al2 aK e
 refine#[bs,aK,f,λC=>?_]
 refine hide λGG c=>?_
 obtain⟨j,k,d,T0⟩:=aoI (l:=[]) rfl rfl bh
 obtain⟨m,p,q,r,g,s1,i⟩:=h C k j [] _ _ _ 07 T0
 exact c (#[m,g,asr rfl rfl (mJ d (mJ ((aae rfl).trans s1) rfl)),i])
end
theorem aqC(a:∀q,lo<=q->C'[q]?=C[q]?)(h:jF C lo xs bs):jF C' lo xs bs:=by
 induction h with
 |nil=>exact .nil
 |dat d _ ih=>exact .dat d ih
 |lst m ds hm hc _ ih=>exact .lst m ds hm ((a m hm).trans hc) ih
theorem ao4(f:b<lo)(e:∀q,q≠b->C'[q]?=C[q]?)(T:Told lo C m bs):Told lo C' m bs:=by
 obtain⟨xs,c,r,a,d⟩:=T.ex
 have k:∀q,lo<=q->C'[q]?=C[q]?:=λq h=>e q aK
 exact#[#[xs,(k m T.Bx).trans c,aqC k r,a,d],T.Bx]
theorem auE(h:Bl L C b k)(hl:C'.length=C.length)(c:C'[b]?=(C[b]?).map (Mt C.length)):Bl L C' b k:=by
 obtain⟨l,x,y,z,a,r⟩:=h
 refine#[hl.trans l,x,y,z,?_,r]
 rw[c,a];rfl
theorem asF(h:Bl L C b k)(Δ:Ce):Bl (C++Δ).length (C++Δ) b k:=by
 obtain⟨l,x,y,z,a,r⟩:=h
 exact#[rfl,x,y,z,Av a,r]
theorem aiG(h:Bl L C b k):b<C.length:=by
 obtain⟨_,x,y,z,a,_⟩:=h
 grind
def qX(bs:List Bi):Str:=(am6 (bs.map Bi.tree)).shown
theorem asG(hl:bs.length<=100)(h:∀b∈bs,uQ b):za [.list (bs.map Bi.tree)]=aa (000 (qX bs)):=by
 have A:∀d∈bs.map Bi.tree,Sd d:=λd a=>by
  obtain⟨b,c,rfl⟩:=dG.mp a
  exact(h b c).sd
 have s:=JN (λd a=>(A d a).sh) (by rwa [bR]);refine Eq.trans (b:=ZL [.list (bs.map Bi.tree)]) rfl (bZ ?_);rw[show iK (.list _)=aq from KC λd a=>(A d a).nd,s.S8,f9 (jw s.deep bh),f9 (jw s.len bh)];rfl
theorem af4(hi:ao[i]?=aa (aa (.ce m)))(T:Told lo C m bs)(hl:bs.length<=100)(h:∀b∈bs,uQ b):lQ (dz za (cM (aM i) dw)) ao C=aa (.im (.str (qX bs)),ao,C):=by
 have T0:Told 0 C m bs:=by
  obtain⟨xs,c,r,a,d⟩:=T.ex
  exact#[#[xs,c,r.low (lO _),a,d],lO _]
 have f:=ao2 (k:=2) T0;have e:(ao.map (frC C))[i]?=aa (aa (.im (.list (bs.map Bi.tree)))):=by
  rw[jN,hi];show aa ((mj C 0 4 m).map _)=_;simp_all
 have s:=asG hl h;have run:(dz za (cM (aM i) dw)) (ao.map (frC C)) []=aa (.im (.str (qX bs)),ao.map (frC C),[]):=by
  unfold dz cM aM dw;simp only[e,dat,mU,s,afz]
 unfold lQ;rw[run,ir];exact congrArg (λe=>aa (_,e,C)) (GX C _)
def oH(S:Int×Int×Int->Str)(k:Int×Int×Int):az×az:=(.tuple [.int k.1,.int k.2.1,.int k.2.2],.str (S k))
def k3(k:Int×Int×Int):TK:=([.inl k.1,.inl k.2.1,.inl k.2.2],aj)
theorem ahp(S:Int×Int×Int->Str):∀l:List (Int×Int×Int),cO lq (l.map (oH S))=aa (l.map k3)
 |[]=>rfl
 |k::l=>by
  rw[dN];unfold cO;rw[ahp S l];rfl
theorem af5(S:Int×Int×Int->Str)(k:Int×Int×Int):∀l:List (Int×Int×Int),pM lq (k3 k) (l.map (oH S))=aj\/pM lq (k3 k) (l.map (oH S))=aa (.str (S k))
 |[]=>.inl rfl
 |q::l=>by
  rw[dN,pM];by_cases e:lq (oH S q).1=aa (k3 k)
  .rw[bZ e];have:q=k:=by
    obtain⟨a,b,c⟩:=q
    obtain⟨rfl,rfl,rfl⟩:=e
    rfl
   rw[this];exact .inr rfl
  .rw[cC e];exact af5 S k l
theorem auF(S:Int×Int×Int->Str)(l:List (Int×Int×Int))(k:Int×Int×Int)(hl:l.length<=100):∃a:List (Int×Int×Int),Tc (l.map (oH S)) (.tuple [.int k.1,.int k.2.1,.int k.2.2]) (.str (S k))=aa (.str (S k),a.map (oH S))/\a.length<=l.length+1:=by
 have b:lq (.tuple [.int _,.int _,.int _])=aa (k3 k):=rfl;have c:(cO _ (l.map (oH S))).isSome=aq/\(l.map (oH S)).length<fG:=#[by rw[ahp];rfl,by rw[bR];unfold fG;lia]
 unfold Tc;rw[b,ir,bZ c];unfold aaV;rcases af5 S k l with e|e
 .rw[e]
  refine#[l++[k],?_,by grind]
  rw[kj];rfl
 grind
structure Rd(zs:List Str)(ls ts hs pp:List az)(pe:List Str):Prop where
 names:Names zs
 Ul:∀a:Int,0<=a->a<4->∃ps ps' lv,eX ls a=aa 013/\eX ts a=aa 008/\eX hs a=aa (hsD ps' lv)/\Hs zs ps ps' lv
 at2:∀b:Int,0<=b->b<2->∃z a1 b1 n,eX pp b=aa (cJ z a1 b1 n)
 pe0:0<pe.length
 pe3:pe.length<=3
 nm:∀s∈pe,nameB s=aq
structure Tf(hs pp:List az)(pe:List Str)(k:Int×Int×Int)(bs:List Bi):Prop where
 len:bs.length<=100
 ok:∀b∈bs,uQ b
 run:∀H P,eX hs k.1=aa H->eX pp k.2.1=aa P->∀C,∃m Δ,Kv [.im H,.im P,.im (.list (pe.map .str)),.im (.int k.2.2)] C=aa (m,C++Δ)/\Told C.length (C++Δ) m bs
theorem aqD(R:Rd zs ls ts hs pp pe):∃F:Int×Int×Int->List Bi,∀k,0<=k.1->k.1<4->0<=k.2.1->k.2.1<2->Tf hs pp pe k (F k):=by
 refine Classical.axiomOfChoice (r:=λk bs=>0<=k.1->k.1<4->0<=k.2.1->k.2.1<2->Tf hs pp pe k bs) λk=>?_
 by_cases c:(0<=k.1/\k.1<4)/\0<=k.2.1/\k.2.1<2
 .refine hide λGG g=>?_;obtain⟨ps,ps',lv,_,_,i,h⟩:=R.Ul _ c.1.1 c.1.2
  obtain⟨z,a1,b1,n,l⟩:=R.at2 _ c.2.1 c.2.2
  obtain⟨bs,j,o,k3⟩:=asD R.names h z a1 b1 n _ pe R.nm R.pe3
  exact g (⟨bs,λ_ _ _ _=>⟨j,o,λH P f e=>by
   rw[i] at f;rw[l] at e;cases f;cases e;trivial⟩⟩)
 .exact#[[],λa b m d=>absurd #[#[a,b],m,d] c]
abbrev lE(v0 v1:Option Vl)(b:Nat)(v3 v4 v5 v6:Option Vl)(aP:Int)(v8 v9:Option Vl)(ls ts hs pp:List az)(w14:Vl)(gZ:Option Vl)(au:List (az×az))(gO j8 j9 v20 jf iT g8:Option Vl):En:=
 [v0,v1,aa (.ce b),v3,v4,v5,v6,aa (00 aP),v8,v9,aa (005 ls),aa (005 ts),aa (005 hs),aa (005 pp),aa w14,gZ,aa (.ow (.dict au)),gO,j8,j9,v20,jf,iT,g8]
section
variable{v0 v1 v3 v4 v5 v6 v8 v9 gZ gO jf:Option Vl}{b:Nat}{aP a by_ wh:Int}{zs:List Str}{ls ts hs pp:List az}{pe:List Str}{au:List (az×az)}(R:Rd zs ls ts hs pp pe)(a0:0<=a)(a4:a<4)(c0:0<=by_)(c2:by_<2)
include R a0 a4 c0 c2
theorem aqE(e:Bl L C b (j+1))(h:Str)(r:032):∃c C',Yl (lE v0 v1 b v3 v4 v5 v6 aP v8 v9 ls ts hs pp (.im (.list (pe.map .str))) gZ au gO (aa (.im (.int a))) (aa (.im (.int by_))) (aa (.im (.int wh))) jf (aa (.im (.str h))) r) C=aa (.nx,lE v0 v1 b v3 v4 v5 v6 aP v8 v9 ls ts hs pp 006 gZ au gO (aa (00 a)) (aa (00 by_)) (aa (00 wh)) jf (aa (000 h)) c,C')/\Bl L C' b j/\∀q,q≠b->C'[q]?=C[q]?:=by
 refine hide λGG g=>?_
 have x:=R.pe0;have w:=R.pe3
 obtain⟨t,C1,e1,i,f,u,ne⟩:=aiD (m:=pe.length) e aK aK
 obtain⟨s,_,_,o⟩:=uq i f
 obtain⟨ps,ps',lv,l,p,k3,hH⟩:=R.Ul a a0 a4
 obtain⟨z,a1,b1,n,k⟩:=R.at2 _ c0 c2
 have d:=am5 (C:=C1) R.names hH z a1 b1 n wh h s;have v:(pe.length<=1000000)=True:=eqT;refine g #[aa (.im (.tuple [.str h,.str s])),C1,(oW (e1:=lE v0 v1 b v3 v4 v5 v6 aP v8 v9 ls ts hs pp 006 gZ au gO (aa (00 a)) (aa (00 by_)) (aa (00 wh)) jf (aa (000 h)) (aa (.im (.tuple [.str h,.str s])))) (C1:=C1) ?_).trans ?_,u,ne]
 .simp_arith[e1,o]
 .simp_arith[l,p,k3,k,d]
theorem af6:∀(e:014){C:Ce}{j:Nat}(g i:032),Bl L C b (j+e.length)->∃c d C',iY (dM 22) Yl (e.map .str) (lE v0 v1 b v3 v4 v5 v6 aP v8 v9 ls ts hs pp (.im (.list (pe.map .str))) gZ au gO (aa (.im (.int a))) (aa (.im (.int by_))) (aa (.im (.int wh))) jf g i) C=aa (.nx,lE v0 v1 b v3 v4 v5 v6 aP v8 v9 ls ts hs pp 006 gZ au gO (aa (00 a)) (aa (00 by_)) (aa (00 wh)) jf c d,C')/\Bl L C' b j/\∀q,q≠b->C'[q]?=C[q]?
 |[],C,j,g,i,hB=>#[_,_,C,rfl,hB,λ_ _=>rfl]
 |h::e,C,j,g,i,hB=>by
  obtain⟨l,C1,e1,m,n1⟩:=aqE R a0 a4 c0 c2 (by rwa [eZ] at hB) h _
  obtain⟨c,d,C2,e2,f,n2⟩:=af6 e _ _ m
  refine#[c,d,C2,?_,f,λq k=>(n2 q k).trans (n1 q k)]
  exact(Rk (h1:=rfl) (h2:=e1)).trans e2
end
theorem aqF{i:Nat}{fk a:FB}{fe:FE}{g:FS}{ao:En}{C:Ce}{s:Str}(c:ao[i]?=aa (aa (.ow (.dict au))))(d:fk ao C=aa (dk,ao,C))(he:fe ao C=aa (.im (.str s),ao,C))(hd:Tc au dk (.str s)=aa (.str s,kvs'))(b:a (ao.set i (aa (.ow (.dict kvs')))) C=aa (.str s,ao.set i (aa (.ow (.dict kvs'))),C)):
  LK i fk fe a g ao C=aa (.nx,ao.set i (aa (.ow (.dict kvs'))),C):=by
 unfold LK;simp only[c,MN,ir,d,he,still,wF,hd,b,GF,decide_true];rfl
section
variable{v0 v1 v3 v4 v5 v6 v8 v9 gZ:Option Vl}{b:Nat}{aP:Int}{zs:List Str}{ls ts hs pp:List az}{pe:List Str}(R:Rd zs ls ts hs pp pe){F:Int×Int×Int->List Bi}(hF:∀k,0<=k.1->k.1<4->0<=k.2.1->k.2.1<2->Tf hs pp pe k (F k))
include R hF
theorem asH{C:Ce}{l:List (Int×Int×Int)}(L:Bl C.length C b (j+6))(hl:l.length<=50)(K:w14=.ow (.list (pe.map .str))\/w14=.im (.list (pe.map .str)))(gO Y P B jf p o:032):
  ∃(g:List (Int×Int×Int))(y A r s e d:032)(C':Ce),Ym (lE v0 v1 b v3 v4 v5 v6 aP v8 v9 ls ts hs pp w14 gZ (l.map (oH λk=>qX (F k))) gO Y P B jf p o) C=aa (.nx,lE v0 v1 b v3 v4 v5 v6 aP v8 v9 ls ts hs pp 006 gZ (g.map (oH λk=>qX (F k))) gO y A r s e d,C')/\g.length<=l.length+1/\Bl C'.length C' b j:=by
 refine hide λGG gg=>?_
 have p3:=R.pe3
 obtain⟨a,C1,e1,a0,a4,S⟩:=fZ (m:=4) (k:=j+5) L bh bh
 obtain⟨t,C2,e2,t0,t4,x⟩:=fZ (m:=4) (k:=j+4) S bh bh
 obtain⟨u,h,U,u0,u2,q⟩:=fZ (m:=2) (k:=j+3) x bh bh
 obtain⟨c,hc⟩:∃c,c=t / 3:=05
 have fd:vH (.int t) (.int 3)=aa (00 c):=by rw[hc];exact fdiv_eq bh bh
 have c0:0<=c:=aK;have c2:c<2:=aK
 obtain⟨wh,D⟩:∃wh:Int,wh=if aP-u>0 then aP-u else 0:=05
 have mx:xO [.int 0,.int (aP-u)]=aa (00 wh):=by rw[D];rfl
 obtain⟨ps,ps',lv,k1,k2,k3,hH⟩:=R.Ul a a0 a4
 obtain⟨z,a1,b1,n,w⟩:=R.at2 c c0 c2
 have f:=hF (a,c,wh) a0 a4 c0 c2
 obtain⟨m,Δ,I,T⟩:=f.run _ _ k3 w h
 obtain⟨g,ed,V⟩:=auF (λk=>qX (F k)) l (a,c,wh) aK
 have Z:=asF q Δ;have G:b<h.length:=aiG q
 obtain⟨e,d,Q,N,J,ne⟩:=af6 (v0:=v0) (v1:=v1) (v3:=v3) (v4:=v4) (v5:=v5) (v6:=v6) (v8:=v8) (v9:=v9) (gZ:=gZ) (gO:=gO) (jf:=aa (.ce m)) (aP:=aP) (wh:=wh) (au:=g.map (oH λk=>qX (F k))) R a0 a4 c0 c2 pe (j:=j) p o (Z.mono aK)
 have O:=ao4 G ne T
 obtain⟨E,e7,M,n5⟩:=ao3 O (by have:=f.len;lia) λds W=>(f.ok _ W).few ds rfl
 have X:b<Q.length:=aiG J;have H:=auE J M (n5 b G X);refine gg #[g,aa (00 a),aa (00 c),aa (00 wh),aa (.ce m),e,d,E,mJ (e1:=lE v0 v1 b v3 v4 v5 v6 aP v8 v9 ls ts hs pp w14 gZ (l.map (oH λk=>qX (F k))) gO (aa (00 a)) (aa (00 c)) (aa (00 wh)) jf p o) (C1:=h) ?_ (mJ (e1:=lE v0 v1 b v3 v4 v5 v6 aP v8 v9 ls ts hs pp 006 gZ (l.map (oH λk=>qX (F k))) gO (aa (00 a)) (aa (00 c)) (aa (00 wh)) (aa (.ce m)) p o) (C1:=h++Δ) ?_ (mJ (e1:=lE v0 v1 b v3 v4 v5 v6 aP v8 v9 ls ts hs pp 006 gZ (g.map (oH λk=>qX (F k))) gO (aa (00 a)) (aa (00 c)) (aa (00 wh)) (aa (.ce m)) p o) (C1:=h++Δ) ?_ (mJ ((aae (aN:=pe.map .str) rfl).trans N) ?_))),V,?_]
 .simp only[lE];simp_arith[e1,e2,U,fd,mx]
 .rcases K with rfl|rfl
  .simp only[lE];simp_arith[K7,k3,w,I]
  .simp only[lE];simp_arith[K7,k3,w,I]
 .refine aqF (dk:=.tuple [.int a,.int c,.int wh]) rfl ?_ (af4 rfl T f.len f.ok) ed ?_
  .simp only[lE];simp_arith[]
  .have v:=af4 (ao:=(lE v0 v1 b v3 v4 v5 v6 aP v8 v9 ls ts hs pp 006 gZ (l.map (oH λk=>qX (F k))) gO (aa (00 a)) (aa (00 c)) (aa (00 wh)) (aa (.ce m)) p o).set 16 (aa (.ow (.dict (g.map (oH λk=>qX (F k))))))) (i:=21) rfl T f.len f.ok;unfold aG;rw[v];rfl
 .simp only[lE];simp_arith[e7]
 .have:E.length=(h++Δ).length:=H.1;rw[this];exact H
end
section
variable{zs:List Str}{ps ps':List (Str×Str)}{lv:List cY}(hN:Names zs)(hH:Hs zs ps ps' lv)
include hN hH
theorem RL:lH 3 37975 (hsD ps' lv):=by
 have k:∀{z},z∈zs->lH 0 82 _:=λh=>GD (zR.name (hN.2 _ h))
 have m:∀p∈ps',lH 0 82 (.str _)/\lH 0 82 (.str p.2):=λp f=>by
  have f:=hH.gen.parts.mem_iff.mp f
  obtain⟨i,hi,rfl⟩:=wQ f
  obtain⟨o,u⟩:=hH.parts i _ (mH hi)
  refine#[k (pZ o),?_]
  rcases u with e|⟨j,_,g⟩
  .rw[e];exact GD au7
  .exact k (pZ g)
 have in_:∀{z},z∈ps.map (·.1)->z∈zs:=λh=>by
  obtain⟨p,f,rfl⟩:=dG.mp h
  obtain⟨i,hi,rfl⟩:=wQ f
  exact pZ (hH.parts i _ (mH hi)).1
 have l:∀{i:Int},0<=i->i<10^12->lH 0 82 _:=λa b=>(Ra a b).mono 046 bh
 have v:ps'.length<=8:=by rw[hH.gen.parts.length_eq];exact hH.gen.p8
 have A:lH 2 9491 (.tuple (ps'.map Bd)):=(Df (e:=1) (λd c=>by
  obtain⟨p,f,rfl⟩:=dG.mp c
  refine Df (B:=82) (C:=2) (λd c=>?_) 046;rcases cB.mp c with rfl|c
  .exact(m p f).1
  .rw[jU.mp c];exact(m p f).2) (by rwa [bR])).mono bh bh
 have B:lH 2 9491 (.tuple (lv.map bU)):=(Df (e:=1) (λd c=>by
  obtain⟨r,t,rfl⟩:=dG.mp c
  have K:=hH.gen.leaves r t;have n:=K.num;have s:=K.days;have q:=K.most;refine Df (B:=82) (C:=7) (λd c=>?_) 046;rcases cB.mp c with rfl|c
  .exact l n.1 aK
  rcases cB.mp c with rfl|c
  .exact k K.giver
  rcases cB.mp c with rfl|c
  .exact k K.taker
  rcases cB.mp c with rfl|c
  .exact k (in_ K.part)
  rcases cB.mp c with rfl|c
  .exact l s.1 aK
  rcases cB.mp c with rfl|c
  .exact l aK aK
  rw[jU.mp c];exact l q.1 aK) (by rw[bR];exact hH.gen.jd)).mono bh bh
 have E:lH 2 9491 _:=(Df (ds:=[]) (e:=1) (B:=0) (λd c=>nomatch c) 046).mono bh bh;refine Df (B:=9491) (C:=4) (λd c=>?_) 046;rcases cB.mp c with rfl|c
 .exact A
 rcases cB.mp c with rfl|c
 .exact E
 rcases cB.mp c with rfl|c
 .exact B
 rwa [jU.mp c]
end
theorem ahq(hz:nameB z=aq)(f:nameB a1=aq)(b:nameB b1=aq)(c:0<=n)(n1:n<=1000000000):lH 3 37975 (cJ z a1 b1 n):=by
 refine(Df (e:=0) (B:=82) (C:=4) (λd a=>?_) 046).mono bh bh
 rcases cB.mp a with rfl|a
 .exact GD (zR.name hz)
 rcases cB.mp a with rfl|a
 .exact(Ra c aK).mono 046 bh
 rcases cB.mp a with rfl|a
 .exact GD (zR.name f)
 rw[jU.mp a];exact GD (zR.name b)
theorem asI(g:hs.length<=4)(e:pp.length<=4)(i:∀d∈hs,iK d=aq/\lH 3 37975 d)(f:∀d∈pp,iK d=aq/\lH 3 37975 d):∃t:Str,za [.list [.list hs,.list pp]]=aa (000 t):=by
 have one:∀l,l.length<=4->(∀d∈l,iK d=aq/\lH 3 37975 d)->iK (.list l)=aq/\lH 4 _ _:=λl hl h=>#[KC λd c=>(h d c).1,JN (λd c=>(h d c).2) hl]
 have a:=one hs g i;have b:=one pp e f;have s:=JN (C:=2) (λd c=>by
  rcases cB.mp c with rfl|c
  .exact a.2
  .rw[jU.mp c];exact b.2) (cH _)
 refine#[_,Eq.trans rfl (bZ ?_)]
 rw[show iK (.list _)=aq from KC λd c=>by grind,s.S8,f9 (jw s.deep bh),f9 (jw s.len bh)];rfl
theorem Ul(a b c d:az)(e:0<=k)(h1:k<4):(k=0/\eX [a,b,c,d] k=aa a)\/(k=1/\eX [a,b,c,d] k=aa b)\/(k=2/\eX [a,b,c,d] k=aa c)\/(k=3/\eX [a,b,c,d] k=aa d):=by
 have:k=0\/k=1\/k=2\/k=3:=aK;rcases this with rfl|rfl|rfl|rfl
 .exact .inl #[rfl,Lr _ _]
 .exact .inr (.inl #[rfl,Ls _ _ _])
 .exact .inr (.inr (.inl #[rfl,aaS _ _ _ _]))
 .exact .inr (.inr (.inr #[rfl,ai9 _ _ _ _ _]))
theorem at2(a b:az)(c:0<=k)(h1:k<2):eX [a,b] k=aa a\/eX [a,b] k=aa b:=by
 have:k=0\/k=1:=aK;rcases this with rfl|rfl
 .exact .inl (Lr _ _)
 .exact .inr (Ls _ _ _)
theorem ao5(hN:054)(hP:iU zs ps):T9 008=aa ((ps.map (·.1)).map .str)/\jy .one dU Yn [] ((ps.map (·.1)).map .str) C=aa (ps.map (λp=>.tuple [.str p.1,.str (gV "")]),C)/\Rz [.list (ps.map λp=>.tuple [.str p.1,.str (gV "")])]=aa (011 (cD (oZ ps))):=by
 have b:=CV
 refine#[?_,?_,?_]
 .show(if(cO _ _).isSome then aa _ else aj)=_
  rw[b]
  refine(bZ rfl).trans (congrArg _ ?_)
  unfold bI cD;rw[dJ,dJ,dJ];rfl
 .have:=oN (T:=.one) (ft:=dU) (fe:=Yn) (fs:=[]) (C:=C) _ _ _ (l:=ps.map (·.1)) λz _=>#[[.str z],rfl,rfl,λ_=>#[_,_,rfl,rfl]]
  rw[BP.mpr λ_ _=>rfl] at this
  rwa [show(ps.map λp=>vh _)=(ps.map _).map (λz=>.tuple [.str z,.str (gV "")]) by rw[dJ];rfl]
 .have a:pairsOf (ps.map λp=>.tuple [.str p.1,.str (gV "")])=aa (bI (cD (oZ ps))):=by
   clear hP;induction ps with
   |nil=>rfl
   |cons p ps ih=>
    rw[dN,pairsOf,ih];rfl
  show(pairsOf _).bind _=_
  rw[a,ir];have c:=Fx hN hP;have e:((cD (oZ ps)).map λp=>(lX p.1:Key))=(ps.map (·.1)).map lX:=by
   unfold cD oZ;rw[dJ,dJ,dJ];rfl
  grind
section
variable{v0 v1 v3 v4 v5 v6 v8 v9 gZ:Option Vl}{b:Nat}{aP:Int}{zs:List Str}{ls ts hs pp:List az}{pe:List Str}(R:Rd zs ls ts hs pp pe){F:Int×Int×Int->List Bi}(hF:∀k,0<=k.1->k.1<4->0<=k.2.1->k.2.1<2->Tf hs pp pe k (F k))
include R hF
theorem af7:∀(is:036){C:Ce}{j:Nat}{l:List (Int×Int×Int)}{w14:Vl}(gO o p e jf n r:032),Bl C.length C b (j+6*is.length)->l.length+is.length<=50->(w14=.ow (.list (pe.map .str))\/w14=.im (.list (pe.map .str)))->
  ∃(A:List (Int×Int×Int))(s:Vl)(m i g h c a f:032)(C':Ce),iY (dM 17) Ym is (lE v0 v1 b v3 v4 v5 v6 aP v8 v9 ls ts hs pp w14 gZ (l.map (oH λk=>qX (F k))) gO o p e jf n r) C=aa (.nx,lE v0 v1 b v3 v4 v5 v6 aP v8 v9 ls ts hs pp s gZ (A.map (oH λk=>qX (F k))) m i g h c a f,C')/\Bl C'.length C' b j
 |[],C,j,l,w14,gO,o,p,e,jf,n,r,hB,_,_=>#[l,_,_,_,_,_,_,_,_,C,rfl,hB]
 |d::is,C,j,l,w14,gO,o,p,e,jf,n,r,hB,hl,hw=>by
  rw[eZ] at hB hl
  obtain⟨x,u,z,B,y,t,w,C1,e1,E,D⟩:=asH (l:=l) (j:=j+6*is.length) R hF (hB.mono aK) aK hw _ _ _ _ jf n _
  obtain⟨v,s,m,i,g,h,c,a,f,C2,e2,q⟩:=af7 is (l:=x) _ _ _ _ _ _ _ D aK (.inr rfl)
  exact#[v,_,_,_,_,_,c,a,f,C2,(Rk (h1:=rfl) (h2:=e1)).trans e2,q]
end
theorem Le(hN:054)(hP:iU zs ps)(c:ps.length<=8)(p1:ps'.Perm ps)(d:053)(hl:∀r∈lv,Al zs (ps.map (·.1)) r)(b:(lv.map (·.1)).Pairwise (·<·)):Hs zs ps ps' lv:=
 #[hP,aur p1 c d hl (b.imp λh=>Wg h),λr a=>#[hN.2 _ (hl r a).giver,hN.2 _ (hl r a).taker,WW hN hP (hl r a).part],b]
abbrev gE(v0 v1:Option Vl)(b:Nat)(v3 v4:Option Vl)(lv:List cY)(v6 v7 v8 v9 v10 v11 gk m7 o9 gZ pA gO j8 j9 v20 jf iT g8:Option Vl):En:=
 [v0,v1,aa (.ce b),v3,v4,aa (.im 013),v6,v7,v8,v9,v10,v11,gk,m7,o9,gZ,pA,gO,j8,j9,v20,jf,iT,g8]
theorem asJ(k:Ui lv)(G:053)(o:(lv.map (·.1)).Nodup)(p:Bl L C b (j+1))(v0 v1 v3 v4 v6 v7 v8 v9 v10 v11 gk B w gZ s gO n u i jf y A:032):
  ∃(d:az)(h:055)(C':Ce),cP 9 (q9 (dR (aX j6 (aM 5) (aG (iD bD)))) (aX bW (aM 5) (aG (bO cV (aD (aO 2) (aD (dz jY (cM (aM 5) dw)) bD))))) (aW .none)) (gE v0 v1 b v3 v4 lv v6 v7 v8 v9 v10 v11 gk B w gZ s gO n u i jf y A) C=aa (.nx,gE v0 v1 b v3 v4 lv v6 v7 v8 (aa (.im d)) v10 v11 gk B w gZ s gO n u i jf y A,C')/\(∀C2,jy .one Yo Yp [aa (.im d)] (lv.map bU) C2=aa (h.map bU,C2))/\h.Sublist lv/\Bl L C' b j:=by
 have I:rH 2 (.list (lv.map bU)):=Z4 λd a=>by
  obtain⟨r,g,rfl⟩:=dG.mp a
  obtain⟨n1,n2,F⟩:=k r g
  refine aud λd a=>?_
  rcases cB.mp a with rfl|a
  .exact Ks _
  rcases cB.mp a with rfl|a
  .exact Y9 n1
  rcases cB.mp a with rfl|a
  .exact Y9 n2
  rcases cB.mp a with rfl|a
  .exact Y9 F
  rcases cB.mp a with rfl|a
  .exact Ks _
  rcases cB.mp a with rfl|a
  .exact Ks _
  rw[jU.mp a];exact Ks _
 have ne:=ajd I bh;rw[List.isEmpty_map] at ne;cases lv with
 |nil=>
  refine#[.none,[],C,?_,λC2=>rfl,IV _,p.dec]
  have ne:=nn0;simp only[gE];simp_arith[ne]
 |cons r0 lv=>
  obtain⟨c,f⟩:∃c,c=r0::lv:=05
  have K:0<c.length:=by rw[f];exact V1 _
  have ne:j6 (.list (c.map bU)) (.list [])=aa (.im 037):=by rw[f];exact ne
  rw[<-f] at k G o⊢;refine hide λGG E=>?_
  obtain⟨t,C1,e1,H,D,J⟩:=fZ (m:=(c.length:Int)) p aK aK
  obtain⟨x,ex,v⟩:=ZR (xs:=c.map bU) H (by rw[bR];exact D)
  rw[jN] at v
  obtain⟨r,g,rfl⟩:=pY.mp v
  have g:=pZ g;have q:(c.length<=1000000)=True:=eqT;refine E (#[bU r,DP c r.1,C1,?_,λC2=>?_,akW,J])
  .simp only[gE];simp_arith[ne,q,e1,ex]
  .exact oN (T:=.one) (ft:=Yo) (fe:=Yp) (fs:=[aa (.im (bU r))]) (C:=C2) bU (λq=>!(q.1==r.1)) bU (l:=c) λq z=>⟨[bU q],rfl,by
    have e:=aiF (k q z) (k r g) (Ri o q z r g);simp_arith[gK,m8,lN,e],λ_=>⟨.im (bU q),_,rfl,rfl⟩⟩
theorem asK{pe:014}(h:0<pe.length):∃s∈pe,eX (pe.map gR) (-1)=aa (.str s):=by
 have g:=mH (show pe.length-1<pe.length by lia)
 refine#[_,pZ g,?_]
 unfold eX qt;rw[bR,cC bh,bZ aK,ir,show(-1+(pe.length:Int)).toNat=pe.length-1 by lia,jN,g];rfl
abbrev dP(ps:List (Str×Str)):az:=.dict (bI (cD ps))
abbrev dL(lv:List cY):az:=.list (lv.map bU)
theorem auG(p:029)(l:055):gb (hsD p l)=aq:=by
 show(gJ _&&(gJ []&&(gJ _&&(gJ []&&aq))))=aq
 rw[Kw (λ_=>rfl) p,CN];rfl
theorem ao6(b:yL [.im (dP ps),.im (dL lv)] C=aa (.im (hsD p0 lv),C))(h1:yL [.im (dP ps),.im (dL ov)] C=aa (.im (hsD p1 ov),C))(h2:yL [.im (dP ps),.im (dL lw)] C=aa (.im (hsD p2 lw),C))(a:yL [.im (dP fl),.im (dL lv)] C=aa (.im (hsD p3 lv),C)):
  jy (.many 2) dU JQ [] [.tuple [dP ps,dL lv],.tuple [dP ps,dL ov],.tuple [dP ps,dL lw],.tuple [dP fl,dL lv]] C=aa ([hsD p0 lv,hsD p1 ov,hsD p2 lw,hsD p3 lv],C):=by
 have st:∀{d l x:az}{r ys:List _},yL [.im d,.im l] C=aa (.im x,C)->jy (.many 2) dU JQ [] r C=aa (ys,C)->jy (.many 2) dU JQ [] (.tuple [d,l]::r) C=aa (x::ys,C):=λ{d l x r ys} e h=>by
  have run:JQ (gK [d,l]++[]) C=aa (.im x,[aa (.im d),aa (.im l)],C):=by simp_arith[gK,jg,e]
  rw[jy];simp only[show yr (.many 2) (.tuple [d,l])=aa _ from rfl,dU,run,still,h]
 exact st b (st h1 (st h2 (st a rfl)))
theorem aww{pe:014}(h:2<=pe.length):∃a:List Str,mQ (pe.map gR) aj (aa 3)=a.map .str/\0<a.length/\a.length<=3/\∀x∈a,x∈pe:=by
 refine#[pe.take 3,?_,by grind,by grind,λx b=>Eo b]
 unfold mQ;rw[show HT.fD _ 0 _=0 from rfl,show(aa (3))=aa ((3:Nat):Int) from rfl,HT.Q0];simp_all
theorem aqG{i:Nat}(hi:i<=90)(v2 v3 v4 v5 v6 v7 v8 v9 v10 v11 gk H E gZ G gO B v g jf D A:032):
  ∃(w2 w3 w4 w5 w6 w7 w8 w9 w10 w11 w12 w13 w14 w15 w16 T Q S J L N M:032)(C':Ce),afL [aa (.sc ns),aa (.im (.int (0+(i:Int)))),v2,v3,v4,v5,v6,v7,v8,v9,v10,v11,gk,H,E,gZ,G,gO,B,v,g,jf,D,A] C1=aa (.nx,[aa (.sc ns),aa (00 (0+(i:Int))),w2,w3,w4,w5,w6,w7,w8,w9,w10,w11,w12,w13,w14,w15,w16,T,Q,S,J,L,N,M],C'):=by
 refine hide λGG gg=>?_
 obtain⟨x,y,hb,x0⟩:=aqa (C:=C1) (ns:=ns) (k:=0+(i:Int)) aK aK
 have hB:=at7 (y:=y) C1 x0
 obtain⟨b,U⟩:∃b,b=C1.length:=05
 obtain⟨zs,ps,pe,lv,z,a1,b1,n,aP,C2,e2,K,W⟩:=ash (most:=12) (j:=799540) hB bh bh
 obtain⟨t,C3,e3,t0,t1,V⟩:=fZ (m:=13) (k:=799539) W bh bh
 have kt:=K.two;have kf:=K.few
 obtain⟨e,C4,e4,⟨o16,_⟩,oo,or_,_,rJ⟩:=aeQ (j:=799100) (z:=z) (a1:=a1) (b1:=b1) (many:=t) (V.mono aK) K.names K.parts K.p0 K.p8 K.two aK K.avF K.R9 K.n0 K.n1 K.d0 K.d1 t0 aK
 rw[<-U] at W V rJ e2 e3 e4;have lo:∀r∈lv,Al zs (ps.map (·.1)) r:=λr h=>(K.leaves r h).1
 have nm:Ui lv:=(Le K.names K.parts K.p8 (Je ps) K.jd lo K.rise).nm
 obtain⟨d,o,u,e5,cm,sub,wM⟩:=asJ (j:=799000) nm K.jd (K.rise.imp λh=>Wg h) (rJ.mono aK) (aa (.sc ns)) (aa (00 (0+(i:Int)))) (aa (.im (dP ps))) (aa 006) (aa 06) (aa (00 aP)) (aa (.ow (dL e))) v9 v10 v11 gk H E gZ G gO B v g jf D A
 have awx:o.length<=16:=jw sub.length_le K.jd
 obtain⟨ik,fc,fd⟩:=ao5 (C:=u) K.names K.parts
 have fP:iU zs (oZ ps):=λi p hp=>by
  unfold oZ at hp;rw[jN] at hp
  obtain⟨q,hq,rfl⟩:=pY.mp hp
  exact#[(K.parts i q hq).1,.inl rfl]
 have f8:(oZ ps).length<=8:=by unfold oZ;rw[bR];exact K.p8
 have f0:0<(oZ ps).length:=by unfold oZ;rw[bR];exact K.p0
 obtain⟨P,q0,h0⟩:=Ph (C:=u) K.p0 K.p8 lv
 obtain⟨p1,q1,h1⟩:=Ph (C:=u) K.p0 K.p8 e
 obtain⟨p2,q2,h2⟩:=Ph (C:=u) K.p0 K.p8 o
 obtain⟨O,q3,h3⟩:=Ph (C:=u) f0 f8 lv
 have H0:=Le K.names K.parts K.p8 q0 K.jd lo K.rise;have H1:=Le K.names K.parts K.p8 q1 o16 (λr h=>(oo r h).1) or_;have H2:=Le K.names K.parts K.p8 q2 awx (λr h=>lo r (sub.subset h)) (K.rise.sublist (sub.map _));have H3:=Le K.names fP f8 q3 K.jd (by rw[flat_keys];exact lo) K.rise;have c7:=ao6 h0 h1 h2 h3
 obtain⟨sl,msl,il⟩:=asK (pe:=pe) aK
 obtain⟨X,msf,_,if_⟩:=uq (zs:=pe) (k:=0) bh aK
 have fd2:vH (.int n) (.int 2)=aa (00 (n / 2)):=fdiv_eq bh bh;have kn0:=K.n0;have kn1:=K.n1
 obtain⟨Z,ct,s0,s3,Y⟩:=aww K.two
 have I:∀{x},x∈zs->nameB x=aq:=λh=>K.names.2 _ h
 obtain⟨tx,st⟩:=asI (hs:=[hsD P lv,hsD p1 e,hsD p2 o,hsD O lv]) (pp:=[cJ z a1 b1 n,cJ z sl X (n / 2)]) (by show 4<=4;decide) (by show 2<=4;decide) (λd w=>by
  rcases cB.mp w with rfl|w
  .exact#[Qf _,RL K.names H0]
  rcases cB.mp w with rfl|w
  .exact#[Qf _,RL K.names H1]
  rcases cB.mp w with rfl|w
  .exact#[Qf _,RL K.names H2]
  rw[jU.mp w]
  exact⟨Qf _,RL K.names H3⟩) (λd w=>by
  rcases cB.mp w with rfl|w
  .exact#[rfl,ahq (I K.aji) (I K.awu) (I K.awv) kn0 kn1]
  rw[jU.mp w]
  exact⟨rfl,ahq (I K.aji) (I (K.R9 _ msl)) (I (K.R9 _ msf)) aK aK⟩)
 have R:Rd zs [dL lv,dL e,dL o,dL lv] [dP ps,dP ps,dP ps,dP (oZ ps)] [hsD P lv,hsD p1 e,hsD p2 o,hsD O lv] [cJ z a1 b1 n,cJ z sl X (n / 2)] Z:=by
  refine#[K.names,λa a0 a4=>?_,λc c0 c2=>?_,s0,s3,λs hs=>I (K.R9 s (Y s hs))]
  .have:a=0\/a=1\/a=2\/a=3:=aK;rcases this with rfl|rfl|rfl|rfl
   .exact#[_,_,_,rfl,rfl,rfl,H0]
   .exact#[_,_,_,rfl,rfl,rfl,H1]
   .exact#[_,_,_,rfl,rfl,rfl,H2]
   .exact#[_,_,_,rfl,rfl,rfl,H3]
  .have:c=0\/c=1:=aK;rcases this with rfl|rfl
   .exact#[_,_,_,_,rfl]
   .exact#[_,_,_,_,rfl]
 obtain⟨F,hF⟩:=aqD R
 have B5:Bl u.length u b 799000:=by rw[wM.1];exact wM
 obtain⟨l',Um,T,Q,S,J,L,N,M,C6,e6,yu⟩:=af7 (v0:=aa (.sc ns)) (v1:=aa (00 (0+(i:Int)))) (v3:=aa (.im (dP ps))) (v4:=aa 006) (v5:=aa (.im (dL lv))) (v6:=aa 06) (v8:=aa (.im (dL e))) (v9:=aa (.im d)) (gZ:=aa (000 tx)) (aP:=aP) R hF (lU 0 6) (l:=[]) (j:=0) (w14:=.ow (.list (Z.map .str))) gO B v g jf D A (B5.mono (by rw[JL];decide)) (by rw[JL];decide) 038
 have qo:(e.length<=1000000)=True:=eqT;have qw:(o.length<=1000000)=True:=eqT;have qp:(ps.length<=1000000)=True:=eq_true (by have:=K.p8;lia);have nlp:gJ (ps.map λp=>vh [.str p.1,.str (gV "")])=aq:=Kw (λ_=>rfl) _;have nlh:gJ [hsD P lv,hsD p1 e,hsD p2 o,hsD O lv]=aq:=by
  have h:=λp l=>auG p l
  simp only[gJ,h,Bool.and_true]
 have nlw:=CN o;refine gg #[_,_,_,_,_,_,_,_,_,_,_,_,_,_,_,_,_,_,_,_,_,_,C6,(mJ (e1:=[aa (.sc ns),aa (00 (0+(i:Int))),aa (.ce b),v3,v4,v5,v6,v7,v8,v9,v10,v11,gk,H,E,gZ,G,gO,B,v,g,jf,D,A]) (C1:=C1++[inC [x,y,0]]) ?_ ?_:_=aa (Fl.nx,lE (aa (.sc ns)) (aa (00 (0+(i:Int)))) b (aa (.im (dP ps))) (aa 006) (aa (.im (dL lv))) (aa 06) aP (aa (.im (dL e))) (aa (.im d)) [dL lv,dL e,dL o,dL lv] [dP ps,dP ps,dP ps,dP (oZ ps)] [hsD P lv,hsD p1 e,hsD p2 o,hsD O lv] [cJ z a1 b1 n,cJ z sl X (n / 2)] Um (aa (000 tx)) (l'.map (oH λk=>qX (F k))) T Q S J L N M,C6))]
 .simp_arith[Lk,hb,intsOf,U]
 refine mJ (e1:=gE (aa (.sc ns)) (aa (00 (0+(i:Int)))) b (aa (.im (dP ps))) (aa 006) lv (aa 06) (aa (00 aP)) v8 v9 v10 v11 gk H E gZ G gO B v g jf D A) (C1:=C2) ?_ ?_
 .simp only[gE];simp_arith[e2]
 refine mJ (e1:=gE (aa (.sc ns)) (aa (00 (0+(i:Int)))) b (aa (.im (dP ps))) (aa 006) lv (aa 06) (aa (00 aP)) (aa (.ow (dL e))) v9 v10 v11 gk H E gZ G gO B v g jf D A) (C1:=C4) ?_ ?_
 .simp only[gE];simp_arith[e3,e4]
 refine mJ e5 (mJ (e1:=gE (aa (.sc ns)) (aa (00 (0+(i:Int)))) b (aa (.im (dP ps))) (aa 006) lv (aa 06) (aa (00 aP)) (aa (.im (dL e))) (aa (.im d)) (aa (.ow (.list [dL lv,dL e,dL o,dL lv]))) v11 gk H E gZ G gO B v g jf D A) (C1:=u) ?_ ?_)
 .have cm:=cm u;simp only[gE];simp_arith[cm,qw,nlw]
 refine mJ (e1:=gE (aa (.sc ns)) (aa (00 (0+(i:Int)))) b (aa (.im (dP ps))) (aa 006) lv (aa 06) (aa (00 aP)) (aa (.im (dL e))) (aa (.im d)) (aa (.ow (.list [dL lv,dL e,dL o,dL lv]))) (aa (.ow (.list [dP ps,dP ps,dP ps,dP (oZ ps)]))) gk H E gZ G gO B v g jf D A) (C1:=u) ?_ ?_
 .simp only[gE];simp_arith[iKB,ik,fc,qp,nlp,fd]
 refine mJ (e1:=gE (aa (.sc ns)) (aa (00 (0+(i:Int)))) b (aa (.im (dP ps))) (aa 006) lv (aa 06) (aa (00 aP)) (aa (.im (dL e))) (aa (.im d)) (aa (.ow (.list [dL lv,dL e,dL o,dL lv]))) (aa (.ow (.list [dP ps,dP ps,dP ps,dP (oZ ps)]))) (aa (.ow (.list [hsD P lv,hsD p1 e,hsD p2 o,hsD O lv]))) H E gZ G gO B v g jf D A) (C1:=u) ?_ ?_
 .simp only[gE];simp_arith[zQ,rA,c7,nlh]
 refine mJ (e1:=gE (aa (.sc ns)) (aa (00 (0+(i:Int)))) b (aa (.im (dP ps))) (aa 006) lv (aa 06) (aa (00 aP)) (aa (.im (dL e))) (aa (.im d)) (aa (.ow (.list [dL lv,dL e,dL o,dL lv]))) (aa (.ow (.list [dP ps,dP ps,dP ps,dP (oZ ps)]))) (aa (.ow (.list [hsD P lv,hsD p1 e,hsD p2 o,hsD O lv]))) (aa (.ow (.list [cJ z a1 b1 n,cJ z sl X (n / 2)]))) E gZ G gO B v g jf D A) (C1:=u) ?_ ?_
 .simp only[gE];simp_arith[fd2,il,if_]
 refine mJ (e1:=lE (aa (.sc ns)) (aa (00 (0+(i:Int)))) b (aa (.im (dP ps))) (aa 006) (aa (.im (dL lv))) (aa 06) aP (aa (.im (dL e))) (aa (.im d)) [dL lv,dL e,dL o,dL lv] [dP ps,dP ps,dP ps,dP (oZ ps)] [hsD P lv,hsD p1 e,hsD p2 o,hsD O lv] [cJ z a1 b1 n,cJ z sl X (n / 2)] (005 (Z.map .str)) (aa (000 tx)) [] gO B v g jf D A) (C1:=u) ?_ ?_
 .simp only[gE,lE];simp_arith[gC,fQ,jc,m6,ct,st,vJ]
 refine mJ ((Ky (aac (f:=aG (aW (.int 6))) (k:=6) rfl bh bh)).trans e6) ?_;simp only[lE];simp_arith[st]
theorem aqH(ns:028)(h:ns.length<=63):∃C',HN [.sc ns] []=aa (.im 037,C'):=by
 obtain⟨m,E,M,L⟩:∃m:Int,(1+if(ns.length:Int)<1 then(ns.length:Int) else 1)=m/\0<=m/\m<=2:=#[_,rfl,by split<;>lia,by split<;>lia]
 obtain⟨bK,C',e,Q⟩:=Jy (g:=dM 1) (aN:=lU 0 m.toNat) (ao:=[aa (.sc ns),aj,aj,aj,aj,aj,aj,aj,aj,aj,aj,aj,aj,aj,aj,aj,aj,aj,aj,aj,aj,aj,aj,aj]) (C:=[])
  (λi ao C1=>∃v1 v2 v3 v4 v5 v6 v7 v8 v9 b a n q j gZ f gO l o c jf p k,ao=[aa _,v1,v2,v3,v4,v5,v6,v7,v8,v9,b,a,n,q,j,gZ,f,gO,l,o,c,jf,p,k]) ⟨_,_,_,_,_,_,_,_,_,_,_,_,_,_,_,_,_,_,_,_,_,_,_,rfl⟩ (λi d ao C1 A D=>by
   refine hide λGG s=>?_
   obtain⟨v1,v2,v3,v4,v5,v6,v7,v8,v9,b,a,n,q,j,gZ,f,gO,l,o,c,jf,p,k,rfl⟩:=D
   obtain⟨rfl,hi⟩:=Q9 A
   obtain⟨O,K,U,P,S,T,R,N,I,y,z,G,r,v,F,J,H,u,w,x,t,B,C2,e⟩:=aqG (i:=i) aK v2 v3 v4 v5 v6 v7 v8 v9 b a _ _ j gZ f gO _ _ _ _ _ k
   exact s (⟨_,.nx,_,C2,rfl,e,.inl rfl,_,_,_,_,_,_,_,_,_,_,_,_,_,_,_,_,_,_,_,_,_,_,_,rfl⟩))
 refine#[uO 0 C',?_]
 unfold HN fN;rw[show([Vl.sc ns].map _++fX _ _)=[aa _,aj,aj,aj,aj,aj,aj,aj,aj,aj,aj,aj,aj,aj,aj,aj,aj,aj,aj,aj,aj,aj,aj,aj] from rfl];simp_arith[aay,iG,mR,Ba,sZ,E,Lw (m:=m) aK aK,e,Hz]
theorem all_mk{l:acE}{w:cW}{K:bw}{h:cF}{Z:aH}(X:K.In h)(G:h.Ns jA mg)(e:mg "law"=aa (.ref Z))
  (d0:gn K "parts_over" Oj)
  (d1:gn K "row_of" Yk)
  (d2:gn K "signers_of" Ol)
  (d3:gn K "leaves_in_all" Nr)
  (d4:gn K "is_needed" O4)
  (d5:gn K "is_side" Xl)
  (d6:gn K "ways_on" Qh)
  (d7:gn K "first_row" Wk)
  (d8:gn K "nearer_way" Om)
  (d9:gn K "steps_to" Py)
  (A:gn K "is_number" Wl)
  (L:gn K "is_rising" O5)
  (y:gn K "is_row" QX)
  (Q:gn K "are_unlike_numbers" M6)
  (n:gn K "last_taker" V3)
  (I:gn K "most_of" Xm)
  (i:gn K "sums_to_try" N6)
  (J:gn K "_law_mix" Z5)
  (C:gn K "_law_drawn_from" VB)
  (E:gn K "_law_pick" Za)
  (O:gn K "_law_same" Kc)
  (M:gn K "_law_some_names" Fo)
  (t:gn K "_law_two_days" Wm)
  (B:gn K "_law_some_sum" Wn)
  (k:gn K "_law_some_parts" VD)
  (x:gn K "_law_parts_over" VF)
  (z:gn K "_law_rising" Xn)
  (r:gn K "_law_some_leaves" Vu)
  (D:gn K "_law_house_of" Wo)
  (N:gn K "_law_case" Zb)
  (H:gn K "_law_lets" Zc)
  (q:gn K "_law_all_rows" O6)
  (o:gn K "_law_widest_of" Oo)
  (u:gn K "_law_all" Z6)
  (p:gn K "_law_longer" CK)
  (g:gn K "_law_due_right" Oq)
  (j:gn K "law" HJ)
  (R8:pD K jA "abs"=aa aj)
  (K8:pD K jA "all"=aa aj)
  (Ho:pD K jA "bool"=aa aj)
  (Z7:pD K jA "dict"=aa aj)
  (Wq:pD K jA "enumerate"=aa aj)
  (Bf:pD K jA "int"=aa aj)
  (oK:pD K jA "isinstance"=aa aj)
  (mq:pD K jA "len"=aa aj)
  (Aw:pD K jA "list"=aa aj)
  (K9:pD K jA "max"=aa aj)
  (zx:pD K jA "min"=aa aj)
  (vD:pD K jA "range"=aa aj)
  (vB:pD K jA "sorted"=aa aj)
  (zy:pD K jA "str"=aa aj)
  (Dg:pD K jA "tuple"=aa aj)
  (La:pD K jA "zip"=aa aj)
  (m:pD K jA "GREATEST_SUM"=aa (aa (.int 1000000000 gF)))
  :∃fd:um,(∀(s:bf)(v:aL),Gu s fd #[[v],[]] [("_law_script",v)])/\∀base:cF,K.In base->base.Ns jA mg->eV l.prog w K mg base eY 6 Z fd ["_law_script"] (spT K HN):=by
 have T:020:=#[qC X G R8,qC X G K8,qC X G Ho,qC X G Z7,qC X G Wq,qC X G Bf,qC X G oK,qC X G mq,qC X G Aw,qC X G K9,qC X G zx,qC X G vD,qC X G vB,qC X G zy,qC X G Dg,qC X G La,Vz X G m]
 refine j.law X G e (λbase f fd F=>?_) (λ_ _ _ _ _ _=>(cu λ_=>(iR rfl)));have Wa:=d0.has X G (λf fd F=>amj (P:=l.prog) (w:=w) (base:=base) F T) (λ_ _ _ _ _ _=>04);have d:=d5.has X G (λf fd F=>anH (P:=l.prog) (w:=w) (base:=base) F T) (λ_ _ _ _ _ _=>04);have b:=d6.has X G (λf fd F=>anI (P:=l.prog) (w:=w) (base:=base) F T Wa d) (λ_ _ _ _ _ _=>(cu λ_=>04));have W:=d9.has X G (λf fd F=>am1 (P:=l.prog) (w:=w) (base:=base) F T) (λ_ _ _ _ _ _=>04);have Wb:=d8.has X G (λf fd F=>amk (P:=l.prog) (w:=w) (base:=base) F T) (λ_ _ _ _ _ _=>(cu λ_=>04));have FW:=d7.has X G (λf fd F=>amH (P:=l.prog) (w:=w) (base:=base) F T W Wb) (λ_ _ _ _ _ _=>(cu λ_=>04));have c:=d1.has X G (λf fd F=>aoN (P:=l.prog) (w:=w) (base:=base) F T d b FW) (λ_ _ _ _ _ _=>(cu λ_=>(cu λ_=>(cu λ_=>04))));have U:=d2.has X G (λf fd F=>aml (P:=l.prog) (w:=w) (base:=base) F T d b W) (λ_ _ _ _ _ _=>(cu λ_=>(cu λ_=>04)));have Wx:=d4.has X G (λf fd F=>amI (P:=l.prog) (w:=w) (base:=base) F T FW) (λ_ _ _ _ _ _=>(cu λ_=>(cu λ_=>04)));have Ez:=d3.has X G (λf fd F=>alO (P:=l.prog) (w:=w) (base:=base) F T b c Wx) (λ_ _ _ _ _ _=>(cu λ_=>(cu λ_=>(cu λ_=>04))));have Wz:=A.has X G (λf fd F=>amJ (P:=l.prog) (w:=w) (base:=base) F T) (λ_ _ _ _ _ _=>(cu λ_=>(iR rfl)));have WD:=L.has X G (λf fd F=>amK (P:=l.prog) (w:=w) (base:=base) F T) (λ_ _ _ _ _ _=>(cu λ_=>(iR rfl)));have UJ:=Q.has X G (λf fd F=>akG (P:=l.prog) (w:=w) (base:=base) F T Wz WD) (λ_ _ _ _ _ _=>(cu λ_=>(iR rfl)));have Wc:=n.has X G (λf fd F=>amm (P:=l.prog) (w:=w) (base:=base) F T) (λ_ _ _ _ _ _=>(cu λ_=>04));have Yq:=y.has X G (λf fd F=>aoO (P:=l.prog) (w:=w) (base:=base) F T d b UJ Wc) (λ_ _ _ _ _ _=>(cu λ_=>(cu λ_=>(cu λ_=>(cu λ_=>04)))));have VM:=i.has X G (λf fd F=>al3 (P:=l.prog) (w:=w) (base:=base) F T) (λ_ _ _ _ _ _=>(cu λ_=>(iR rfl)));have Gm:=I.has X G (λf fd F=>anJ (P:=l.prog) (w:=w) (base:=base) F T c VM) (λ_ _ _ _ _ _=>(cu λ_=>(cu λ_=>(cu λ_=>(cu λ_=>04)))));have RG:=J.has X G (λf fd F=>ar6 (P:=l.prog) (w:=w) (base:=base) F T) (λ_ _ _ _ _ _=>04);have VR:=C.has X G (λf fd F=>al4 (P:=l.prog) (w:=w) (base:=base) F T) (λ_ _ _ _ _ _=>04);have a:=E.has X G (λf fd F=>ap6 (P:=l.prog) (w:=w) (base:=base) F T RG) (λ_ _ _ _ _ _=>04);have Am:=O.awl X G (λf fd hm hk hb F=>aeO (P:=l.prog) (w:=w) (base:=base) hm hk hb F T 2) (λ_ _ _ _ _ _=>04);have VN:=M.has X G (λf fd F=>al5 (P:=l.prog) (w:=w) (base:=base) F T a) (λ_ _ _ _ _ _=>04);have S:=t.has X G (λf fd F=>amL (P:=l.prog) (w:=w) (base:=base) F T a) (λ_ _ _ _ _ _=>(cu λ_=>(iR rfl)));have Ga:=B.has X G (λf fd F=>amM (P:=l.prog) (w:=w) (base:=base) F T a) (λ_ _ _ _ _ _=>(cu λ_=>(iR rfl)));have VP:=k.has X G (λf fd F=>al6 (P:=l.prog) (w:=w) (base:=base) F T a) (λ_ _ _ _ _ _=>04);have R:=x.has X G (λf fd F=>al7 (P:=l.prog) (w:=w) (base:=base) F T) (λ_ _ _ _ _ _=>04);have Xv:=z.has X G (λf fd F=>anK (P:=l.prog) (w:=w) (base:=base) F T a) (λ_ _ _ _ _ _=>04);have Y:=r.has X G (λf fd F=>alW (P:=l.prog) (w:=w) (base:=base) F T a S Ga R Xv) (λ_ _ _ _ _ _=>(cu λ_=>(cu λ_=>(cu λ_=>(cu λ_=>04)))));have WK:=D.has X G (λf fd F=>amN (P:=l.prog) (w:=w) (base:=base) F T) (λ_ _ _ _ _ _=>04);have Zf:=N.has X G (λf fd F=>ap8 (P:=l.prog) (w:=w) (base:=base) F T a VN S Ga VP Y) (λ_ _ _ _ _ _=>04);have V:=H.has X G (λf fd F=>ap9 (P:=l.prog) (w:=w) (base:=base) F T R) (λ_ _ _ _ _ _=>(cu λ_=>(cu λ_=>04)));have Pg:=q.has X G (λf fd F=>amO (P:=l.prog) (w:=w) (base:=base) F T V) (λ_ _ _ _ _ _=>(cu λ_=>(cu λ_=>(cu λ_=>04))));have Wd:=o.has X G (λf fd F=>amn (P:=l.prog) (w:=w) (base:=base) F T V) (λ_ _ _ _ _ _=>(cu λ_=>(cu λ_=>(cu λ_=>04))));have Z9:=u.has X G (λf fd F=>ar7 (P:=l.prog) (w:=w) (base:=base) F T c U Ez Yq Gm) (λ_ _ _ _ _ _=>(cu λ_=>(cu λ_=>04)));have Xw:=p.has X G (λf fd F=>anL (P:=l.prog) (w:=w) (base:=base) F T) (λ_ _ _ _ _ _=>(cu λ_=>(iR rfl)));have We:=g.has X G (λf fd F=>amo (P:=l.prog) (w:=w) (base:=base) F T c U Ez Gm Am Pg Wd) (λ_ _ _ _ _ _=>(cu λ_=>(cu λ_=>(cu λ_=>(cu λ_=>04)))));exact aun F T VR a Y WK Zf Z9 Xw We
theorem walk{l:acE}{q:dY}{b:014}{d:DefRec}{K:Params->bw}(j:l.most=aa 63)(c:d.params.defaults=[])
  (i:∀(w:cW)(h:cF),YP w h->(K w.params).In h)
  (F:∀(w:cW)(mg:Str->Option aL)(e:aH)(h:cF),(K w.params).In h->h.Ns jA mg->mg d.name=aa (.ref e)->
   ∃fd:um,(∀(s:bf)(u:aL),Gu s fd ⟨[u],[]⟩ [("_law_script",u)])/\∀base:cF,(K w.params).In base->base.Ns jA mg->eV l.prog w (K w.params) mg base eY 6 e fd ["_law_script"] (spT (K w.params) HN)):
  amb q b XP YP l.row.toRowW d [] (λf vs=>adY f vs):=
 L2.aqX (n:=63) (k:=6) (x:="_law_script") (CX:=λ_=>eY) (sp:=λw=>spT (K w.params) HN) j bh c #[rfl,bh,bh,rfl] i F (λ_ _ a ns hl _ g=>let ⟨_,h⟩:=aqH ns hl;atL g h) λ_ _ _ _ _ z=>z
end K23
namespace PySem.W.Fast
def tw15321835095543420738:=0
def tw3286047757728872316:=0
def tw7703799877927563360:=0
def tw13035691389478772890:=0
def tw15782156085078512545:=0
def tw8468061706721998425:=0
def tw14048531166477668098:=0
def tw17998677404597278281:=0
def tw13465606929482085295:=0
def tw10578075320045681466:=0
def tw11073792795260799449:=0
def tw8525199140682794062:=0
def tw2734392808190645543:=0
def tw9252189540666143148:=0
def tw17913297576772387618:=0
def tw13497151427106060452:=0
def tw3108841686375610050:=0
def tw9086639645867582330:=0
def tw4025825903990593559:=0
def tw3163749656240600087:=0
def tw4526622840201264579:=0
def tw18075880683412065220:=0
def tw6056347949213019788:=0
def tw12446038962856511532:=0
def tw7383705217237039478:=0
def tw16554973593991471921:=0
def tw12354733414931578196:=0
def tw4982057761793523830:=0
def tw11951769434093192941:=0
def tw5444426563187181572:=0
def tw136694562129086438:=0
def tw8831533609627727035:=0
def tw8769450735600364914:=0
def tw16476496219120450528:=0
def tw10054777095942274611:=0
def tw10072378010331860712:=0
def tw10144566114516173775:=0
def tw10278675095227482787:=0
def tw10408523872201159376:=0
def tw10506404790252656981:=0
def tw10563098944460999458:=0
def tw10646515442178853269:=0
def tw10651840753582952001:=0
def tw10797182336492846672:=0
def tw11263972748863920929:=0
def tw1129986122478575529:=0
def tw11437471241848052974:=0
def tw11444695624610211420:=0
def tw11748528194975513249:=0
def tw11946791653862905684:=0
def tw12012785447917103116:=0
def tw12664523882995021464:=0
def tw12779530218627154999:=0
def tw12898945563581425819:=0
def tw13120564147663040330:=0
def tw13857186749825880822:=0
def tw14248189397202010371:=0
def tw14313328676994185253:=0
def tw14340840672244315527:=0
def tw14404372080902154658:=0
def tw14458672787270743719:=0
def tw1483706467913659889:=0
def tw15297223689679898176:=0
def tw15666161610725084120:=0
def tw16288762835275619508:=0
def tw1629473888966550707:=0
def tw16649495411531185879:=0
def tw17321462263519643198:=0
def tw17466018511666509538:=0
def tw17585526493854821427:=0
def tw17908568573569810228:=0
def tw18322024295297746649:=0
def tw2206338777553820307:=0
def tw2357375691072659207:=0
def tw2374580920063473793:=0
def tw2480065255383778210:=0
def tw2486961434120406308:=0
def tw2633933064126231262:=0
def tw278003860332157042:=0
def tw3509962484266394940:=0
def tw3750641976846725048:=0
def tw3864223987331390273:=0
def tw4160067451602737764:=0
def tw4183279164318866559:=0
def tw4735095184725622144:=0
def tw4930655943090466442:=0
def tw5014611528288516624:=0
def tw5057102814752114495:=0
def tw5103980623215177959:=0
def tw5226392649789005198:=0
def tw5241438738143491614:=0
def tw5897014379443342025:=0
def tw5921258134347369016:=0
def tw61099151753697264:=0
def tw6217677791102599147:=0
def tw6278770937991308340:=0
def tw6283324031570722042:=0
def tw643528669134425759:=0
def tw6656955150054648092:=0
def tw6718839837176959865:=0
def tw7222513264450857368:=0
def tw7278789701424956493:=0
def tw7517656944379149294:=0
def tw7676891094851507678:=0
def tw7965267857441464766:=0
def tw8217056730523058980:=0
def tw8264596118923079457:=0
def tw8607311402144679737:=0
def tw8630826572710716114:=0
def tw897903414995534078:=0
def tw9268913464425274637:=0
def tw9361221401843822745:=0
def tw9532504099230792491:=0
end PySem.W.Fast
open PySem PySem.W PyProof.Rows
set_option maxRecDepth 100000 in
set_option maxHeartbeats 0 in
theorem PySem.Challenge.cw_rankseals_k23_rows_by_turns_holds : PySem.Challenge.rw_rankseals_k23_rows_by_turns.Holds := by
 w_on;o_law;k_head;(case hw=>w_witness2)
 k_fill
 refine K23.walk (l:=PySem.Challenge.rw_rankseals_k23_rows_by_turns) rfl rfl (λw h Y=>PySem.W.kIn_of Y) ?F
 case F=>
  intro w mg fa h KX G hmg
  refine' K23.all_mk KX G hmg ?_ ?_ ?_ ?_ ?_ ?_ ?_ ?_ ?_ ?_ ?_ ?_ ?_ ?_ ?_ ?_ ?_ ?_ ?_ ?_ ?_ ?_ ?_ ?_ ?_ ?_ ?_ ?_ ?_ ?_ ?_ ?_ ?_ ?_ ?_ ?_ ?_ ?_ ?_ ?_ ?_ ?_ ?_ ?_ ?_ ?_ ?_ ?_ ?_ ?_ ?_ ?_ ?_ ?_
  all_goals try first|exact .mk (by k_is) (by k_is) (by k_is) (by k_is)|k_is
