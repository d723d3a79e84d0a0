import PyProof.Rows.All
import Wide.All
import OpenK.AllK
import Wide.FinOn
import Lean
import PyProof.EqAt
import PyProof.EqKinds
import PyProof.TupleCall
import PySem.Challenge.RW_rankseals_k24_sixteen_leaves
set_option Elab.async false
set_option linter.all false
set_option maxRecDepth 100000
set_option maxHeartbeats 4000000
set_option autoImplicit true
open PySem.Value renaming isInt->aiB,isStrOf->ZD,int->Ld,str->Le,isStrOf_shape->agK,none->mU,bool->rJ,float->aaf,ref->di,type->Dc,notImplemented->Qc
open PySem renaming World->bB,Program->bD,KeyKind->zN,Addr->aq,Heap->bz,sizeLine->bW,sysModules->rK,tupleKind->Gz,Within->aib,mainGlobals->iK,bootBuiltins->uM,Around->cD,Shared->aB,Scope->jT,Drawn->Al,wpAny->aQ,spliced->G8,backTo->f9,starEach->bC,Stmt->cX,wpAny_mono->pW,wpAny_Name->aao,wpAny_loadName_local->agF,wpAny_loadName_cell->agL,wpAny_truthy_bool->xJ,wpAny_execs_nil->QD,wpAny_execs_cons->ahj,swapsWith->xV,assignInOrder->Gg,assignEach->uN,wpAny_assign_Name->JK,holding->rP,standAt->uU,wpAny_bind->aC,wpAny_holding->nj,wpAny_standAt->vD,swapsWithSole->zO,swappedStores->zP,wpAny_pure->aZ,wpAny_newObj_type->mQ,bindName->vJ,wpAny_rule->zW,wpAny_bindName->JV,PassesOwn->S7,wpAny_passesOwn->Cv,pyNext->nG,letOwnedTupleGo->zG,pyIter->DG,wpAny_load->K4,rawInt->jg,wpAny_pyIter_list->Yv,foldedSetIterable->vB,binaryOp->oF,compareOp->fj,behindInMarks->Gh,lastMarks->S8,sizeLine_eq->iM,cLine->fV,Result->tV,FuncData->dF,BindsTo->Aa,codeAny->mC,codeAny_mono->Kc,wpAny_Call_Name_kw->Fi,Keyword->pY,NameKind->Di,bindL->An,bindC->Ao,mem_of_lookup->xG,concat_meets->ZW,noFill_tuple_add->YH,seq_tuple_add->ZF,IsPart->uX,wpAny_field->aag,getItem->ye,wpAny_sequenceKey->ag5,wpAny_callSpecial?_slot->zu,wpAny_call_entry->oW,wpAny_typeOf->Kd,seqIndex?->S9,seqIndex_of->aai,seqIndex_neg->ZX,subscripted->aaj,typeIs_str->aar,sliceBounds->CQ,typeIs_int->Dd,attributeBase->xT,backToKw->Dj,keywordEach->CT,call_meets->zX,wpAny_binaryOp_repeat_ref->XM,valueAt->Dp,atKey->yC,tupleKind_room_in1->JG,callerA->Dq,call->aau,compEnvC->TX,compTurn->GK,newFunctionEnv->Zj,wpAny_newFunctionEnv->Yi,lookup_relabel_local->Yj,wpAny_comprehension_free->PN,compPost->T3,exec_Assign_Name_used->agw,comprehension->ZJ,Walks->Ar,PyData->au,wpAny_pyIter_zip->aho,Builtin->j5,wpAny_newList->J2,checkCount->Sq,wpAny_pyIter_slot->Yy,wpAny_dictEntries->Yz,wpAny_dictEpoch->Y7,wpAny_attempt->Gj,wpAny_typeNameOfWhole_keyiter->Px,wpAny_fieldsOf->zL,wpAny_typeNameOf_keyiter->PX,wpAny_isOneOf_keyiter->Yh,wpAny_setField->zM,firstArgMember->QT,wpAny_of_eq->aam,wpAny_isInstance->YM,codeAny_builtin->xO,plainId_quiet->vG,richCompare->Gv,wpAny_loadPart'->qI,wpAny_forIn_list->ahs,richCompare_meets_room->X8,seqSlot_of->aht,SetTable->vK,relayAll->JW,scanBound->rM,wpAny_setState_of->Fw,wpAny_storeSet_of->ag9,fits_of_scanBound->YF,builtinLookup_eq_fast->agA,isSubtype_type->Zn,entryFor->Ua,argsOk->Hw,setNext->Hg,wpAny_setEntries_of->JC,setsByText->aaA,wpAny_askSetting->Qs,wpAny_ite_split->QG,pickOrder->zZ,wpAny_seqItems->JX,wpAny_setEpoch_of->aha,updateSeq->Ti,wpAny_updateSeq->JP,strKind->J3,wpAny_Call_method->ahd,argBest->nF,wpAny_tryCatch->QW,wpAny_letGo->RL
open Sum renaming inl->lN,inr->j4
open Sum.inl renaming inj->aae
open Sum.inr renaming inj->aiC
open PySem.SeqAt.EqAt renaming int_str->agQ,str_int->agR,same->ahE,int_int->agV
open Option.some renaming inj->gP,injEq->Qm
open PySem.W renaming instObj->Y4,methodObj->Yu,Frag->aJ,lookIn->Zi,plainGet->ahk,findIn->Cw,takerIn->ahD,specialIn->ag1,isFn->aid,keepIn->xQ,kitOne->Cy,kia_one->uJ,kitx_none->ag2,kitx_bool->ag3,kitx_int->ahl,kitx_str->ahm,kitx_float->agT,kitx_list->Qj,kitx_tuple->agU,kitx_dict->Qk,kitx_own->ahn,cellsFrom_some->agp,fnOf->zR,codeIn->QM,OpenLaw->Y6,WalkO->ahV,kitAny->QS,kia_tup->uK,nsIn->oZ,mg_of->Ra,mg_none_of->qH
open PySem.Heap renaming lt_size->cC,SameBut->zQ,get?_push_of_some->cJ,get?_push_size->iI,get?_update_self->zx,get?_update_other->uG,size_push->zJ
open Nat renaming lt_of_lt_of_le->pQ,lt_irrefl->xR,ne_of_lt->fL,le_trans->jQ,le_of_lt->xU,ne_of_gt->Gp,le_refl->bU,le_succ->qK,succ_le_succ->Qq,lt_trans->Ke,zero_le->kI,sub_self->Z2,lt_succ_of_lt->zB,not_lt->Sh,lt_succ_self->YT,lt_trichotomy->ahc,zero_add->Rp,not_lt_zero->zH,le_of_ble_eq_true->Ff,succ_pos->Rr,not_succ_le_zero->Yk,lt_or_eq_of_le->agX,le_of_lt_succ->ahh,le_succ_of_le->YG,min_eq_left->Zh,le_of_succ_le_succ->agv
open Array renaming append_assoc->agS,length_toList->jF,toList->aic,getElem?_toList->Fe,getD->ai2,getElem?_eq_getElem->m6,getElem?_eq_none->X7,getD_eq_getD_getElem?->uF,toList_push->ag8,size_append->ahe
open List renaming range->fP,mem_filter->jY,mem_range->uL,filterMap_cons->Ym,mem_cons_self->dg,mem_cons_of_mem->dZ,mem_cons->bY,mem_append->dD,mem_append_left->gO,getElem?_eq_some_iff->jW,getElem?_set_self->ago,getElem?_set_ne->xx,set_comm->Q6,mem_filterMap->Yo,mem_append_right->fK,size_toArray->gH,any_eq_false->ag0,append_nil->jd,nodup_cons->je,of_mem_zip->QF,replicate->dI,length->rG,length_take->xM,getElem?_append_right->qD,getElem?_replicate->XX,getElem?_append_left->oh,getElem?_map->jm,take_sublist->Yw,mem_of_getElem?->qF,length_append->fU,length_map->bw,length_replicate->Qa,length_drop->Cq,map_nil->oE,map_cons->cj,length_set->xN,all_cons->Q7,any_cons->J0,reverse_cons->Ql,replicate_succ->uH,flatten_cons->Ft,foldl->aas,append_assoc->lA,foldl_cons->vC,nil_append->jy,find?_cons->oY,length_cons->cA,length_nil->FP,filter_cons->JN,lookup_cons->Cr,map_map->cU,all_eq_true->oX,getElem_of_mem->zy,getElem?_eq_getElem->jX,getElem_mem->zF,mem_singleton->jb,not_mem_nil->oA,getD->uQ,ext_getElem->Cu,length_range->ou,map_congr_left->uI,zip_cons_cons->JH,mem_map->cN,ext_getElem?->YB,getElem?_eq_none->Cj,getElem?_set->Fv,pairwise_iff_getElem->Jx,pairwise_lt_range->Yc,pairwise_append->Qd,pairwise_cons->qG,nodup_append->kE,length_eq_zero_iff->agl,length_eraseIdx->agH,take_zero->Zo,Sublist->Z5,nodup_nil->mj,any_map->Z6,length_zip->JQ,getElem?_range->agN,getElem?_eq_none_iff->XN,drop_length->ahu,drop_eq_getElem_cons->agf,getElem?_mapIdx->agI,sublist_nil->ahv,getElem?_take->Qi,map_id->Ky,map_fst_zip->ahw,take_of_length_le->Yd,any_eq_true->Qt,mem_of_mem_take->Qe,map_append->jZ,find?_map->Zq,isEmpty_nil->ahx,getElem_map->ahz,find?_eq_none->Yq,pairwise_map->ahf,length_pos_of_mem->agu,mem_erase_of_ne->agJ,length_reverse->agO,pairwise_reverse->agC,cons_append->mR,length_filter_le->xu,length_pos_iff->Yn,getD_eq_getElem?_getD->PB,map_take->ah8,map_drop->ZV,filter_eq_self->JF,map_const'->ahL,find?_isSome->ahi,set_cons_succ->Fp,set_cons_zero->Fq,countP_eq_length_filter->af6,filter_filter->agZ,mem_of_mem_drop->Yl,filter_sublist->agP
open Ne renaming symm->lO
open PySem.Calls renaming Name_function_global->aga,spliced_nil->JL,spliced_cons->Fg,callWith_builtin->agq,evalArgs_plain->agG,call_function_entry->PK
open False renaming elim->tH
open PySem.Flow renaming next->SX
open Bool renaming false_ne_true->gw,false_and->Gb,eq_iff_iff->pU,and_eq_true->jn,not_eq_true->YL,false_eq_true->pR,not_true->Q9,not_false->Gd,eq_false_iff->ahb,not_eq_true'->Qn,true_and->Gn,and_true->ah9,true->ao,false->aF
open PySem.Builtin.Range renaming rangeSize->asv
open PyProof.Rows renaming callWith_type1->XH,callWith_builtin1->XF,slot_tuple_getitem->Pu,boot_zip->asy,evalArgs_none->arV,slice_closesL->agd
open PySem.EqNone renaming eq_none_none->arW,eq_none_bool->arX,eq_none_int->asb,eq_none_str->asd,eq_bool_none->arY,eq_int_none->ase,eq_str_none->ash,ne_none_none->ar4,ne_none_bool->ar5,ne_none_int->asj,ne_none_str->asl,ne_bool_none->ar6,ne_int_none->asm,ne_str_none->aso
open PySem.EqMixed renaming eq_bool_str->arZ,eq_int_str->asf,eq_str_bool->ar3,eq_str_int->asi,ne_bool_str->ar7,ne_int_str->asn,ne_str_bool->ar8,ne_str_int->asp
open True renaming intro->nu
open Option renaming isSome_iff_exists->xr,getD_none->Qp,isSome_some->Fj,isSome_map->Ck,map_eq_some_iff->Jy,none->o7,map_some->jG,getD_some->zE,bind_some->iJ,some_ne_none->xH,map->zY,map_map->Gf,bind_eq_some_iff->lq,map_eq_none_iff->agt,isSome_none->Yt,map_none->QL,isNone_some->agY,some->aa,none->aj
open PySem.F renaming slot_tuple_add->X6,entry_tuple_add->X3,args_tuple_add_2->XQ,slot_list_append->Yp,slot_list_pop->ahF,fills_int_mul->Y5,slot_int_rmul->FJ,entry_int_rmul->YK,args_int_rmul_2->Yx,slot_dict_get->Yg,entry_dict_get->agr,args_dict_get_3->agj,slot_dict_iter->ahp,slot_dict_keyiterator_next->Py,entry_dict_keyiterator_next->af4,args_dict_keyiterator_next_1->af3,plain_proto_collect->af7,plain_list_iadd->P0,slot_tuple_lt->agz,entry_tuple_lt->ags,args_tuple_lt_2->agk,slot_set_iter->ahJ,plain_extend_loop->age,plainAttrs_list->X4,type_list_append->agi,plainAttrs_dict->agm,entry_min_loop->Ye,plain_min_loop->Cg,slot_dict_items->agn,slot_tuple_mul->ahA,entry_tuple_mul->ahg,args_tuple_mul_2->agW
open Int renaming toNat_natCast->zA,le_refl->rH,emod_eq_emod_iff_emod_sub_eq_zero->af1,emod_eq_of_lt->Qo,emod_nonneg->xP,emod_lt_of_pos->Fo,le_trans->zT,le_of_lt->RJ,ne_of_lt->aac,lt_irrefl->aia,zero_add->aad
open PySem.Builtin.Slice renaming sliceAdjust->XJ,slicePlaces->PJ,slicePartIndex->arR,sliceApplied->agb,sliceFields->ar9
open PySem.Str renaming ofString->dO
open PySem.Builtin.Tuple renaming tupleItemsOf->agc,tupleExact->PL,tupleCompareSizes->af2,tupleIsExact->arT
open PySem.Heap.IsSliceOf renaming new->asz
open PySem.Obj renaming mapSeq->nA,mapFields->ZK,isFreed_of_fields->agy,data_mapFields->Qh,cls_mapFields->ag6,putSet->Sv
open PySem.SeqAt renaming EqAt->K6,shaped->jc
open PySem.Builtin.List renaming listTooLong->XR,listExtendWith->Pz,listLengthHint->af8,listSameRef->XS
open List.Pairwise renaming nil->xK,filterMap->asw,imp_of_mem->asu
open Or renaming inl->dj,inr->tW
open PySem.NameKind renaming free->qJ,cell->Q8
open ForInStep renaming yield->ahH
open PySem.Code renaming compLoop->Gi
open PySem.Walks renaming list->ai0
open PySem.WalksT renaming zip2->aiI
open List.Perm renaming refl->zK,of_eq->ahI,swap->QV,append_left->agB
open List.cons renaming inj->CJ,injEq->Y9
open PySem.Heap.SameBut renaming update->tB,refl->YD
open PySem.Builtin.Dict renaming dictSlotNone->asa,showsAll->agx
open PySem.Builtin.Dict_items renaming ownsTuple->af5
open PySem.Around renaming under_plainId->xF
open PySem.AutoSeq1 renaming sub_tuple_tuple->agh
open PySem.SetTable.below renaming go->JM
open PySem.SetTable renaming below->jP,has->aik,slot->ahY,grown->Cz
open PySem.SetTable.probe renaming go->YC
open PySem.SetTable.Met.empty renaming injEq->asq
open Prod.mk renaming injEq->ahZ
open PySem.pickOrder renaming go->Z4
open PySem.Builtin.Frozenset renaming slot0->asx,sizeOf->asr,oneOther->arU,addrOf->ass
open PySem.Bind renaming checkArgs->ahM
open PySem.PyData renaming int->ie,str->dR,eqv->uO,tuple->tD,strOk->Rq,canLayAll0->Cp,depthAll->FQ,canLay0->Ge,depth->Kf,eqvAll->Ro,bool->aiQ
open List.Sublist renaming refl->Cm,append->JD,map->ahC
open PySem.Builtin.Str renaming strSliceIndices->Cd
open PySem.Builtin.Builtins renaming bindParams->af9
open Classical renaming byContradiction->agg
open Nat.succ renaming inj->Gq
open PySem.StrLaws renaming seqIndex_nonneg->arQ
open PySem.PassesOwn renaming never->m7
theorem aV{c:Prop}[i:Decidable c](h:c){α:Sort _}{t e:α}:ite c t e=t:=if_pos h
theorem bf{c:Prop}[i:Decidable c](h:¬c){α:Sort _}{t e:α}:ite c t e=e:=if_neg h
theorem cY{p:Prop}[i:Decidable p](h:p):decide p=true:=decide_eq_true h
theorem dW{p:Prop}[i:Decidable p](h:¬p):decide p=false:=decide_eq_false h
noncomputable section
namespace L2
open PySem PySem.Spec PyProof.Rows
abbrev Key:=Sum Int Str
def Ec:Key->Value->Bool
 |.inl k,v=>aiB k v
 |.inr x,v=>ZD x v
def apT(w:bB):Key->Int
 |.inl k=>hashInt k
 |.inr x=>hashStr w x
theorem tG:∀{k:Key}{v:Value},Ec k v=ao->(∃i t,k=lN i/\v=Ld i t)\/(∃x t,k=j4 x/\v=Le x t)
 |.inl i,v,h=>by
  obtain⟨t,e⟩:=Value.isInt_shape (k:=i) (v:=v) h
  exact .inl ⟨i,t,rfl,e⟩
 |.inr x,v,h=>by
  obtain⟨t,e⟩:=agK (x:=x) (v:=v) h
  exact .inr ⟨x,t,rfl,e⟩
theorem ajv(i:Int)(t:Tok):Ec (.inl i) (.int i t)=ao:=by simp[Ec,aiB]
theorem ajw(x:Str)(t:Tok):Ec (.inr x) (.str x t)=ao:=by simp[Ec,ZD]
theorem anw(a b:Int):decide ((lN a:Key)=lN b)=(a==b):=by
 by_cases e:a=b
 .subst e;simp
 .have h:¬(lN a:Key)=lN b:=λq=>e (aae q)
  rw[dW h]
  exact(beq_eq_false_iff_ne.mpr e).symm
theorem anx(a b:Str):decide ((j4 a:Key)=j4 b)=decide (a=b):=by
 by_cases e:a=b
 .subst e;simp
 .have h:¬(j4 a:Key)=j4 b:=λq=>e (aiC q)
  rw[dW h,dW e]
theorem anz(a:Int)(b:Str):decide ((lN a:Key)=j4 b)=aF:=dW (λq=>nomatch q)
theorem anA(a:Str)(b:Int):decide ((j4 a:Key)=lN b)=aF:=dW (λq=>nomatch q)
def jH(prog:bD)(w:bB):zN prog w Key where
 is:=Ec
 hash:=apT w
 inj:=λv a b ha hb=>by
  rcases tG ha with⟨i,t,rfl,rfl⟩|⟨x,t,rfl,rfl⟩
  .rcases tG hb with⟨j,u,rfl,e⟩|⟨y,u,rfl,e⟩
   .injection e with e1 _;rw[e1]
   .exact nomatch e
  .rcases tG hb with⟨j,u,rfl,e⟩|⟨y,u,rfl,e⟩
   .exact nomatch e
   .injection e with e1 _;rw[e1]
 byValue:=λk v h=>by
  rcases tG h with⟨i,t,rfl,rfl⟩|⟨x,t,rfl,rfl⟩<;>rfl
 pyHash:=λhv h=>by
  rcases tG hv with⟨i,t,rfl,rfl⟩|⟨x,t,rfl,rfl⟩
  .exact wpAny_pyHash_int h
  .exact wpAny_pyHash_str h
 eqBool:=λhu hv h=>by
  rcases tG hu with⟨i,t,rfl,rfl⟩|⟨x,t,rfl,rfl⟩
  .rcases tG hv with⟨j,u,rfl,rfl⟩|⟨y,u,rfl,rfl⟩
   .rw[anw] at h;exact wpAny_eqBool_int h
   .rw[anz] at h;exact agQ i t y u _ _ _ _ h
  .rcases tG hv with⟨j,u,rfl,rfl⟩|⟨y,u,rfl,rfl⟩
   .rw[anA] at h;exact agR x t j u _ _ _ _ h
   .rw[anx] at h;exact wpAny_eqBool_str h
 «strs»:=λk x t v h=>by
  rcases tG h with⟨i,u,rfl,e⟩|⟨y,u,rfl,e⟩
  .exact nomatch e
  .injection e with e1 _
   subst e1;cases v<;>rfl
theorem aiD(prog:bD)(w:bB)(i:Int)(t:Tok):(jH prog w).is (.inl i) (.int i t)=ao:=ajv i t
theorem aiE(prog:bD)(w:bB)(x:Str)(t:Tok):(jH prog w).is (.inr x) (.str x t)=ao:=ajw x t
inductive V where
 |non|bl (b:Bool)|int (i:Int)|str (x:Str)|rB (b:Array UInt8)|flt (b:UInt64)|ref (a:aq)|ty (n:String)
 deriving DecidableEq
def RelV:V->Value->Prop
 |.non,u=>u=mU
 |.bl b,u=>u=rJ b
 |.int i,u=>∃t,u=Ld i t
 |.str x,u=>∃t,u=Le x t
 |.rB b,u=>∃t,u=Value.bytes b t
 |.flt b,u=>∃t,u=aaf b t
 |.ref a,u=>u=di a
 |.ty n,u=>u=Dc n
abbrev Vals:List V->List Value->Prop:=Paired RelV
theorem Vals.length{xs:List V}{us:List Value}(r:Vals xs us):xs.length=us.length:=Paired.length r
theorem Vals.get:∀{xs:List V}{us:List Value}{i:Nat}{x:V},Vals xs us->xs[i]?=aa x->∃u,us[i]?=aa u/\RelV x u
 |_,_,_,_,.nil,e=>by simp at e
 |_,_,0,_,.cons r _,e=>by simp at e;subst e;exact⟨_,rfl,r⟩
 |_,_,i+1,x,.cons _ t,e=>by
  obtain⟨u,h1,h2⟩:=Vals.get (i:=i) (x:=x) t (by simpa using e)
  exact⟨u,by simpa using h1,h2⟩
theorem Vals.set{x:V}{u:Value}(r:RelV x u):∀{xs:List V}{us:List Value}(i:Nat),Vals xs us->Vals (xs.set i x) (us.set i u)
 |_,_,_,.nil=>.nil
 |_,_,0,.cons _ t=>.cons r t
 |_,_,i+1,.cons q t=>.cons q (Vals.set r i t)
theorem Vals.append:∀{xs ys:List V}{us ws:List Value},Vals xs us->Vals ys ws->Vals (xs++ys) (us++ws)
 |_,_,_,_,.nil,s=>s
 |_,_,_,_,.cons r t,s=>.cons r (Vals.append t s)
theorem Vals.take:∀{xs:List V}{us:List Value}(n:Nat),Vals xs us->Vals (xs.take n) (us.take n)
 |_,_,0,_=>.nil
 |_,_,_+1,.nil=>.nil
 |_,_,n+1,.cons r t=>.cons r (Vals.take n t)
theorem Vals.drop:∀{xs:List V}{us:List Value}(n:Nat),Vals xs us->Vals (xs.drop n) (us.drop n)
 |_,_,0,r=>r
 |_,_,_+1,.nil=>.nil
 |_,_,n+1,.cons _ t=>Vals.drop n t
def qZ:Option V->Option Value->Prop
 |some v,some u=>RelV v u
 |none,none=>True
 |_,_=>False
def KV{κ:Type}:List (κ×V)->List (κ×Value)->Prop:=Paired λ(p:κ×V)(q:κ×Value)=>p.1=q.1/\RelV p.2 q.2
def kV:Key->V
 |.inl i=>.int i
 |.inr x=>.str x
inductive HO where
 |lst (xs:List V)
 |tup (xs:List V)
 |dK (kvs:List (Key×V))|dT (kvs:List (List Key×V))
 |set (S:Int->Bool) (n:Nat)
 |ins (C dx:aq) (fs:List (Str×V))
 |own (x:aq)
 |xd (fs:List (Str×V))
 |met (f x:aq)
 |IK (lo hi:Int)
 |mZ (o:Obj) (u:HO)
 |By (ps:Array Value)
 |ext (φ:bz->Prop)
abbrev Hp:=aq->Option HO
def upd(H:Hp)(a:aq)(o:HO):Hp:=λb=>if b=a then aa o else H b
theorem eN{H:Hp}{a:aq}{o:HO}:upd H a o a=aa o:=by unfold upd;rw[aV rfl]
theorem cV{H:Hp}{a b:aq}{o:HO}(h:b≠a):upd H a o b=H b:=by unfold upd;rw[bf h]
theorem acs{H:Hp}{a:aq}{o u:HO}:upd (upd H a o) a u=upd H a u:=by
 funext b;unfold upd;split<;>rfl
theorem Wc{H:Hp}{a b:aq}{o u:HO}(h:H a=aa o)(h':H b=aa u)(d:o≠u):a≠b:=by
 intro e;subst e;rw[h] at h';exact d (gP h')
theorem qL{H:Hp}{a b:aq}{o:HO}(h:H a=aa o)(h':H b=aj):a≠b:=by
 intro e;subst e;rw[h] at h';cases h'
section
variable(P:bD)(w:bB)
def fB(H:Hp)(h:bz)(a:aq):HO->Prop
 |.lst xs=>xs.length<=bW/\∃(its:List Value)(n:Nat),Vals xs its/\h.get? a=aa {cls:=.type "list",data:=.seq its.toArray n}
 |.tup xs=>xs.length<=bW/\∃its:List Value,Vals xs its/\IsTup h a its.toArray
 |.dK kvs=>kvs.length<=bW/\(a==rK)=aF/\∃vs,KV kvs vs/\h.DictOf (jH P w) a vs
 |.dT kvs=>kvs.length<=bW/\(a==rK)=aF/\∃xs:List (List Key×aq×Value),
   Paired (λ(p:List Key×V)(q:List Key×aq×Value)=>p.1=q.1/\H q.2.1=aa (.tup (p.1.map kV))/\RelV p.2 q.2.2) kvs xs/\
   ∃o es ep,h.get? a=aa o/\o.ExactDict/\o.data=.dict es ep/\es.toList=xs.map (entryOfKey (Gz (jH P w)))/\(xs.map (·.1)).Nodup
 |.set S n=>h.SetOf (intKind P w) a S n
 |.ins C dx fs=>H dx=aa (.own a)/\fs.length<=1000/\dx≠a/\h.get? a=aa (Y4 C dx)/\
   ∃mA,h.Ns1 dx mA/\(∀f,qZ (fs.lookup f) (mA f))/\aib mA (fs.map (·.1))
 |.own _=>∃o,h.get? a=aa o
 |.xd fs=>∃mA,h.Ns1 a mA/\∀f,qZ (fs.lookup f) (mA f)
 |.IK lo hi=>∃t u v,h.get? a=aa {cls:=.type "range",data:=.fields #[.int lo t,.int hi u,.int 1 v]}
 |.mZ o u=>h.get? a=aa o/\fB H h a u
 |.By ps=>h.get? a=aa {cls:=.none,data:=.fields ps}
 |.met f x=>h.get? a=aa (Yu (.ref f) (.ref x))
 |.ext φ=>φ h/\(∃o,h.get? a=aa o)/\∀h1 h2:bz,φ h1->(∀o,h1.get? a=aa o->h2.get? a=aa o)->φ h2
def iU(H:Hp)(h:bz):Prop:=∀a o,H a=aa o->fB P w H h a o
end
section
variable{P:bD}{w:bB}{H H':Hp}{h h':bz}{a:aq}{o:HO}
theorem fB.lt(x:fB P w H h a o):a<h.objs.size:=by
 cases o with
 |lst xs=>obtain⟨_,_,_,_,e⟩:=x;exact cC e
 |tup xs=>obtain⟨_,_,_,p⟩:=x;exact p.lt
 |dK kvs=>obtain⟨_,_,_,_,o,_,_,e,_⟩:=x;exact cC e
 |dT kvs=>obtain⟨_,_,_,_,o,_,_,e,_⟩:=x;exact cC e
 |set S n=>obtain⟨o,_,_,_,e,_⟩:=x;exact cC e
 |ins C dx fs=>obtain⟨_,_,_,e,_⟩:=x;exact cC e
 |own y=>obtain⟨_,e⟩:=x;exact cC e
 |xd fs=>obtain⟨_,⟨_,_,_,e,_⟩,_⟩:=x;exact cC e
 |IK lo hi=>obtain⟨_,_,_,e⟩:=x;exact cC e
 |mZ ob u=>obtain⟨e,_⟩:=x;exact cC e
 |By ps=>exact cC (show h.get? a=aa _ from x)
 |met f y=>exact cC (show h.get? a=aa _ from x)
 |ext φ=>obtain⟨_,⟨_,e⟩,_⟩:=x;exact cC e
theorem Paired.WD{α β:Type}{F G:α->β->Prop}:∀{l₁:List α}{l₂:List β},Paired F l₁ l₂->(∀a b,F a b->G a b)->Paired G l₁ l₂
 |_,_,.nil,_=>.nil
 |_,_,.cons r t,f=>.cons (f _ _ r) (Paired.WD t f)
theorem fB.stay(x:fB P w H h a o)(k:∀b u,(b=a\/H b=aa (.own a))->h.get? b=aa u->h'.get? b=aa u)
  (ho:∀b,H b=aa (.own a)->H' b=aa (.own a))(ht:∀b xs,H b=aa (.tup xs)->H' b=aa (.tup xs)):fB P w H' h' a o:=by
 induction o with
 |lst xs=>obtain⟨z,its,n,r,e⟩:=x;exact⟨z,its,n,r,k _ _ (.inl rfl) e⟩
 |tup xs=>obtain⟨z,its,r,ob,e,c⟩:=x;exact⟨z,its,r,ob,k _ _ (.inl rfl) e,c⟩
 |dK kvs=>obtain⟨z,y,vs,r,ob,es,ep,e,c⟩:=x;exact⟨z,y,vs,r,ob,es,ep,k _ _ (.inl rfl) e,c⟩
 |dT kvs=>
  obtain⟨z,y,xs,r,ob,es,ep,e,c⟩:=x
  exact⟨z,y,xs,Paired.WD r λp q z=>⟨z.1,ht _ _ z.2.1,z.2.2⟩,ob,es,ep,k _ _ (.inl rfl) e,c⟩
 |set S n=>obtain⟨ob,es,ep,t,e,c⟩:=x;exact⟨ob,es,ep,t,k _ _ (.inl rfl) e,c⟩
 |ins C dx fs=>
  obtain⟨d,z,ne,e,mA,⟨od,es,ep,e2,c⟩,r⟩:=x
  exact⟨ho _ d,z,ne,k _ _ (.inl rfl) e,mA,⟨od,es,ep,k _ _ (.inr d) e2,c⟩,r⟩
 |own y=>obtain⟨ob,e⟩:=x;exact⟨ob,k _ _ (.inl rfl) e⟩
 |xd fs=>obtain⟨mA,⟨od,es,ep,e,c⟩,r⟩:=x;exact⟨mA,⟨od,es,ep,k _ _ (.inl rfl) e,c⟩,r⟩
 |IK lo hi=>obtain⟨t,u,v,e⟩:=x;exact⟨t,u,v,k _ _ (.inl rfl) e⟩
 |mZ ob u ih=>obtain⟨e,q⟩:=x;exact⟨k _ _ (.inl rfl) e,ih q⟩
 |By ps=>
  have e:h.get? a=aa {cls:=.none,data:=.fields ps}:=x;show h'.get? a=aa {cls:=.none,data:=.fields ps};exact k a _ (.inl rfl) e
 |met f y=>
  have e:h.get? a=aa (Yu (.ref f) (.ref y)):=x;show h'.get? a=aa (Yu (.ref f) (.ref y));exact k a _ (.inl rfl) e
 |ext φ=>obtain⟨p,⟨o,e⟩,st⟩:=x;exact⟨st _ _ p λo q=>k _ _ (.inl rfl) q,⟨o,k _ _ (.inl rfl) e⟩,st⟩
theorem iU.lt(x:iU P w H h)(e:H a=aa o):a<h.objs.size:=(x a o e).lt
theorem iU.fresh(x:iU P w H h)(e:h.objs.size<=a):H a=aj:=by
 cases q:H a with
 |none=>rfl
 |some u=>exact absurd (pQ (x.lt q) e) (xR _)
theorem iU.kept(x:iU P w H h)(k:∀b u,h.get? b=aa u->h'.get? b=aa u):iU P w H h':=λa o e=>
 (x a o e).stay (λb u _ q=>k b u q) (λ_ q=>q) λ_ _ q=>q
theorem iU.laid(x:iU P w H h)(k:∀b u,h.get? b=aa u->h'.get? b=aa u)(hp:h.objs.size<=a)(new:fB P w (upd H a o) h' a o):iU P w (upd H a o) h':=λb u e=>by
 have hn:=x.fresh hp;by_cases hb:b=a
 .subst hb;rw[eN] at e;cases e;exact new
 .rw[cV hb] at e
  exact(x b u e).stay (λc v _ q=>k c v q) (λc q=>by rw[cV (qL q hn)];exact q) λc xs q=>by rw[cV (qL q hn)];exact q
end
def Rd(H:Hp)(a:aq)(u:HO):Prop:=H a=aa u\/∃o,H a=aa (.mZ o u)
theorem Rd.of{H:Hp}{a:aq}{u:HO}(h:H a=aa u):Rd H a u:=.inl h
theorem Rd.ok{P:bD}{w:bB}{H:Hp}{h:bz}{a:aq}{u:HO}(r:Rd H a u)(x:iU P w H h):fB P w H h a u:=by
 rcases r with r|⟨o,r⟩
 .exact x a u r
 .obtain⟨_,q⟩:=x a _ r
  exact q
def IV:Option HO->Prop
 |some (.lst _)=>True
 |some (.dK _)=>True
 |some (.dT _)=>True
 |some (.set _ _)=>True
 |some (.ins _ _ _)=>True
 |some (.ext _)=>True
 |_=>False
section
variable{P:bD}{w:bB}{H:Hp}{h h':bz}{x e:aq}{o':HO}
theorem iU.write(ok:iU P w H h)(mu:IV (H x))(he:e=x\/H e=aa (.own x))(k:∀b u,b≠e->h.get? b=aa u->h'.get? b=aa u)(heo:∃u,h'.get? e=aa u)
  (new:fB P w (upd H x o') h' x o'):iU P w (upd H x o') h':=λb u q=>by
 have aeP:∀c y,H c=aa (.own y)->c≠x:=λc y r z=>by subst z;rw[r] at mu;exact mu
 have apU:∀c xs,H c=aa (.tup xs)->c≠x:=λc xs r z=>by subst z;rw[r] at mu;exact mu
 by_cases hb:b=x
 .subst hb;rw[eN] at q;cases q;exact new
 .rw[cV hb] at q;by_cases hbe:b=e
  .have q':H b=aa (.own x):=by
    rcases he with z|z
    .exact absurd (hbe.trans z) hb
    .rw[hbe];exact z
   rw[q] at q';cases q'
   obtain⟨v,hv⟩:=heo
   exact⟨v,by rw[hbe];exact hv⟩
  .refine(ok b u q).stay (λc v hc r=>k c v ?_ r) (λc r=>by rw[cV (aeP c b r)];exact r) λc xs r=>by rw[cV (apU c xs r)];exact r
   rcases hc with rfl|hc
   .exact hbe
   .rintro rfl;rcases he with z|z
    .exact aeP c b hc z
    .rw[hc] at z;cases z;exact hb rfl
end
structure Un(fs ex:List aq)(H H':Hp)(h h':bz):Prop where
 keep:∀b o,h.get? b=aa o->H b=aj->b∉fs->b∉ex->h'.get? b=aa o
 slot:∀b o,h.get? b=aa o->H b=aj->b∈fs->b∉ex->∃sl,h'.get? b=aa {o with slots:=sl}
 free:∀b o,h.get? b=aa o->H b=aj->b∉ex->H' b=aj
 there:∀b o,h.get? b=aa o->b∉ex->∃o',h'.get? b=aa o'
 tups:∀b xs,H b=aa (.tup xs)->H' b=aa (.tup xs)
 q9:∀b o u,H b=aa (.mZ o u)->H' b=aa (.mZ o u)
 sE:∀b ps,H b=aa (.By ps)->∃more,H' b=aa (.By (ps++more))
section
variable{fs fs' ex ex':List aq}{H H1 H2:Hp}{h h1 h2 h':bz}{a x e:aq}{o:HO}
theorem Un.any(u:Un fs ex H H1 h h1){b:aq}{ob:Obj}(q:h.get? b=aa ob)(n:H b=aj)(hx:b∉ex):∃sl,h1.get? b=aa {ob with slots:=sl}:=by
 by_cases hb:b∈fs
 .exact u.slot b ob q n hb hx
 .exact⟨ob.slots,u.keep b ob q n hb hx⟩
theorem Un.trans(a:Un fs ex H H1 h h1)(b:Un fs ex H1 H2 h1 h2):Un fs ex H H2 h h2 where
 keep:=λc ob q n hc hx=>b.keep c ob (a.keep c ob q n hc hx) (a.free c ob q n hx) hc hx
 slot:=λc ob q n hc hx=>by
  obtain⟨sl,e1⟩:=a.slot c ob q n hc hx
  obtain⟨sl',e2⟩:=b.slot c _ e1 (a.free c ob q n hx) hc hx
  exact⟨sl',e2⟩
 free:=λc ob q n hx=>by
  obtain⟨o',e1⟩:=a.there c ob q hx
  exact b.free c o' e1 (a.free c ob q n hx) hx
 there:=λc ob q hx=>by
  obtain⟨o',e1⟩:=a.there c ob q hx
  exact b.there c o' e1 hx
 tups:=λc xs q=>b.tups c xs (a.tups c xs q)
 q9:=λc ob xs q=>b.q9 c ob xs (a.q9 c ob xs q)
 sE:=λc ps q=>by
  obtain⟨m1,e1⟩:=a.sE c ps q
  obtain⟨m2,e2⟩:=b.sE c _ e1
  exact⟨m1++m2,by rw[e2,agS]⟩
theorem Un.kept(k:∀b u,h.get? b=aa u->h'.get? b=aa u):Un fs ex H H h h':=
 ⟨λb ob q _ _ _=>k b ob q,λb ob q _ _ _=>⟨ob.slots,k b ob q⟩,λ_ _ _ n _=>n,λb ob q _=>⟨ob,k b ob q⟩,λ_ _ q=>q,λ_ _ _ q=>q,λ_ ps q=>⟨#[],by rw[q];simp⟩⟩
theorem Un.refl:Un fs ex H H h h:=Un.kept λ_ _ q=>q
theorem Un.laid(k:∀b u,h.get? b=aa u->h'.get? b=aa u)(hp:h.objs.size<=a)(hn:H a=aj):Un fs ex H (upd H a o) h h' where
 keep:=λb u q _ _ _=>k b u q
 slot:=λb u q _ _ _=>⟨u.slots,k b u q⟩
 free:=λb u q n _=>by rw[cV (fL (pQ (cC q) hp))];exact n
 there:=λb u q _=>⟨u,k b u q⟩
 tups:=λb xs q=>by rw[cV (qL q hn)];exact q
 q9:=λb u xs q=>by rw[cV (qL q hn)];exact q
 sE:=λb ps q=>⟨#[],by rw[cV (qL q hn),q];simp⟩
theorem Un.write(mu:IV (H x))(he:e=x\/H e=aa (.own x))(k:∀b u,b≠e->h.get? b=aa u->h'.get? b=aa u)(heo:∃u,h'.get? e=aa u):Un fs ex H (upd H x o) h h':=by
 have hx:∀b,H b=aj->b≠x:=λb n z=>by subst z;rw[n] at mu;exact mu
 have hb:∀b,H b=aj->b≠e:=λb n z=>by
  subst z;rcases he with r|r
  .exact hx b n r
  .rw[n] at r;cases r
 have hm:∀b u,H b=aa u->¬IV (aa u)->b≠x:=λb u q nm z=>by subst z;rw[q] at mu;exact nm mu
 refine⟨λb u q n _ _=>k b u (hb b n) q,λb u q n _ _=>⟨u.slots,k b u (hb b n) q⟩,λb u q n _=>by rw[cV (hx b n)];exact n,λb u q _=>?_,
  λb xs q=>by rw[cV (hm b _ q λz=>z)];exact q,λb u xs q=>by rw[cV (hm b _ q λz=>z)];exact q,λb ps q=>⟨#[],by rw[cV (hm b _ q λz=>z),q];simp⟩⟩
 by_cases hbe:b=e
 .subst hbe;exact heo
 .exact⟨u,k b u hbe q⟩
theorem Un.mono(u:Un fs ex H H1 h h1)(hs:∀b∈fs,b∈fs')(hx:∀b∈ex,b∈ex'):Un fs' ex' H H1 h h1:=
 ⟨λb ob q n hb he=>u.keep b ob q n (λz=>hb (hs b z)) λz=>he (hx b z),λ_ _ q n _ he=>u.any q n λz=>he (hx _ z),λb ob q n he=>u.free b ob q n λz=>he (hx b z),λb ob q he=>u.there b ob q λz=>he (hx b z),u.tups,u.q9,u.sE⟩
end
def OD(h:bz)(H:Hp):List aq:=(fP h.objs.size).filter λa=>(H a).isSome
def wL(h:bz)(H:Hp):bz:=PySem.W.hideAll h (OD h H)
theorem ajx(h:bz)(H:Hp):(wL h H).objs.size=h.objs.size:=PySem.W.hideAll_size _ _
theorem akx{h:bz}{H:Hp}{b:aq}{o:Obj}(e:h.get? b=aa o)(n:H b=aj):(wL h H).get? b=aa o:=
 PySem.W.hideAll_get _ e λhm=>by
  have q:(H b).isSome=ao:=(jY.mp hm).2;rw[n] at q;simp at q
theorem alX{h:bz}{H:Hp}{b:aq}{o:Obj}(e:(wL h H).get? b=aa o):h.get? b=aa o/\H b=aj:=by
 have e':h.get? b=aa o:=PySem.W.of_hideAll (OD h H) e
 refine⟨e',?_⟩
 cases q:H b with
 |none=>rfl
 |some x=>
  have hm:b∈OD h H:=jY.mpr ⟨uL.mpr (cC e'),by simp[q]⟩;have z:(wL h H).get? b=aj:=PySem.W.hideAll_none (OD h H) hm;rw[z] at e;cases e
def alY(g h:bz)(L:aq):List (aq×Obj):=(fP h.objs.size).filterMap λa=>if a=L\/(g.get? a).isSome=ao then aj else(h.get? a).map λo=>(a,o)
def rest(g h:bz)(L d:aq):List (aq×Obj):=(alY g h L).filter λp=>decide (p.1≠d)
structure Mod(K:aJ)(mg:Str->Option Value)(base:bz):Prop where
 W7:K.In base
 glob:base.Ns iK mg
 blt:∃mb,base.Ns builtinsNs mb/\∀x:Str,x≠"__name__"->mb x=uM x
 nolimit:base.NoLimit
structure Cx where
 prog:bD
 w:bB
 K:aJ
 mg:Str->Option Value
 base:bz
 A:cD
 N:List Str
 s₀:aB
 H₀:Hp
 env:Env
 outer:List Env
 stack:List Env
 ex:List aq
 fn:Str->Bool
 calm:Bool
 pn:List (aq×Obj)
 xe:Value->aB->Prop
def frs(l:List Env):List aq:=l.filterMap (·.frame)
abbrev Cx.fs(X:Cx):List aq:=frs X.outer
def OJ(sc:jT)(x:Str):Prop:=sc.names.lookup x=aa .local\/sc.names.lookup x=aa .cell\/sc.names.lookup x=aa .free
def Loc(sc:jT)(x:Str):Prop:=sc.names.lookup x=aa .local\/sc.names.lookup x=aa .cell
def Look(env:Env)(h:bz)(m:Str->Option Value)(x:Str)(u:Value):Prop:=
 (env.kindOf x=aa .local/\m x=aa u)\/((env.kindOf x=aa .cell\/env.kindOf x=aa .free)/\∃c,env.cells.lookup x=aa c/\h.IsCell c (aa u))
structure Cx.Ok(X:Cx):Prop where
 mod:Mod X.K X.mg X.base
 kind:X.env.scope.kind=.function
 glob:X.env.globals=iK
 blt:X.env.builtins=builtinsNs
 above:X.s₀.heap.objs.size<=X.env.locals
 inj:∀x y c,X.env.cells.lookup x=aa c->X.env.cells.lookup y=aa c->x=y
 has:∀x,(X.env.kindOf x=aa .cell\/X.env.kindOf x=aa .free)->∃c,X.env.cells.lookup x=aa c
 cab:∀x c,X.fn x=ao->X.env.cells.lookup x=aa c->X.s₀.heap.objs.size<=c
 hd:X.calm=ao->X.A.handled=aj
 frames:X.A.frames=aa X.stack
 stk:X.stack=X.outer\/(X.stack=X.env::X.outer/\X.env.frame=aa X.env.locals)
 exf:∀b∈X.ex,b≠X.env.locals/\∀x c,X.env.cells.lookup x=aa c->c≠b
 bs:∀b o,X.base.get? b=aa o->X.s₀.heap.get? b=aa o/\X.H₀ b=aj
 vh:X.base.objs.size<=X.s₀.heap.objs.size
 Ik:∀b o,X.base.get? b=aa o->b∉X.ex
 Oe:∀b∈X.ex,b∉X.fs
 sG:X.s₀.heap.FunFrames X.base X.outer
 BJ:∀b∈X.fs,X.H₀ b=aj
structure Inv(X:Cx)(pins:List (aq×Obj))(σ:List (Option V))(H:Hp)(s:aB):Prop where
 ok:X.Ok
 os:s.os=X.s₀.os
 bare:AllBare s.gens
 base:Un X.fs X.ex X.H₀ H X.s₀.heap s.heap
 loc:∃m,s.heap.Ns X.env.locals m/\∀(i:Nat)(x:Str)(v:V),X.N[i]?=aa x->σ[i]?=aa (aa v)->OJ X.env.scope x->∃u,RelV v u/\Look X.env s.heap m x u
 cell:∀x c,X.env.cells.lookup x=aa c->∃v,s.heap.IsCell c v
 free:H X.env.locals=aj
 tZ:∀x c,X.env.cells.lookup x=aa c->H c=aj
 pin:∀p∈X.pn++pins,s.heap.get? p.1=aa p.2/\H p.1=aj/\p.1≠X.env.locals/\p.1∉X.fs/\∀v,p.2.data≠.cell v
 hok:iU X.prog X.w H s.heap
 len:σ.length=X.N.length
section
variable{X:Cx}{pins:List (aq×Obj)}{σ:List (Option V)}{H H':Hp}{s:aB}{h':bz}
theorem Cx.Ok.apV(ok:X.Ok){b:aq}{o:Obj}(e:X.base.get? b=aa o):b∉X.fs:=λhb=>by
 have:=(ok.sG.mem hb).1;rw[e] at this;cases this
theorem Inv.bs(I:Inv X pins σ H s):∀b o,X.base.get? b=aa o->s.heap.get? b=aa o/\H b=aj:=λb o e=>
 ⟨I.base.keep b o (I.ok.bs b o e).1 (I.ok.bs b o e).2 (I.ok.apV e) (I.ok.Ik b o e),I.base.free b o (I.ok.bs b o e).1 (I.ok.bs b o e).2 (I.ok.Ik b o e)⟩
theorem Inv.bk(I:Inv X pins σ H s):∀b o,X.base.get? b=aa o->s.heap.get? b=aa o:=λb o e=>(I.bs b o e).1
theorem Inv.mod(I:Inv X pins σ H s):Mod X.K X.mg X.base:=I.ok.mod
theorem Inv.jk(I:Inv X pins σ H s):X.K.In s.heap:=I.ok.mod.W7.keeps I.bk
theorem Inv.nolimit(I:Inv X pins σ H s):s.heap.NoLimit:=I.ok.mod.nolimit.keeps I.bk
theorem Inv.fr(I:Inv X pins σ H s):∃m,Fr X.base X.env.locals s.heap m:=
 let ⟨m,hn,_⟩:=I.loc
 ⟨m,hn,I.bk,jQ I.ok.vh I.ok.above⟩
theorem Inv.lt(I:Inv X pins σ H s):X.env.locals<s.heap.objs.size:=let ⟨_,hn,_⟩:=I.loc;hn.lt
theorem Inv.sz(I:Inv X pins σ H s):X.s₀.heap.objs.size<=s.heap.objs.size:=jQ I.ok.above (xU I.lt)
theorem Inv.apW(I:Inv X pins σ H s){a:aq}(h:s.heap.objs.size<=a):a∉X.fs:=λhb=>by
 obtain⟨_,o,ho,_⟩:=I.ok.sG.mem hb
 exact absurd (pQ (cC ho) (jQ I.sz h)) (xR _)
theorem Inv.BK(I:Inv X pins σ H s):∀x c,X.env.cells.lookup x=aa c->c≠X.env.locals:=λx c e z=>by
 obtain⟨v,o,ho,hd⟩:=I.cell x c e
 obtain⟨m,⟨o',es,ep,ho',hd',_⟩,_⟩:=I.loc
 rw[z,ho'] at ho;cases ho;rw[hd'] at hd;cases hd
theorem Inv.sG(I:Inv X pins σ H s):s.heap.FunFrames X.base X.outer:=by
 have all:∀(l:List Env),(∀b∈frs l,b∈X.fs)->X.s₀.heap.FunFrames X.base l->s.heap.FunFrames X.base l:=by
  intro l;induction l with
  |nil=>intro _ _;trivial
  |cons env r ih=>
   intro hs hl
   obtain⟨hk,⟨L,o,hf,hn,ho,hd⟩,hr⟩:=hl
   have hL:L∈X.fs:=hs L (by unfold frs;rw[Ym,hf];exact dg)
   obtain⟨sl,e⟩:=I.base.slot L o ho (I.ok.BJ L hL) hL λz=>I.ok.Oe L z hL
   exact⟨hk,⟨L,_,hf,hn,e,hd⟩,ih (λb hb=>hs b (by unfold frs;rw[Ym,hf];exact dZ _ hb)) hr⟩
 exact all X.outer (λ_ hb=>hb) I.ok.sG
theorem Inv.stack(I:Inv X pins σ H s):s.heap.FunFrames X.base X.stack:=by
 rcases I.ok.stk with e|⟨e,hf⟩
 .rw[e];exact I.sG
 .rw[e]
  obtain⟨m,hn,_⟩:=I.loc
  refine .cons (by rw[I.ok.kind];decide) hf hn ?_ I.sG;exact Heap.get?_none_of_le (jQ I.ok.vh I.ok.above)
theorem Inv.Dz(I:Inv X pins σ H s):∀b∈frs X.stack,b∈X.env.locals::X.fs:=λb hb=>by
 rcases I.ok.stk with e|⟨e,hf⟩
 .rw[e] at hb;exact dZ _ hb
 .rw[e] at hb;unfold frs at hb;rw[Ym,hf] at hb;exact hb
theorem Inv.acu(I:Inv X pins σ H s):∀b∈frs X.stack,H b=aj:=λb hb=>by
 rcases bY.mp (I.Dz b hb) with e|hb
 .rw[e];exact I.free
 .obtain⟨_,o,ho,_⟩:=I.ok.sG.mem hb
  exact I.base.free b o ho (I.ok.BJ b hb) λz=>I.ok.Oe b z hb
theorem Inv.step{g':Array GenState}{t':Nat}{d':Al}{ch:List aq}(I:Inv X pins σ H s)
  (hch:∀b∈ch,(b∈X.ex\/X.s₀.heap.objs.size<=b)/\b≠X.env.locals/\(∀x c,X.env.cells.lookup x=aa c->c≠b)/\∀p∈X.pn++pins,p.1≠b)
  (keep:∀b o,b≠X.env.locals->b∉X.fs->b∉ch->s.heap.get? b=aa o->H b=aj->h'.get? b=aa o)
  (slot:∀b o,b≠X.env.locals->b∈X.fs->b∉ch->s.heap.get? b=aa o->H b=aj->∃sl,h'.get? b=aa {o with slots:=sl})(free:∀b o,b∉ch->s.heap.get? b=aa o->H b=aj->H' b=aj)
  (there:∀b o,b∉ch->s.heap.get? b=aa o->∃o',h'.get? b=aa o')
  (tups:∀b xs,H b=aa (.tup xs)->H' b=aa (.tup xs))(q9:∀b o u,H b=aa (.mZ o u)->H' b=aa (.mZ o u))(sE:∀b ps,H b=aa (.By ps)->∃more,H' b=aa (.By (ps++more)))
  (ns:∀m,s.heap.Ns X.env.locals m->h'.Ns X.env.locals m)(hok:iU X.prog X.w H' h')(hg:AllBare g'):
  Inv X pins σ H' {s with heap:=h',gens:=g',drawn:=d',toks:=t'}:=by
 have neL:∀b o,X.s₀.heap.get? b=aa o->b≠X.env.locals:=λb o e=>fL (pQ (cC e) I.ok.above)
 have O1:∀b o,X.s₀.heap.get? b=aa o->b∉X.ex->b∉ch:=λb o e hx hb=>by
  rcases(hch b hb).1 with z|z
  .exact hx z
  .exact absurd (pQ (cC e) z) (xR _)
 have cellK:∀x c,X.env.cells.lookup x=aa c->∀v,s.heap.IsCell c v->h'.IsCell c v:=λx c e v aN=>by
  obtain⟨o,ho,hd⟩:=aN
  have IW:c∉ch:=λz=>(hch c z).2.2.1 x c e rfl
  by_cases hc:c∈X.fs
  .obtain⟨sl,q⟩:=slot c o (I.BK x c e) hc IW ho (I.tZ x c e)
   exact⟨_,q,hd⟩
  .exact⟨o,keep c o (I.BK x c e) hc IW ho (I.tZ x c e),hd⟩
 refine⟨I.ok,I.os,hg,⟨λb o e n hb hx=>?_,λb o e n hb hx=>?_,λb o e n hx=>?_,λb o e hx=>?_,λb xs e=>tups b xs (I.base.tups b xs e),λb o xs e=>q9 b o xs (I.base.q9 b o xs e),λb ps e=>?_⟩,?_,λx c e=>?_,?_,λx c e=>?_,λp hp=>?_,hok,I.len⟩
 .exact keep b o (neL b o e) hb (O1 b o e hx) (I.base.keep b o e n hb hx) (I.base.free b o e n hx)
 .obtain⟨sl,e1⟩:=I.base.slot b o e n hb hx
  obtain⟨sl',e2⟩:=slot b _ (neL b o e) hb (O1 b o e hx) e1 (I.base.free b o e n hx)
  exact⟨sl',e2⟩
 .obtain⟨o',e1⟩:=I.base.there b o e hx
  exact free b o' (O1 b o e hx) e1 (I.base.free b o e n hx)
 .obtain⟨o',e1⟩:=I.base.there b o e hx
  exact there b o' (O1 b o e hx) e1
 .obtain⟨m1,e1⟩:=I.base.sE b ps e
  obtain⟨m2,e2⟩:=sE b _ e1
  exact⟨m1++m2,by rw[e2,agS]⟩
 .obtain⟨m,hn,hl⟩:=I.loc
  refine⟨m,ns m hn,λi x v e1 e2 e3=>?_⟩
  obtain⟨u,r,l⟩:=hl i x v e1 e2 e3
  refine⟨u,r,?_⟩
  rcases l with l|⟨k,c,e,z⟩
  .exact .inl l
  .exact .inr ⟨k,c,e,cellK x c e _ z⟩
 .obtain⟨v,z⟩:=I.cell x c e
  exact⟨v,cellK x c e v z⟩
 .obtain⟨m,⟨o,_,_,ho,_⟩,_⟩:=I.loc
  exact free _ o (λz=>(hch _ z).2.1 rfl) ho I.free
 .obtain⟨v,o,ho,hd⟩:=I.cell x c e
  exact free c o (λz=>(hch c z).2.2.1 x c e rfl) ho (I.tZ x c e)
 .obtain⟨e,n,ne,nf,d⟩:=I.pin p hp
  have IW:p.1∉ch:=λz=>(hch p.1 z).2.2.2 p hp rfl
  exact⟨keep p.1 p.2 ne nf IW e n,free p.1 p.2 IW e n,ne,nf,d⟩
theorem Inv.un{t':Nat}(I:Inv X pins σ H s)(u:Un X.fs [] H H' s.heap h')(hok:iU X.prog X.w H' h'):Inv X pins σ H' {s with heap:=h',toks:=t'}:=by
 obtain⟨m,⟨o,es,ep,ho,r⟩,_⟩:=id I.loc
 obtain⟨sl,hL⟩:=u.any ho I.free (by simp)
 exact I.step (g':=s.gens) (d':=s.drawn) (ch:=[]) (λ_ z=>nomatch z) (λb o _ hb _ e n=>u.keep b o e n hb (by simp)) (λb o _ hb _ e n=>u.slot b o e n hb (by simp)) (λb o _ e n=>u.free b o e n (by simp)) (λb o _ e=>u.there b o e (by simp)) u.tups u.q9 u.sE (λm' hm=>by
  obtain⟨o',es',ep',ho',r'⟩:=hm
  rw[ho] at ho';cases ho'
  exact⟨_,es',ep',hL,r'⟩) hok I.bare
theorem Inv.call{g':Array GenState}{t':Nat}{d':Al}{ch:List aq}(I:Inv X pins σ H s)(u:Un (frs X.stack) ch H H' s.heap h')(hok:iU X.prog X.w H' h')(hg:AllBare g')
  (hch:∀b∈ch,(b∈X.ex\/X.s₀.heap.objs.size<=b)/\b≠X.env.locals/\(∀x c,X.env.cells.lookup x=aa c->c≠b)/\∀p∈X.pn++pins,p.1≠b):
  Inv X pins σ H' {s with heap:=h',gens:=g',drawn:=d',toks:=t'}:=by
 obtain⟨m,⟨o,es,ep,ho,r⟩,_⟩:=id I.loc
 obtain⟨sl,hL⟩:=u.any ho I.free λz=>(hch _ z).2.1 rfl
 exact I.step (ch:=ch) hch (λb o hL hb hc e n=>u.keep b o e n (λz=>(bY.mp (I.Dz b z)).elim hL hb) hc) (λb o _ _ hc e n=>u.any e n hc) (λb o hc e n=>u.free b o e n hc) (λb o hc e=>u.there b o e hc) u.tups u.q9 u.sE (λm' hm=>by
  obtain⟨o',es',ep',ho',r'⟩:=hm
  rw[ho] at ho';cases ho'
  exact⟨_,es',ep',hL,r'⟩) hok hg
theorem Inv.turned{t':Nat}{it:aq}(I:Inv X pins σ H s)(k:∀b o,b≠it->s.heap.get? b=aa o->h'.get? b=aa o)(hn:H it=aj)(hL:it≠X.env.locals)
  (h1:it∈X.ex\/X.s₀.heap.objs.size<=it)(h2:∀x c,X.env.cells.lookup x=aa c->c≠it)(h3:∀p∈X.pn++pins,p.1≠it):Inv X pins σ H {s with heap:=h',toks:=t'}:=by
 have I9:∀b u,H b=aa u->b≠it:=λb u e z=>by rw[z,hn] at e;cases e
 refine I.step (g':=s.gens) (d':=s.drawn) (ch:=[it]) (λb hb=>?_) (λb o _ _ hc e _=>k b o (λz=>hc (by simp[z])) e) (λb o _ _ hc e _=>⟨o.slots,k b o (λz=>hc (by simp[z])) e⟩) (λ_ _ _ _ n=>n)
  (λb o hc e=>⟨o,k b o (λz=>hc (by simp[z])) e⟩) (λ_ _ e=>e) (λ_ _ _ e=>e) (λb ps e=>⟨#[],by rw[e];simp⟩) (λm hm=>?_) (λb u e=>?_) I.bare
 .have e:b=it:=by simpa using hb
  subst e
  exact⟨h1,hL,h2,h3⟩
 .obtain⟨o,es,ep,ho,r⟩:=hm
  exact⟨o,es,ep,k _ o (lO hL) ho,r⟩
 .refine(I.hok b u e).stay (λc v hc q=>k c v ?_ q) (λ_ q=>q) λ_ _ q=>q
  rcases hc with z|z
  .rw[z];exact I9 b u e
  .exact I9 c _ z
theorem Inv.tok(I:Inv X pins σ H s)(t:Nat):Inv X pins σ H {s with toks:=t}:=I.un (h':=s.heap) (t':=t) Un.refl I.hok
theorem Inv.kept{t':Nat}(I:Inv X pins σ H s)(k:∀b u,s.heap.get? b=aa u->h'.get? b=aa u):Inv X pins σ H {s with heap:=h',toks:=t'}:=I.un (Un.kept k) (I.hok.kept k)
theorem Inv.laid{a:aq}{o:HO}{t':Nat}(I:Inv X pins σ H s)(k:∀b u,s.heap.get? b=aa u->h'.get? b=aa u)(hp:s.heap.objs.size<=a)(new:fB X.prog X.w (upd H a o) h' a o):
  Inv X pins σ (upd H a o) {s with heap:=h',toks:=t'}:=I.un (Un.laid k hp (I.hok.fresh hp)) (I.hok.laid k hp new)
theorem Inv.write{x e:aq}{o:HO}{t':Nat}(I:Inv X pins σ H s)(mu:IV (H x))(he:e=x\/H e=aa (.own x))(k:∀b u,b≠e->s.heap.get? b=aa u->h'.get? b=aa u)(heo:∃u,h'.get? e=aa u)
  (new:fB X.prog X.w (upd H x o) h' x o):Inv X pins σ (upd H x o) {s with heap:=h',toks:=t'}:=I.un (Un.write mu he k heo) (I.hok.write mu he k heo new)
theorem Inv.weak{σ':List (Option V)}(I:Inv X pins σ H s)(hl:σ'.length=σ.length)(w:∀(i:Nat) v,σ'[i]?=aa (aa v)->σ[i]?=aa (aa v)):Inv X pins σ' H s:=
 ⟨I.ok,I.os,I.bare,I.base,let ⟨m,hn,hl'⟩:=I.loc;⟨m,hn,λi x v e1 e2 e3=>hl' i x v e1 (w i v e2) e3⟩,I.cell,I.free,I.tZ,I.pin,I.hok,hl.trans I.len⟩
theorem Inv.acv{Wd:List (aq×Obj)}(I:Inv X pins σ H s)(h:∀p∈Wd,s.heap.get? p.1=aa p.2/\H p.1=aj/\p.1≠X.env.locals/\p.1∉X.fs/\∀v,p.2.data≠.cell v):Inv X Wd σ H s:=
 ⟨I.ok,I.os,I.bare,I.base,I.loc,I.cell,I.free,I.tZ,λp hp=>(dD.mp hp).elim (λz=>I.pin p (gO _ z)) (h p),I.hok,I.len⟩
theorem abw{N:List Str}(hN:N.Nodup){i j:Nat}{x:Str}(a:N[i]?=aa x)(b:N[j]?=aa x):i=j:=by
 obtain⟨h1,e1⟩:=jW.mp a
 obtain⟨h2,e2⟩:=jW.mp b
 exact(List.getElem_inj hN).mp (e1.trans e2.symm)
theorem SQ{M:Model}{A:cD}{E:Value->aB->Prop}{i:Nat}{x:Str}{v:V}{u:Value}{Q:Unit->aB->Prop}(I:Inv X pins σ H s)(hN:X.N.Nodup)(hi:X.N[i]?=aa x)(hx:Loc X.env.scope x)(r:RelV v u)
  (h:∀s',Inv X pins (σ.set i (aa v)) H s'->(∃a,zQ a s.heap s'.heap/\(a=X.env.locals\/X.env.cells.lookup x=aa a))->Q () s')(hf:X.fn x=ao\/X.env.scope.names.lookup x=aa .local:=by first|exact .inl rfl|exact .inr rfl|assumption):aQ M A (storeName X.env x u) Q E s:=by
 obtain⟨m,hn,hl⟩:=id I.loc
 have hcls:(X.env.scope.kind==.class||(X.env.scope.kind==.module&&X.env.locals != X.env.globals))=aF:=by rw[I.ok.kind];rfl
 have hiσ:i<σ.length:=by rw[I.len];exact(jW.mp hi).1
 have BK:=I.BK;have tracked:∀{a:aq}{h':bz},(∃o,s.heap.get? a=aa o/\H a=aj)->zQ a s.heap h'->iU X.prog X.w H h':=λ{a h'} ha hs b ob e=>by
  obtain⟨_,_,hfree⟩:=ha
  refine(I.hok b ob e).stay (λc w' hc q=>(hs.2 c ?_).trans q) (λ_ q=>q) λ_ _ q=>q
  rintro rfl;rcases hc with rfl|hc
  .rw[hfree] at e;cases e
  .rw[hfree] at hc;cases hc
 rcases hx with hk|hk
 .refine wpAny_storeName_local hk hn (λh' hn' hs=>?_) hcls
  obtain⟨oL,_,_,hoL,_⟩:=id hn
  refine h _ ⟨I.ok,I.os,I.bare,⟨λb o e n hb hx=>?_,λb o e n hb hx=>?_,I.base.free,λb o e hx=>?_,I.base.tups,I.base.q9,I.base.sE⟩,⟨_,hn',λj y v' e1 e2 e3=>?_⟩,λy c e=>?_,I.free,I.tZ,λp hp=>?_,tracked ⟨oL,hoL,I.free⟩ hs,by simpa using I.len⟩ ⟨_,hs,.inl rfl⟩
  .exact(hs.2 b (fL (pQ (cC e) I.ok.above))).trans (I.base.keep b o e n hb hx)
  .obtain⟨sl,e1⟩:=I.base.slot b o e n hb hx
   exact⟨sl,(hs.2 b (fL (pQ (cC e) I.ok.above))).trans e1⟩
  .obtain⟨o',e1⟩:=I.base.there b o e hx
   exact⟨o',(hs.2 b (fL (pQ (cC e) I.ok.above))).trans e1⟩
  .by_cases hj:j=i
   .subst hj;rw[hi] at e1;cases e1;rw[ago hiσ] at e2;cases e2
    exact⟨u,r,.inl ⟨hk,by simp⟩⟩
   .rw[xx (lO hj)] at e2
    obtain⟨u',r',q⟩:=hl j y v' e1 e2 e3
    refine⟨u',r',?_⟩
    rcases q with⟨k,e⟩|⟨k,c,e,z⟩
    .refine .inl ⟨k,?_⟩;have:y≠x:=λe=>hj (abw hN e1 (e▸hi))
     simp[this,e]
    .exact .inr ⟨k,c,e,z.sameBut hs (BK y c e)⟩
  .obtain⟨w',z⟩:=I.cell y c e
   exact⟨w',z.sameBut hs (BK y c e)⟩
  .obtain⟨e,n,ne,nf,d⟩:=I.pin p hp
   exact⟨(hs.2 p.1 ne).trans e,n,ne,nf,d⟩
 .have hfn:X.fn x=ao:=by
   rcases hf with z|z
   .exact z
   .rw[z] at hk;cases hk
  obtain⟨c,hc⟩:=I.ok.has x (.inl hk)
  obtain⟨w',z⟩:=I.cell x c hc
  refine wpAny_storeName_cell I.ok.kind hk hc z (λh' hc' hs=>?_)
  obtain⟨oc,hoc,apY⟩:=id z
  refine h {s with heap:=h'} ⟨I.ok,I.os,I.bare,⟨λb o e n hb hx=>?_,λb o e n hb hx=>?_,I.base.free,λb o e hx=>?_,I.base.tups,I.base.q9,I.base.sE⟩,⟨m,hn.sameBut hs (lO (BK x c hc)),λj y v' e1 e2 e3=>?_⟩,λy c' e=>?_,I.free,I.tZ,λp hp=>?_,tracked ⟨oc,hoc,I.tZ x c hc⟩ hs,by simpa using I.len⟩ ⟨c,hs,.inr hc⟩
  .exact(hs.2 b (fL (pQ (cC e) (I.ok.cab x c hfn hc)))).trans (I.base.keep b o e n hb hx)
  .obtain⟨sl,e1⟩:=I.base.slot b o e n hb hx
   exact⟨sl,(hs.2 b (fL (pQ (cC e) (I.ok.cab x c hfn hc)))).trans e1⟩
  .obtain⟨o',e1⟩:=I.base.there b o e hx
   exact⟨o',(hs.2 b (fL (pQ (cC e) (I.ok.cab x c hfn hc)))).trans e1⟩
  .by_cases hj:j=i
   .subst hj;rw[hi] at e1;cases e1;rw[ago hiσ] at e2;cases e2
    exact⟨u,r,.inr ⟨.inl hk,c,hc,hc'⟩⟩
   .rw[xx (lO hj)] at e2
    obtain⟨u',r',q⟩:=hl j y v' e1 e2 e3
    refine⟨u',r',?_⟩
    rcases q with q|⟨k,c',e,z'⟩
    .exact .inl q
    .refine .inr ⟨k,c',e,z'.sameBut hs ?_⟩;rintro rfl;exact hj (abw hN e1 (I.ok.inj _ _ _ e hc▸hi))
  .by_cases hcc:c'=c
   .subst hcc;exact⟨_,hc'⟩
   .obtain⟨w2,z2⟩:=I.cell y c' e
    exact⟨w2,z2.sameBut hs hcc⟩
  .obtain⟨e,n,ne,nf,d⟩:=I.pin p hp
   refine⟨(hs.2 p.1 ?_).trans e,n,ne,nf,d⟩
   intro q;rw[q,hoc] at e;have q':oc=p.2:=gP e;exact d w' (by rw[<-q'];exact apY)
theorem uR{M:Model}{A:cD}{E:Value->aB->Prop}{i:Nat}{x:Str}{v:V}{u:Value}{Q:Unit->aB->Prop}(I:Inv X pins σ H s)(hN:X.N.Nodup)(hi:X.N[i]?=aa x)(hx:Loc X.env.scope x)(r:RelV v u)
  (h:∀s',Inv X pins (σ.set i (aa v)) H s'->Q () s')(hf:X.fn x=ao\/X.env.scope.names.lookup x=aa .local:=by first|exact .inl rfl|exact .inr rfl|assumption):aQ M A (storeName X.env x u) Q E s:=
 SQ I hN hi hx r (λs' I' _=>h s' I') hf
theorem Inv.call'{s':aB}{ch:List aq}(I:Inv X pins σ H s)(ho:s'.os=s.os)(u:Un (frs X.stack) ch H H' s.heap s'.heap)(hok:iU X.prog X.w H' s'.heap)(hg:AllBare s'.gens)
  (hch:∀b∈ch,(b∈X.ex\/X.s₀.heap.objs.size<=b)/\b≠X.env.locals/\(∀x c,X.env.cells.lookup x=aa c->c≠b)/\∀p∈X.pn++pins,p.1≠b):Inv X pins σ H' s':=by
 obtain⟨h',g',d',t',o'⟩:=s'
 have e:o'=s.os:=ho;subst e;exact I.call (g':=g') (t':=t') (d':=d') u hok hg hch
end
abbrev XK:=Value->Option aq->Hp->Prop
abbrev St:=List (Option V)
abbrev VK:=V->Hp->Prop
abbrev TE:=St->Hp->VK->Prop
abbrev TT:=St->Hp->(Bool->Hp->Prop)->Prop
abbrev TA:=St->Hp->(List V->Hp->Prop)->Prop
structure Ends where
 nx:St->Hp->Prop
 rt:VK
 bk:St->Hp->Prop:=λ_ _=>False
 ct:St->Hp->Prop:=λ_ _=>False
abbrev TS:=Ends->St->Hp->Prop
def EP(X:Cx)(pins:List (aq×Obj))(σ:St)(Q:VK)(u:Value)(s':aB):Prop:=∃v H',Inv X pins σ H' s'/\RelV v u/\Q v H'
def TP(X:Cx)(pins:List (aq×Obj))(σ:St)(Q:Bool->Hp->Prop)(b:Bool)(s':aB):Prop:=∃H',Inv X pins σ H' s'/\Q b H'
def AP(X:Cx)(pins:List (aq×Obj))(σ:St)(Q:List V->Hp->Prop)(us:List Value)(s':aB):Prop:=∃vs H',Inv X pins σ H' s'/\Vals vs us/\Q vs H'
def SP(X:Cx)(pins:List (aq×Obj))(D:Ends)(f:Flow)(s':aB):Prop:=
 match f with
 |.next=>∃σ' H',Inv X pins σ' H' s'/\D.nx σ' H'
 |.brk=>∃σ' H',Inv X pins σ' H' s'/\D.bk σ' H'
 |.cont=>∃σ' H',Inv X pins σ' H' s'/\D.ct σ' H'
 |.ret u=>∃v σ' H',Inv X pins σ' H' s'/\RelV v u/\D.rt v H'
def PE(X:Cx)(e:Expr)(t:TE):Prop:=
 ∀(pins:List (aq×Obj))(s:aB)(σ:St)(H:Hp)(Q:VK),Inv X pins σ H s->t σ H Q->aQ (model X.prog X.w) X.A (eval e X.env) (EP X pins σ Q) X.xe s
def PT(X:Cx)(e:Expr)(t:TT):Prop:=
 ∀(pins:List (aq×Obj))(s:aB)(σ:St)(H:Hp)(Q:Bool->Hp->Prop),Inv X pins σ H s->t σ H Q->aQ (model X.prog X.w) X.A (isTrue e X.env (eval e X.env)) (TP X pins σ Q) X.xe s
def PW(X:Cx)(e:Expr)(t:TT):Prop:=
 ∀(whole:Sem Value)(pins:List (aq×Obj))(s:aB)(σ:St)(H:Hp)(Q:Bool->Hp->Prop),Inv X pins σ H s->t σ H Q->aQ (model X.prog X.w) X.A (isTrue e X.env whole) (TP X pins σ Q) X.xe s
theorem PW.pt{X:Cx}{e:Expr}{t:TT}(h:PW X e t):PT X e t:=h _
def PA(X:Cx)(es:List Expr)(t:TA):Prop:=
 ∀(pos:Pos)(pins:List (aq×Obj))(s:aB)(σ:St)(H:Hp)(Q:List V->Hp->Prop),Inv X pins σ H s->t σ H Q->aQ (model X.prog X.w) X.A (G8 (f9 pos (bC es X.env))) (AP X pins σ Q) X.xe s
def PS(X:Cx)(st:cX)(t:TS):Prop:=
 ∀(pins:List (aq×Obj))(s:aB)(σ:St)(H:Hp)(D:Ends),Inv X pins σ H s->t D σ H->aQ (model X.prog X.w) X.A (exec st X.env) (SP X pins D) X.xe s
def jO(X:Cx)(st:List cX)(t:TS):Prop:=
 ∀(pins:List (aq×Obj))(s:aB)(σ:St)(H:Hp)(D:Ends),Inv X pins σ H s->t D σ H->aQ (model X.prog X.w) X.A (execs st X.env) (SP X pins D) X.xe s
theorem bH{α:Type}{t:Sem α}{Q Q':α->aB->Prop}{M:Model}{A:cD}{E:Value->aB->Prop}{s:aB}(h:aQ M A t Q E s)(hQ:∀a s,Q a s->Q' a s):aQ M A t Q' E s:=pW h hQ λ_ _ x=>x
section
variable{X:Cx}
def sH(i:Nat):TE:=λσ H Q=>∃v,σ[i]?=aa (aa v)/\Q v H
def tC(v:V):TE:=λ_ H Q=>Q v H
theorem anB{i:Nat}{x:Str}{pos:Pos}(hN:X.N[i]?=aa x)(hv:OJ X.env.scope x)(hd:(x==("__debug__":Str))=aF:=by decide)(hcd:(x==("__classdict__":Str))=aF:=by decide):PE X (.Name x pos) (sH i):=by
 intro pins s σ H Q I h
 obtain⟨v,e,h⟩:=h
 obtain⟨m,hn,hl⟩:=I.loc
 obtain⟨u,r,l⟩:=hl i x v hN e hv
 have fin:EP X pins σ Q u s:=⟨v,H,I,r,h⟩
 rcases l with⟨hk,hm⟩|⟨hk,c,hc,hcell⟩
 .exact aao (agF I.ok.kind hk hn hm fin) hd
 .rcases hk with hk|hk
  .exact aao (agL I.ok.kind hk hc hcell fin) hd
  .exact aao (wpAny_loadName_free I.ok.kind hk hc hcell fin hcd) hd
theorem bh{i j pos}:PE X (.Constant (.int i) j pos) (tC (.int i)):=λ_ _ _ H _ I h=>wpAny_Constant_int ⟨.int i,H,I.tok _,⟨_,rfl⟩,h⟩
theorem rW{b j pos}:PE X (.Constant (.bool b) j pos) (tC (.bl b)):=λ_ _ _ H _ I h=>Constant_bool ⟨.bl b,H,I,rfl,h⟩
theorem p6{j pos}:PE X (.Constant .none j pos) (tC .non):=λ_ _ _ H _ I h=>Constant_none ⟨.non,H,I,rfl,h⟩
theorem Af{x j pos}:PE X (.Constant (.str x) j pos) (tC (.str x)):=λ_ _ _ H _ I h=>Calls.Constant_str ⟨.str x,H,I.tok _,⟨_,rfl⟩,h⟩
def Gl(X:Cx)(x:Str):Prop:=X.env.kindOf x=aa .globalImplicit
theorem acw{E:Value->aB->Prop}{pins:List (aq×Obj)}{s:aB}{σ:St}{H:Hp}{x:Str}{u:Value}{pos:Pos}{Q:Value->aB->Prop}(I:Inv X pins σ H s)(hg:Gl X x)(hm:X.mg x=aa u)(h:Q u s)
  (hd:(x==("__debug__":Str))=aF:=by decide):aQ (model X.prog X.w) X.A (eval (.Name x pos) X.env) Q E s:=
 aga I.ok.kind hg (Calls.loadGlobal_global (by rw[I.ok.glob];exact I.mod.glob.keeps I.bk) hm h) hd
theorem yp{E:Value->aB->Prop}{pins:List (aq×Obj)}{s:aB}{σ:St}{H:Hp}{x:Str}{u:Value}{pos:Pos}{Q:Value->aB->Prop}(I:Inv X pins σ H s)(hg:Gl X x)(hm:X.mg x=aj)(hv:uM x=aa u)(h:Q u s)
  (hn:x≠"__name__":=by decide)(hd:(x==("__debug__":Str))=aF:=by decide):aQ (model X.prog X.w) X.A (eval (.Name x pos) X.env) Q E s:=by
 obtain⟨mb,h1,h2⟩:=I.mod.blt
 exact aga I.ok.kind hg (Calls.loadGlobal_builtin (by rw[I.ok.glob];exact I.mod.glob.keeps I.bk) hm (by rw[I.ok.blt];exact h1.keeps I.bk) ((h2 x hn).trans hv) h) hd
theorem acy{x:Str}{v:V}{u:Value}{pos:Pos}(hg:Gl X x)(hm:X.mg x=aa u)(r:RelV v u)(hd:(x==("__debug__":Str))=aF:=by decide):PE X (.Name x pos) (tC v):=
 λ_ _ _ H _ I h=>acw I hg hm ⟨v,H,I,r,h⟩ hd
theorem oG{x:Str}{v:V}{u:Value}{pos:Pos}(hg:Gl X x)(hm:X.mg x=aj)(hv:uM x=aa u)(r:RelV v u)(hn:x≠"__name__":=by decide)(hd:(x==("__debug__":Str))=aF:=by decide):PE X (.Name x pos) (tC v):=
 λ_ _ _ H _ I h=>yp I hg hm hv ⟨v,H,I,r,h⟩ hn hd
variable{a b:Expr}{ta tb:TE}{pos:Pos}
variable{tA O2:TT}{rest:List Expr}
def aeQ(t u:TT):TT:=λσ H Q=>t σ H λc H1=>if c=ao then u σ H1 Q else Q aF H1
def tOr(t u:TT):TT:=λσ H Q=>t σ H λc H1=>if c=ao then Q ao H1 else u σ H1 Q
def apZ(t:TT):TT:=λσ H Q=>t σ H λc H1=>Q (!c) H1
theorem pw_and1(ha:PT X a tA):PW X (.BoolOp .And [a] pos) tA:=by
 intro wh pins s σ H Q I h;refine isTrue_and (bH (ha pins s σ H Q I h) λc s1 e=>?_);cases c with
 |true=>exact isTrue_and_nil e
 |false=>exact e
theorem pw_or1(ha:PT X a tA):PW X (.BoolOp .Or [a] pos) tA:=by
 intro wh pins s σ H Q I h;refine isTrue_or (bH (ha pins s σ H Q I h) λc s1 e=>?_);cases c with
 |false=>exact isTrue_or_nil e
 |true=>exact e
theorem pw_and(ha:PT X a tA)(hb:PW X (.BoolOp .And (b::rest) pos) O2):PW X (.BoolOp .And (a::b::rest) pos) (aeQ tA O2):=by
 intro wh pins s σ H Q I h;refine isTrue_and (bH (ha pins s σ H _ I h) λc s1 aN=>?_)
 obtain⟨H1,I1,q1⟩:=aN
 cases c with
 |true=>exact hb wh pins s1 σ H1 Q I1 q1
 |false=>exact⟨H1,I1,q1⟩
theorem pw_or(ha:PT X a tA)(hb:PW X (.BoolOp .Or (b::rest) pos) O2):PW X (.BoolOp .Or (a::b::rest) pos) (tOr tA O2):=by
 intro wh pins s σ H Q I h;refine isTrue_or (bH (ha pins s σ H _ I h) λc s1 aN=>?_)
 obtain⟨H1,I1,q1⟩:=aN
 cases c with
 |true=>exact⟨H1,I1,q1⟩
 |false=>exact hb wh pins s1 σ H1 Q I1 q1
theorem anC(ha:PT X a tA):PT X (.UnaryOp .Not a pos) (apZ tA):=by
 intro pins s σ H Q I h;exact isTrue_not (ha pins s σ H (λc H1=>Q (!c) H1) I h)
def aoW(ta tb:TE):TE:=λσ H Q=>ta σ H λx H1=>∃c,x=.bl c/\if c=ao then tb σ H1 Q else Q (.bl aF) H1
def aoX(ta:TE):TE:=λσ H Q=>ta σ H λx H1=>∃c,x=.bl c/\Q (.bl (!c)) H1
theorem anD{op}{t:TE}(h:PE X a t):PE X (.BoolOp op [a] pos) t:=λpins s σ H Q I hw=>BoolOp_one (h pins s σ H Q I hw)
theorem anE(ha:PE X a ta)(hb:PE X (.BoolOp .And (b::rest) pos) tb):PE X (.BoolOp .And (a::b::rest) pos) (aoW ta tb):=by
 intro pins s σ H Q I h;refine BoolOp_and (bH (ha pins s σ H _ I h) λv s1 aN=>?_)
 obtain⟨x,H1,I1,r1,q1⟩:=aN
 obtain⟨c,rfl,q1⟩:=q1
 cases r1;refine xJ ?_;cases c with
 |true=>exact hb pins s1 σ H1 Q I1 q1
 |false=>exact⟨.bl aF,H1,I1,rfl,q1⟩
theorem anF(ha:PE X a ta):PE X (.UnaryOp .Not a pos) (aoX ta):=by
 intro pins s σ H Q I h;refine UnaryOp_ (bH (ha pins s σ H _ I h) λv s1 aN=>?_)
 obtain⟨x,H1,I1,r1,q1⟩:=aN
 obtain⟨c,rfl,q1⟩:=q1
 cases r1;exact not_of (xJ ⟨.bl (!c),H1,I1,rfl,q1⟩)
def tIf(t:TT)(ta tb:TE):TE:=λσ H Q=>t σ H λc H1=>if c=ao then ta σ H1 Q else tb σ H1 Q
theorem aky{c:Expr}(hc:PT X c tA)(ha:PE X a ta)(hb:PE X b tb):PE X (.IfExp c a b pos) (tIf tA ta tb):=by
 intro pins s σ H Q I h;refine wpAny_IfExp (bH (hc pins s σ H _ I h) λd s1 aN=>?_)
 obtain⟨H1,I1,q1⟩:=aN
 cases d with
 |true=>exact ha pins s1 σ H1 Q I1 q1
 |false=>exact hb pins s1 σ H1 Q I1 q1
end
def bO(K:aJ)(H:Hp)(a:aq)(xs:List V):Prop:=
 Rd H a (.lst xs)\/
  ∃(o:Obj)(its:Array Value)(n:Nat),K.lookup a=aa o/\o.cls=.type "list"/\o.dict=aj/\o.data=.seq its n/\its.size<=bW/\Vals xs its.toList
def cW(K:aJ)(H:Hp)(a:aq)(xs:List V):Prop:=
 Rd H a (.tup xs)\/
  ∃(o:Obj)(its:Array Value)(n:Nat),K.lookup a=aa o/\o.cls=.type "tuple"/\o.data=.seq its n/\its.size<=bW/\Vals xs its.toList
def ap0:Value->Option V
 |.none=>aa .non
 |.bool b=>aa (.bl b)
 |.int i _=>aa (.int i)
 |.str x _=>aa (.str x)
 |.bytes b _=>aa (.rB b)
 |.float b _=>aa (.flt b)
 |.ref a=>aa (.ref a)
 |.type n=>aa (.ty n)
 |_=>aj
theorem RelV.abs{x:V}{u:Value}(r:RelV x u):ap0 u=aa x:=by
 cases x with
 |non=>cases r;rfl
 |bl _=>cases r;rfl
 |int _=>obtain⟨t,rfl⟩:=r;rfl
 |str _=>obtain⟨t,rfl⟩:=r;rfl
 |rB _=>obtain⟨t,rfl⟩:=r;rfl
 |flt _=>obtain⟨t,rfl⟩:=r;rfl
 |ref _=>cases r;rfl
 |ty _=>cases r;rfl
theorem RelV.inj{x y:V}{u:Value}(r:RelV x u)(q:RelV y u):x=y:=gP (r.abs.symm.trans q.abs)
theorem Vals.inj:∀{xs ys:List V}{us:List Value},Vals xs us->Vals ys us->xs=ys
 |_,_,_,.nil,.nil=>rfl
 |_,_,_,.cons r t,.cons r' t'=>by rw[r.inj r',Vals.inj t t']
section
variable{X:Cx}{pins:List (aq×Obj)}{σ:St}{H:Hp}{s:aB}{a:aq}{xs ys:List V}
theorem bO.of{K:aJ}(h:H a=aa (.lst xs)):bO K H a xs:=.inl (.inl h)
theorem cW.of{K:aJ}(h:H a=aa (.tup xs)):cW K H a xs:=.inl (.inl h)
theorem Inv.list(I:Inv X pins σ H s)(h:bO X.K H a xs):∃its:List Value,Vals xs its/\PlainL s.heap a its.toArray/\xs.length<=bW:=by
 rcases h with h|⟨o,its,n,hk,hc,hd,hs,hz,r⟩
 .obtain⟨z,its,n,r,e⟩:=h.ok I.hok
  exact⟨its,r,⟨_,n,e,rfl,rfl,rfl⟩,z⟩
 .refine⟨its.toList,r,⟨o,n,I.jk a o hk,hc,hd,by simpa using hs⟩,?_⟩
  have e:=r.length;simp only[jF] at e;lia
theorem Inv.tuple(I:Inv X pins σ H s)(h:cW X.K H a xs):∃its:List Value,Vals xs its/\IsTup s.heap a its.toArray/\xs.length<=bW:=by
 rcases h with h|⟨o,its,n,hk,hc,hs,hz,r⟩
 .obtain⟨z,its,r,p⟩:=h.ok I.hok
  exact⟨its,r,p,z⟩
 .refine⟨its.toList,r,⟨o,I.jk a o hk,hc,n,by simpa using hs⟩,?_⟩
  have e:=r.length;simp only[jF] at e;lia
theorem Inv.TQ(I:Inv X pins σ H s)(h:bO X.K H a xs)(h':bO X.K H a ys):xs=ys:=by
 obtain⟨its,r,⟨o,n,e,_,_,d⟩,_⟩:=I.list h
 obtain⟨its',r',⟨o',n',e',_,_,d'⟩,_⟩:=I.list h'
 rw[e] at e';cases e';rw[d] at d';injection d' with d1 _
 have:its=its':=by simpa using congrArg aic d1
 subst this;exact r.inj r'
theorem Inv.ajy(I:Inv X pins σ H s)(h:cW X.K H a xs)(h':cW X.K H a ys):xs=ys:=by
 obtain⟨its,r,⟨o,e,_,n,d⟩,_⟩:=I.tuple h
 obtain⟨its',r',⟨o',e',_,n',d'⟩,_⟩:=I.tuple h'
 rw[e] at e';cases e';rw[d] at d';injection d' with d1 _
 have:its=its':=by simpa using congrArg aic d1
 subst this;exact r.inj r'
end
abbrev Cx.wish(X:Cx)(E:Value->aB->Prop):Cx:={X with xe:=E}
abbrev Cx.wR(X:Cx):Cx:=X.wish λ_ _=>False
theorem Cx.Ok.wish{X:Cx}(ok:X.Ok)(E:Value->aB->Prop):(X.wish E).Ok:=
 ⟨ok.mod,ok.kind,ok.glob,ok.blt,ok.above,ok.inj,ok.has,ok.cab,ok.hd,ok.frames,ok.stk,ok.exf,ok.bs,ok.vh,ok.Ik,ok.Oe,ok.sG,ok.BJ⟩
theorem Cx.Ok.uV{X:Cx}{E:Value->aB->Prop}(ok:(X.wish E).Ok):X.Ok:=
 ⟨ok.mod,ok.kind,ok.glob,ok.blt,ok.above,ok.inj,ok.has,ok.cab,ok.hd,ok.frames,ok.stk,ok.exf,ok.bs,ok.vh,ok.Ik,ok.Oe,ok.sG,ok.BJ⟩
section
variable{X:Cx}{pins:List (aq×Obj)}{σ:St}{H:Hp}{s:aB}{E:Value->aB->Prop}
theorem Inv.wish(I:Inv X pins σ H s)(E:Value->aB->Prop):Inv (X.wish E) pins σ H s:=⟨I.ok.wish E,I.os,I.bare,I.base,I.loc,I.cell,I.free,I.tZ,I.pin,I.hok,I.len⟩
theorem Inv.uV(I:Inv (X.wish E) pins σ H s):Inv X pins σ H s:=⟨I.ok.uV,I.os,I.bare,I.base,I.loc,I.cell,I.free,I.tZ,I.pin,I.hok,I.len⟩
theorem SP.uV{D:Ends}{f:Flow}{s':aB}(h:SP (X.wish E) pins D f s'):SP X pins D f s':=by
 cases f with
 |next=>obtain⟨σ',H',I,q⟩:=h;exact⟨σ',H',I.uV,q⟩
 |brk=>obtain⟨σ',H',I,q⟩:=h;exact⟨σ',H',I.uV,q⟩
 |cont=>obtain⟨σ',H',I,q⟩:=h;exact⟨σ',H',I.uV,q⟩
 |ret u=>obtain⟨v,σ',H',I,r,q⟩:=h;exact⟨v,σ',H',I.uV,r,q⟩
theorem PE.wR{e:Expr}{t:TE}(h:PE X.wR e t):PE X e t:=λpins s σ H Q I hw=>
 pW (h pins s σ H Q (I.wish _) hw) (λ_ _ ⟨v,H',I',r,q⟩=>⟨v,H',I'.uV,r,q⟩) λ_ _ z=>tH z
theorem PT.wR{e:Expr}{t:TT}(h:PT X.wR e t):PT X e t:=λpins s σ H Q I hw=>
 pW (h pins s σ H Q (I.wish _) hw) (λ_ _ ⟨H',I',q⟩=>⟨H',I'.uV,q⟩) λ_ _ z=>tH z
theorem jO.wR{st:List cX}{t:TS}(h:jO X.wR st t):jO X st t:=λpins s σ H D I hw=>
 pW (h pins s σ H D (I.wish _) hw) (λ_ _ q=>q.uV) λ_ _ z=>tH z
end
section
variable{X:Cx}{st:cX}{rest:List cX}{t u:TS}{e:Expr}{te:TE}{pos:Pos}
def aoY:TS:=λD σ H=>D.nx σ H
def aeR(t u:TS):TS:=λD σ H=>t {D with nx:=u D} σ H
theorem alZ:jO X [] aoY:=λ_ _ σ H _ I h=>QD ⟨σ,H,I,h⟩
theorem akz(h1:PS X st t)(h2:jO X rest u):jO X (st::rest) (aeR t u):=by
 intro pins s σ H D I h;refine ahj (bH (h1 pins s σ H {D with nx:=u D} I h) λf s1 q=>?_);cases f with
 |next=>
  obtain⟨σ',H',I',q⟩:=q
  exact h2 pins s1 σ' H' D I' q
 |ret v=>exact q
 |brk=>exact q
 |cont=>exact q
theorem al0(h1:PS X st t):jO X [st] t:=by
 intro pins s σ H D I h;refine ahj (bH (h1 pins s σ H D I h) λf s1 q=>?_);cases f with
 |next=>exact QD q
 |ret v=>exact q
 |brk=>exact q
 |cont=>exact q
theorem Inv.quiet{pins:List (aq×Obj)}{σ:St}{H:Hp}{s:aB}(I:Inv X pins σ H s):interactive X.env=aF:=by simp[interactive,I.ok.kind]
def aoZ(te:TE):TS:=λD σ H=>te σ H λ_ H1=>D.nx σ H1
theorem acz(he:PE X e te)(hs:xV e aj pos.line X.env=pure aF:=by rfl):PS X (.Expr e pos) (aoZ te):=by
 intro pins s σ H D I h;exact wpAny_Expr_any (bH (he pins s σ H _ I h) λv s1 ⟨x,H1,I1,r1,q1⟩=>⟨σ,H1,I1,q1⟩) I.quiet hs
def ap1(te:TE):TS:=λD σ H=>te σ H D.rt
theorem adH(he:PE X e te):PS X (.Return (aa e) pos) (ap1 te):=by
 intro pins s σ H D I h;exact wpAny_Return_some (bH (he pins s σ H _ I h) λv s1 ⟨x,H1,I1,r1,q1⟩=>⟨x,σ,H1,I1,r1,q1⟩)
def ap2(c:TT)(t u:TS):TS:=λD σ H=>c σ H λb H1=>if b=ao then t D σ H1 else u D σ H1
theorem ao0{c:Expr}{a b:List cX}{tc:TT}(hc:PT X c tc)(ha:jO X a t)(hb:jO X b u):PS X (.If c a b pos) (ap2 tc t u):=by
 intro pins s σ H D I h;refine wpAny_If (bH (hc pins s σ H _ I h) λd s1 aN=>?_)
 obtain⟨H1,I1,q1⟩:=aN
 cases d with
 |true=>exact ha pins s1 σ H1 D I1 q1
 |false=>exact hb pins s1 σ H1 D I1 q1
end
abbrev TG:=V->St->Hp->(St->Hp->Prop)->Prop
abbrev wU:=List V->St->Hp->(St->Hp->Prop)->Prop
def PG(X:Cx)(target:Expr)(t:TG):Prop:=
 ∀(pins:List (aq×Obj))(s:aB)(σ:St)(H:Hp)(v:V)(u:Value)(Q:St->Hp->Prop),Inv X pins σ H s->RelV v u->t v σ H Q->
  aQ (model X.prog X.w) X.A (assign target X.env u) (λ_ s'=>∃σ' H',Inv X pins σ' H' s'/\Q σ' H') X.xe s
def O3(X:Cx)(ts:List Expr)(t:wU):Prop:=
 ∀(pins:List (aq×Obj))(s:aB)(σ:St)(H:Hp)(vs:List V)(us:List Value)(Q:St->Hp->Prop),Inv X pins σ H s->Vals vs us->t vs σ H Q->
  aQ (model X.prog X.w) X.A (Gg ((uN ts X.env).map (·.2)) us) (λ_ s'=>∃σ' H',Inv X pins σ' H' s'/\Q σ' H') X.xe s
abbrev WK:=V->V->V->Hp->(Hp->Prop)->Prop
def wM(X:Cx)(t:WK):Prop:=
 ∀(pins:List (aq×Obj))(s:aB)(σ:St)(H:Hp)(o i v:V)(ov iv u:Value)(Q:Hp->Prop),Inv X pins σ H s->RelV o ov->RelV i iv->RelV v u->t o i v H Q->
  aQ (model X.prog X.w) X.A (setItem ov iv u) (λ_ s'=>∃H',Inv X pins σ H' s'/\Q H') X.xe s
abbrev O4:=V->V->Hp->VK->Prop
def PIp(X:Cx)(op:Operator)(t:O4):Prop:=
 ∀(pins:List (aq×Obj))(s:aB)(σ:St)(H:Hp)(x y:V)(v u:Value)(Q:VK),Inv X pins σ H s->RelV x v->RelV y u->t x y H Q->
  aQ (model X.prog X.w) X.A (inplaceOp op v u) (EP X pins σ Q) X.xe s
section
variable{X:Cx}{pos:Pos}
def Am(i:Nat):TG:=λv σ H Q=>Q (σ.set i (aa v)) H
theorem jz{i:Nat}{x:Str}(hN:X.N.Nodup)(hi:X.N[i]?=aa x)(hx:Loc X.env.scope x)(hf:X.fn x=ao\/X.env.scope.names.lookup x=aa .local:=by first|exact .inl rfl|exact .inr rfl|assumption):PG X (.Name x pos) (Am i):=by
 intro pins s σ H v u Q I r h;exact JK (uR I hN hi hx r (λs' I'=>⟨_,H,I',h⟩) hf)
def WL:wU:=λvs σ H Q=>vs=[]/\Q σ H
def We(t:TG)(u:wU):wU:=λvs σ H Q=>∃v r,vs=v::r/\t v σ H λσ' H'=>u r σ' H' Q
theorem G9:O3 X [] WL:=by
 intro pins s σ H vs us Q I r h
 obtain⟨e,h⟩:=h
 subst e;cases r;exact assignInOrder_nil ⟨σ,H,I,h⟩
theorem qN{e:Expr}{es:List Expr}{t:TG}{u:wU}(h1:PG X e t)(h2:O3 X es u)
  (hs:(uN (e::es) X.env).map (·.2)=assign e X.env::(uN es X.env).map (·.2):=by rfl):O3 X (e::es) (We t u):=by
 intro pins s σ H vs us Q I r h
 obtain⟨v,vr,e1,h⟩:=h
 subst e1;cases r with
 |cons r rr=>
  rw[hs];refine assignInOrder_cons (bH (h1 pins s σ H _ _ _ I r h) λ_ s1 aN=>?_)
  obtain⟨σ1,H1,I1,q1⟩:=aN
  exact h2 pins s1 σ1 H1 _ _ Q I1 rr q1
def WM(K:aJ)(n:Nat)(t:wU):TG:=λv σ H Q=>∃a xs,v=.ref a/\cW K H a xs/\xs.length=n/\t xs σ H Q
theorem Hs{es:List Expr}{k:Nat}{t:wU}{n:Nat}(hc:X.calm=ao)(h:O3 X es t)
  (hn:(uN es X.env).length=n:=by rfl)(hst:(uN es X.env).findIdx? (·.1)=aj:=by rfl):PG X (.Tuple es k pos) (WM X.K n t):=by
 intro pins s σ H v u Q I r hw
 obtain⟨a,xs,e1,hq,hl,hw⟩:=hw
 subst e1;cases r
 obtain⟨its,rv,ht,hz⟩:=I.tuple hq
 refine assign_Tuple_tuple (I.ok.hd hc) ht (by simp[hn,<-hl,rv.length]) hst λh' hx=>?_
 have I1:Inv X pins σ H {s with heap:=h'}:=I.kept (t':=s.toks) λb o e=>hx b o (fL (cC e)) e
 exact h pins _ σ H xs _ Q I1 (by simpa using rv) hw
def ap3(to ti:TE)(t:WK):TG:=λv σ H Q=>to σ H λo H1=>ti σ H1 λi H2=>t o i v H2 λH3=>Q σ H3
theorem anG{o i:Expr}{to ti:TE}{t:WK}(ho:PE X o to)(hi:PE X i ti)(hs:wM X t)
  (ha:∀v,assign (.Subscript o i pos) X.env v=(do
   let ov <-rP [v] (eval o X.env)
   let iv <-rP [v,ov] (eval i X.env)
   uU pos
   rP [v,ov,iv] (setItem ov iv v)
   release [v,ov,iv] []):=by intro _;rfl):PG X (.Subscript o i pos) (ap3 to ti t):=by
 intro pins s σ H v u Q I r h;rw[ha];refine aC (nj (bH (ho pins s σ H _ I h) λov s1 aN=>?_))
 obtain⟨x,H1,I1,r1,q1⟩:=aN
 refine aC (nj (bH (hi pins s1 σ H1 _ I1 q1) λiv s2 aN=>?_))
 obtain⟨y,H2,I2,r2,q2⟩:=aN
 refine aC (vD (aC (nj (bH (hs pins s2 σ H2 x y v ov iv u _ I2 r1 r2 r q2) λ_ s3 aN=>?_))))
 obtain⟨H3,I3,q3⟩:=aN
 exact wpAny_release ⟨σ,H3,I3,q3⟩
def Il(te:TE)(g:TG):TS:=λD σ H=>te σ H λx H1=>g x σ H1 D.nx
theorem Vw{tg e:Expr}{te:TE}{g:TG}(he:PE X e te)(hg:PG X tg g)(hs:zO [tg] e pos.line X.env=pure aF:=by rfl)(hw:zP [tg] e X.env=pure aj:=by rfl)
  (h1:(uN [tg] X.env).map (·.2)=[assign tg X.env]:=by rfl):PS X (.Assign [tg] e pos) (Il te g):=by
 intro pins s σ H D I h;refine wpAny_Assign_stores (bH (he pins s σ H _ I h) λv s1 aN=>?_) hs hw
 obtain⟨x,H1,I1,r1,q1⟩:=aN
 rw[h1];exact bH (hg pins s1 σ H1 x v _ I1 r1 q1) λ_ s2 q=>q
theorem anH{i:Nat}{x:Str}{e:Expr}{te:TE}{pos':Pos}(hN:X.N.Nodup)(hi:X.N[i]?=aa x)(hx:Loc X.env.scope x)(he:PE X e te)(hs:xV e (aa (.Name x pos')) pos.line X.env=pure aF:=by rfl)(hf:X.fn x=ao\/X.env.scope.names.lookup x=aa .local:=by first|exact .inl rfl|exact .inr rfl|assumption):
  PS X (.Assign [.Name x pos'] e pos) (Il te (Am i)):=by
 intro pins s σ H D I h;refine wpAny_Assign_Name (bH (he pins s σ H _ I h) λv s1 aN=>?_) hs
 obtain⟨y,H1,I1,r1,q1⟩:=aN
 exact uR I1 hN hi hx r1 (λs2 I2=>⟨_,H1,I2,q1⟩) hf
def ap4(i j:Nat)(ta:TA):TS:=λD σ H=>ta σ H λvs H1=>∃v w,vs=[v,w]/\D.nx ((σ.set i (aa v)).set j (aa w)) H1
theorem anI{i j:Nat}{x y:Str}{a b:Expr}{ta:TA}{px py pt:Pos}{kt k2 pM}(hc:X.calm=ao)(hN:X.N.Nodup)(hi:X.N[i]?=aa x)(hj:X.N[j]?=aa y)(hij:i≠j)
  (hx:X.env.scope.names.lookup x=aa .local)(hy:X.env.scope.names.lookup y=aa .local)(ha:PA X [a,b] ta)
  (hw:zP [.Tuple [.Name x px,.Name y py] kt pt] (.Tuple [a,b] k2 pM) X.env=pure (aa [x,y]))
  (hs:zO [.Tuple [.Name x px,.Name y py] kt pt] (.Tuple [a,b] k2 pM) pos.line X.env=pure aF:=by rfl):
  PS X (.Assign [.Tuple [.Name x px,.Name y py] kt pt] (.Tuple [a,b] k2 pM) pos) (ap4 i j ta):=by
 intro pins s σ H D I h;rw[exec_Assign_arm];refine aC (vD ?_);rw[hs];refine aC (aZ ?_);rw[bf (by decide)];refine aC (Tuple_ (bH (ha _ pins s σ H _ I h) λus s1 aN=>?_))
 obtain⟨vs,H1,I1,r1,q1⟩:=aN
 obtain⟨v,w,e1,q1⟩:=q1
 subst e1
 obtain⟨u1,u2,rfl,rv,rw'⟩:∃u1 u2,us=[u1,u2]/\RelV v u1/\RelV w u2:=by
  cases r1 with
  |cons p q=>
   cases q with
   |cons p' q'=>
    cases q'
    exact⟨_,_,rfl,p,p'⟩
 refine mQ ?_ (by show 2<=bW;decide);have I2:Inv X pins σ H1 {s1 with heap:=s1.heap.push {cls:=.type "tuple",data:=.seq [u1,u2].toArray}}:=I1.kept (t':=s1.toks) λb o e=>cJ _ e
 rw[hw];refine aC (aZ ?_);show aQ (model X.prog X.w) X.A (do rule "assign.swapped-stores";let items <-unpackItems (.ref s1.heap.objs.size) 2 aj;Gg [λv=>vJ X.env y v,λv=>vJ X.env x v] items.reverse;pure SX) _ _ _;refine aC (zW (aC (unpackItems_tuple (items:=#[u1,u2]) (I.ok.hd hc) (IsTup.new s1.heap _) λh' hx'=>?_)));have I3:=I2.kept (h':=h') (t':=s1.toks) λb o e=>hx' b o (fL (cC e)) e
 show aQ _ _ (Gg [λv=>vJ X.env y v,λv=>vJ X.env x v] [u2,u1] >>= λ_=>pure SX) _ _ _;refine aC (assignInOrder_cons (JV (uR I3 hN hj (.inl hy) rw' (λs2 I4=>?_) (.inr hy))));refine assignInOrder_cons (JV (uR I4 hN hi (.inl hx) rv (λs3 I5=>assignInOrder_nil (aZ ?_)) (.inr hx)));rw[Q6 _ _ (lO hij)] at I5
 exact⟨_,H1,I5,q1⟩
def ap5(i:Nat)(te:TE)(ti:O4):TS:=λD σ H=>∃x,σ[i]?=aa (aa x)/\te σ H λy H1=>ti x y H1 λz H2=>D.nx (σ.set i (aa z)) H2
theorem anJ{i:Nat}{x:Str}{e:Expr}{te:TE}{op:Operator}{ti:O4}{pos':Pos}(hN:X.N.Nodup)(hi:X.N[i]?=aa x)(hx:Loc X.env.scope x)(he:PE X e te)(ho:PIp X op ti)(hf:X.fn x=ao\/X.env.scope.names.lookup x=aa .local:=by first|exact .inl rfl|exact .inr rfl|assumption):
  PS X (.AugAssign (.Name x pos') op e pos) (ap5 i te ti):=by
 intro pins s σ H D I h
 obtain⟨v,e1,h⟩:=h
 obtain⟨m,hn,hl⟩:=I.loc
 have vis:OJ X.env.scope x:=by rcases hx with k|k;exact .inl k;exact .inr (.inl k)
 obtain⟨u,r,l⟩:=hl i x v hi e1 vis
 refine wpAny_AugAssign_Name ?_;have go:aQ (model X.prog X.w) X.A (eval e X.env) (λw s₂=>aQ (model X.prog X.w) X.A (inplaceOp op u w) (λr s₃=>aQ (model X.prog X.w) X.A (storeName X.env x r) (λ_=>SP X pins D .next) X.xe s₃) X.xe s₂) X.xe s:=by
  refine bH (he pins s σ H _ I h) λw s1 aN=>?_
  obtain⟨y,H1,I1,r1,q1⟩:=aN
  refine bH (ho pins s1 σ H1 v y u w _ I1 r r1 q1) λz s2 aN=>?_
  obtain⟨zv,H2,I2,r2,q2⟩:=aN
  exact uR I2 hN hi hx r2 (λs3 I3=>⟨_,H2,I3,q2⟩) hf
 rcases l with⟨hk,hm⟩|⟨hk,c,hc,hcell⟩
 .exact agF I.ok.kind hk hn hm go
 .rcases hk with hk|hk
  .exact agL I.ok.kind hk hc hcell go
  .rcases hx with k|k
   .have:X.env.scope.names.lookup x=aa .free:=hk;rw[k] at this;cases this
   .have:X.env.scope.names.lookup x=aa .free:=hk;rw[k] at this;cases this
def ipI(f:Int->Int->Int):O4:=λx y H Q=>∃i j,x=.int i/\y=.int j/\Q (.int (f i j)) H
theorem anK:PIp X .Add (ipI λi j=>i+j):=by
 intro pins s σ H x y v u Q I r1 r2 h
 obtain⟨i,j,e1,e2,q⟩:=h
 subst e1;subst e2
 obtain⟨t,rfl⟩:=r1
 obtain⟨t',rfl⟩:=r2
 exact iadd_int ⟨.int _,H,I.tok _,⟨_,rfl⟩,q⟩
end
section
variable{X:Cx}{pos:Pos}
def adI(c:TT)(tb:TS):TS:=λD σ H=>∃W:Nat->St->Hp->Prop,(∃m,W m σ H)/\∀m σ H,W m σ H->
 c σ H λb H1=>if b=ao then ∃N:St->Hp->Prop,(∀σ' H',N σ' H'->∃m',m'<m/\W m' σ' H')/\tb {D with nx:=N,ct:=N,bk:=D.nx} σ H1 else D.nx σ H1
theorem akA{c:Expr}{body:List cX}{tc:TT}{tb:TS}(hp:S7 (model X.prog X.w) X.A X.env X.xe)(hc:PT X c tc)(hb:jO X body tb):PS X (.While c body [] pos) (adI tc tb):=by
 intro pins s σ H D I h
 obtain⟨W,⟨m0,w0⟩,turn⟩:=h
 refine wpAny_While (codeAny_whileLoop (λn s'=>∃σ' H',Inv X pins σ' H' s'/\W n σ' H') ?_ m0 ⟨σ,H,I,w0⟩);rintro n s1 ⟨σ1,H1,I1,w1⟩;refine Cv hp (bH (hc pins s1 σ1 H1 _ I1 (turn n σ1 H1 w1)) λb s2 aN=>?_)
 obtain⟨H2,I2,q2⟩:=aN
 cases b with
 |true=>
  obtain⟨N,hN,q2⟩:=q2
  rw[aV rfl];refine Cv hp (bH (hb pins s2 σ1 H2 _ I2 q2) λf s3 q3=>?_);cases f with
  |next=>
   obtain⟨σ3,H3,I3,n3⟩:=q3
   obtain⟨m',hm,w3⟩:=hN σ3 H3 n3
   exact⟨m',hm,σ3,H3,I3,w3⟩
  |cont=>
   obtain⟨σ3,H3,I3,n3⟩:=q3
   obtain⟨m',hm,w3⟩:=hN σ3 H3 n3
   exact⟨m',hm,σ3,H3,I3,w3⟩
  |brk=>exact q3
  |ret v=>exact q3
 |false=>
  rw[bf gw];exact QD ⟨σ1,H2,I2,q2⟩
end
structure It where
 go:Nat->Hp->Prop
 yS:Nat->Hp->V->Hp->Prop
 stop:Nat->Hp->Prop
def kO(X:Cx)(pins:List (aq×Obj))(H:Hp)(b:aq):Prop:=
 H b=aj/\b≠X.env.locals/\b∉X.fs/\(b∈X.ex\/X.s₀.heap.objs.size<=b)/\(∀x c,X.env.cells.lookup x=aa c->c≠b)/\∀p∈X.pn++pins,p.1≠b
theorem Inv.yJ{X:Cx}{pins:List (aq×Obj)}{σ:St}{H H':Hp}{s:aB}{b:aq}(I:Inv X pins σ H s)(hb:s.heap.objs.size<=b)(hn:H' b=aj):kO X pins H' b:=by
 refine⟨hn,Gp (pQ I.lt hb),I.apW hb,.inr (jQ I.sz hb),λx c e z=>?_,λp hp z=>?_⟩
 .obtain⟨v,q⟩:=I.cell x c e
  exact absurd (pQ q.lt (by rw[z];exact hb)) (xR _)
 .exact absurd (pQ (cC (I.pin p hp).1) (by rw[z];exact hb)) (xR _)
structure Turn(P:bD)(w:bB)(K:aJ)(tg:Expr)(J:It)(fp:List aq)(it:aq)(tn:Nat->bz->Prop):Prop where
 mem:it∈fp
 obj:∀i h,tn i h->∀b∈fp,∃o,h.get? b=aa o/\∀v,o.data≠.cell v
 keep:∀i h h',tn i h->(∀b∈fp,∀o,h.get? b=aa o->h'.get? b=aa o)->tn i h'
 item:∀(X:Cx),X.prog=P->X.w=w->X.K=K->X.calm=ao->∀(i:Nat)(pins:List (aq×Obj))(s:aB)(σ:St)(H:Hp)(E:Value->aB->Prop),Inv X pins σ H s->(∀b∈fp,kO X pins H b)->tn i s.heap->J.go i H->
  aQ (model P w) X.A (nG (.ref it)) (λr s1=>∃u,r=aa u/\
   aQ (model P w) X.A (zG tg (.ref it) u) (λ_ s2=>∃x H',Inv X pins σ H' s2/\RelV x u/\J.yS i H x H'/\tn (i+1) s2.heap/\∀b∈fp,H' b=aj) E s1) E s
 done:∀(X:Cx),X.prog=P->X.w=w->X.K=K->X.calm=ao->∀(i:Nat)(pins:List (aq×Obj))(s:aB)(σ:St)(H:Hp)(E:Value->aB->Prop),Inv X pins σ H s->(∀b∈fp,kO X pins H b)->tn i s.heap->J.stop i H->
  aQ (model P w) X.A (nG (.ref it)) (λr s1=>r=aj/\Inv X pins σ H s1) E s
 self:∀(A:cD)(i:Nat)(s:aB)(Q:Value->aB->Prop)(E:Value->aB->Prop),tn i s.heap->Q (.ref it) s->aQ (model P w) A (DG (.ref it)) Q E s
abbrev TI:=St->Hp->(It->Hp->Prop)->Prop
def PIE(X:Cx)(pins:List (aq×Obj))(σ:St)(tg:Expr)(R:It->Hp->Prop)(itv:Value)(s2:aB):Prop:=
 ∃(it:aq)(fp:List aq)(tn:Nat->bz->Prop)(J:It)(H':Hp),itv=.ref it/\Inv X pins σ H' s2/\Turn X.prog X.w X.K tg J fp it tn/\tn 0 s2.heap/\(∀b∈fp,kO X pins H' b)/\R J H'
def PI(X:Cx)(tg iter:Expr)(wi:TI):Prop:=
 ∀(pins:List (aq×Obj))(s:aB)(σ:St)(H:Hp)(R:It->Hp->Prop),Inv X pins σ H s->wi σ H R->
  aQ (model X.prog X.w) X.A (eval iter X.env) (λv s1=>aQ (model X.prog X.w) X.A (DG v) (PIE X pins σ tg R) X.xe s1) X.xe s
theorem Wf{M:Model}{A:cD}{E:Value->aB->Prop}{s:aB}{tg:Expr}{it:aq}{u:Value}{o:Obj}{n:String}{vs:Array Value}{Q:Unit->aB->Prop}(ho:s.heap.get? it=aa o)(hc:o.cls=.type n)(hd:o.data=.fields vs)
  (hn:["enumerate","zip","dict_itemiterator","dict_reverseitemiterator","odict_iterator","itertools.zip_longest","itertools.pairwise"].contains n=aF)(hQ:Q () s):aQ M A (zG tg (.ref it) u) Q E s:=by
 unfold zG;cases tg<;>first
  |exact aZ hQ
  |(cases u<;>first
    |exact aZ hQ
    |(refine aC (K4 ho ?_)
      rw[hc,hd];show aQ M A (if(["enumerate","zip","dict_itemiterator","dict_reverseitemiterator","odict_iterator","itertools.zip_longest","itertools.pairwise"].contains n&&vs[0]?==aa (jg _))=ao then _ else _) Q E s;rw[bf (by intro h;rw[hn,Gb] at h;cases h)];exact aZ hQ))
def W8(K:aJ)(a:aq):It:=
 ⟨λi H=>∃xs x,bO K H a xs/\xs[i]?=aa x,λi H x H'=>H'=H/\∀xs,bO K H a xs->xs[i]?=aa x,λi H=>∃xs,bO K H a xs/\xs.length<=i⟩
def W9(K:aJ)(a:aq):It:=
 ⟨λi H=>∃xs x,cW K H a xs/\xs[i]?=aa x,λi H x H'=>H'=H/\∀xs,cW K H a xs->xs[i]?=aa x,λi H=>∃xs,cW K H a xs/\xs.length<=i⟩
def O5(lo:Int)(n:Nat):It:=⟨λi _=>i<n,λi H x H'=>H'=H/\x=.int (lo+i),λi _=>n<=i⟩
theorem ajz{P:bD}{w:bB}{K:aJ}{tg:Expr}(a it:aq):Turn P w K tg (W8 K a) [it] it (λi h=>h.IsListIter it a i) where
 mem:=by simp
 obj:=λi h st b hb=>by
  have e:b=it:=by simpa using hb
  subst e
  obtain⟨o,e,c,d⟩:=st
  exact⟨o,e,λv z=>by rw[d] at z;cases z⟩
 keep:=λi h h' st k=>st.at λo e=>k it (by simp) o e
 item:=by
  intro X hP hw hK hc i pins s σ H E I hf st hg;subst hP hw hK
  obtain⟨xs,x,hq,hx⟩:=hg
  obtain⟨its,rv,p,hz⟩:=I.list hq
  obtain⟨u,hu,ru⟩:=rv.get hx
  obtain⟨f0,f1,f2,f3,f4,f5⟩:=hf it (by simp)
  refine wpAny_pyNext_list_item st p.isList (x:=u) (by simpa using hu) λh' st' sb=>?_
  have I1:Inv X pins σ H {s with heap:=h'}:=I.turned (t':=s.toks) (λb o hb e=>(sb.2 b hb).trans e) f0 f1 f3 f4 f5
  obtain⟨o,e,c,d⟩:=id st'
  exact⟨u,rfl,Wf (s:={s with heap:=h'}) e c d (by decide) ⟨x,H,I1,ru,⟨rfl,λys hy=>by rw[I.TQ hy hq];exact hx⟩,st',λb hb=>(hf b hb).1⟩⟩
 done:=by
  intro X hP hw hK hc i pins s σ H E I hf st hg;subst hP hw hK
  obtain⟨xs,hq,hx⟩:=hg
  obtain⟨its,rv,p,hz⟩:=I.list hq
  obtain⟨f0,f1,f2,f3,f4,f5⟩:=hf it (by simp)
  have hl:=rv.length;exact wpAny_pyNext_list_end (I.ok.hd hc) st p.isList (by simp;lia) λh' eb=>⟨rfl,I.turned (t':=s.toks) (λb o hb e=>eb b o hb e) f0 f1 f3 f4 f5⟩
 self:=λ_ _ _ _ _ st h=>wpAny_pyIter_listiter st h
theorem aiR{P:bD}{w:bB}{K:aJ}{tg:Expr}(a it:aq):Turn P w K tg (W9 K a) [it] it (λi h=>h.IsTupleIter it a i) where
 mem:=by simp
 obj:=λi h st b hb=>by
  have e:b=it:=by simpa using hb
  subst e
  obtain⟨o,e,c,d⟩:=st
  exact⟨o,e,λv z=>by rw[d] at z;cases z⟩
 keep:=λi h h' st k=>st.at λo e=>k it (by simp) o e
 item:=by
  intro X hP hw hK hc i pins s σ H E I hf st hg;subst hP hw hK
  obtain⟨xs,x,hq,hx⟩:=hg
  obtain⟨its,rv,p,hz⟩:=I.tuple hq
  obtain⟨u,hu,ru⟩:=rv.get hx
  obtain⟨f0,f1,f2,f3,f4,f5⟩:=hf it (by simp)
  refine wpAny_pyNext_tuple_item st (show s.heap.IsTuple a its.toArray from p) (x:=u) (by simpa using hu) λh' st' sb=>?_
  have I1:Inv X pins σ H {s with heap:=h'}:=I.turned (t':=s.toks) (λb o hb e=>(sb.2 b hb).trans e) f0 f1 f3 f4 f5
  obtain⟨o,e,c,d⟩:=id st'
  exact⟨u,rfl,Wf (s:={s with heap:=h'}) e c d (by decide) ⟨x,H,I1,ru,⟨rfl,λys hy=>by rw[I.ajy hy hq];exact hx⟩,st',λb hb=>(hf b hb).1⟩⟩
 done:=by
  intro X hP hw hK hc i pins s σ H E I hf st hg;subst hP hw hK
  obtain⟨xs,hq,hx⟩:=hg
  obtain⟨its,rv,p,hz⟩:=I.tuple hq
  obtain⟨f0,f1,f2,f3,f4,f5⟩:=hf it (by simp)
  have hl:=rv.length;exact wpAny_pyNext_tuple_end (I.ok.hd hc) st (show s.heap.IsTuple a its.toArray from p) (by simp;lia) λh' eb=>⟨rfl,I.turned (t':=s.toks) (λb o hb e=>eb b o hb e) f0 f1 f3 f4 f5⟩
 self:=λ_ _ _ _ _ st h=>wpAny_pyIter_tupleiter st h
theorem aiS{P:bD}{w:bB}{K:aJ}{tg:Expr}(it:aq)(lo:Int)(n:Nat):Turn P w K tg (O5 lo n) [it] it (λi h=>IsRangeIter h it (lo+(i:Nat)*1) ((n:Int)-(i:Nat)) 1) where
 mem:=by simp
 obj:=λi h st b hb=>by
  have e:b=it:=by simpa using hb
  subst e
  exact⟨_,st,λv z=>by
   have z':Data.fields _=Data.cell v:=z;cases z'⟩
 keep:=λi h h' st k=>k it (by simp) _ st
 item:=by
  intro X hP hw hK hc i pins s σ H E I hf st hg;subst hP hw hK
  obtain⟨f0,f1,f2,f3,f4,f5⟩:=hf it (by simp)
  have W:=Walks.range (prog:=X.prog) (w:=X.w) (I.ok.hd hc) it lo 1 n;refine W.item i s _ _ hg st λv h' tk hv st' kk=>?_
  obtain⟨t,rfl⟩:=hv
  have I1:Inv X pins σ H {s with heap:=h',toks:=tk}:=I.turned (λb o hb e=>kk b o (by simpa using hb) e) f0 f1 f3 f4 f5
  refine⟨_,rfl,Wf (s:={s with heap:=h',toks:=tk}) (n:="range_iterator") st' rfl rfl (by decide) ⟨.int (lo+i),H,I1,⟨t,?_⟩,⟨rfl,rfl⟩,st',λb hb=>(hf b hb).1⟩⟩
  rw[Int.mul_one]
 done:=by
  intro X hP hw hK hc i pins s σ H E I hf st hg;subst hP hw hK
  obtain⟨f0,f1,f2,f3,f4,f5⟩:=hf it (by simp)
  exact wpAny_pyNext_range_end (I.ok.hd hc) st (by have:n<=i:=hg;lia) λh' eb=>⟨rfl,I.turned (t':=s.toks) (λb o hb e=>eb b o hb e) f0 f1 f3 f4 f5⟩
 self:=λ_ _ _ _ _ st h=>wpAny_pyIter_rangeiter st h
section
variable{X:Cx}{tg:Expr}
def ao1(K:aJ)(tl:TE):TI:=λσ H R=>tl σ H λx H1=>∃a,x=.ref a/\(∃xs,bO K H1 a xs)/\R (W8 K a) H1
def ap6(K:aJ)(tl:TE):TI:=λσ H R=>tl σ H λx H1=>∃a,x=.ref a/\(∃xs,cW K H1 a xs)/\R (W9 K a) H1
theorem UL{l:Expr}{tl:TE}(hl:PE X l tl):PI X tg l (ao1 X.K tl):=by
 intro pins s σ H R I h;refine bH (hl pins s σ H _ I h) λv s1 aN=>?_
 obtain⟨x,H1,I1,r1,q1⟩:=aN
 obtain⟨a,e,⟨xs,hq⟩,q⟩:=q1
 subst e;cases r1
 obtain⟨its,rv,p,hz⟩:=I1.list hq
 refine Yv p.isList ?_
 refine⟨s1.heap.objs.size,[s1.heap.objs.size],_,_,H1,rfl,I1.kept (t':=s1.toks) λb o e=>cJ _ e,ajz a _,⟨_,iI _ rfl,rfl,rfl⟩,λb hb=>?_,q⟩
 have e:b=s1.heap.objs.size:=by simpa using hb
 subst e;exact I1.yJ (bU _) (I1.hok.fresh (bU _))
theorem Vx{l:Expr}{tl:TE}(hl:PE X l tl):PI X tg l (ap6 X.K tl):=by
 intro pins s σ H R I h;refine bH (hl pins s σ H _ I h) λv s1 aN=>?_
 obtain⟨x,H1,I1,r1,q1⟩:=aN
 obtain⟨a,e,⟨xs,hq⟩,q⟩:=q1
 subst e;cases r1
 obtain⟨its,rv,p,hz⟩:=I1.tuple hq
 refine wpAny_pyIter_tuple (show s1.heap.IsTuple a its.toArray from p) ?_
 refine⟨s1.heap.objs.size,[s1.heap.objs.size],_,_,H1,rfl,I1.kept (t':=s1.toks) λb o e=>cJ _ e,aiR a _,⟨_,iI _ rfl,rfl,rfl⟩,λb hb=>?_,q⟩
 have e:b=s1.heap.objs.size:=by simpa using hb
 subst e;exact I1.yJ (bU _) (I1.hok.fresh (bU _))
theorem akB{pins:List (aq×Obj)}{σ:St}{H:Hp}{s:aB}{R:It->Hp->Prop}{E:Value->aB->Prop}{lo hi:Int}{t u v:Tok}{tk:Nat}(I:Inv X pins σ H s)(h1:-(2^62)<=lo)(h2:lo<2^62)(h3:-(2^62)<=hi)(h4:hi<2^62)
  (q:R (O5 lo (hi-lo).toNat) H):aQ (model X.prog X.w) X.A (DG (.ref s.heap.objs.size)) (PIE X pins σ tg R) E {s with heap:=s.heap.push {cls:=.type "range",data:=.fields #[.int lo t,.int hi u,.int 1 v]},toks:=tk}:=by
 refine wpAny_pyIter_range (IsRange.new ..) (small_one h1 h2 h3 h4) ?_;have I1:Inv X pins σ H {s with heap:=s.heap.push {cls:=.type "range",data:=.fields #[.int lo t,.int hi u,.int 1 v]},toks:=tk}:=I.kept λb o e=>cJ _ e
 refine⟨(s.heap.push {cls:=.type "range",data:=.fields #[.int lo t,.int hi u,.int 1 v]}).objs.size,[(s.heap.push {cls:=.type "range",data:=.fields #[.int lo t,.int hi u,.int 1 v]}).objs.size],_,_,H,rfl,
  I1.kept (t':=tk) λb o e=>cJ _ e,aiS _ lo (hi-lo).toNat,?_,λb hb=>?_,q⟩
 .have e1:lo+((0:Nat):Int)*1=lo:=by simp
  have e2:(((hi-lo).toNat:Nat):Int)-((0:Nat):Int)=asv lo hi 1:=by rw[rangeSize_one];split<;>lia
  show IsRangeIter _ _ (lo+((0:Nat):Int)*1) ((((hi-lo).toNat:Nat):Int)-((0:Nat):Int)) 1;rw[e1,e2];exact iI _ rfl
 .have e:b=(s.heap.push {cls:=.type "range",data:=.fields #[.int lo t,.int hi u,.int 1 v]}).objs.size:=by simpa using hb
  subst e;exact I1.yJ (bU _) (I1.hok.fresh (bU _))
def ao2(ta:TA):TI:=λσ H R=>ta σ H λvs H1=>∃j:Int,vs=[.int j]/\-(2^62)<=j/\j<2^62/\R (O5 0 j.toNat) H1
theorem ajA{a:Expr}{ta:TA}{p pos:Pos}(hg:Gl X "range")(hm:X.mg "range"=aj)(ha:PA X [a] ta)(hs:bC [a] X.env=[(aF,eval a X.env)]:=by rfl):PI X tg (.Call (.Name "range" p) [a] [] pos) (ao2 ta):=by
 intro pins s σ H R I h;refine Call_ (yp I hg hm boot_range (XH (bH (ha pos pins s σ H _ I h) λus s1 aN=>?_) hs rfl))
 obtain⟨vs,H1,I1,r1,q1⟩:=aN
 obtain⟨j,e,q1,q2,q⟩:=q1
 subst e;cases r1 with
 |cons r rr=>
  cases rr
  obtain⟨t,rfl⟩:=r
  exact call_range_1 (akB I1 (by lia) (by lia) q1 q2 (by simpa using q))
def aeS(wi:TI)(g:TG)(tb:TS):TS:=λD σ H=>wi σ H λJ H1=>∃W:Nat->Nat->St->Hp->Prop,(∃m,W 0 m σ H1)/\∀i m σ H,W i m σ H->
 (J.stop i H/\D.nx σ H)\/(J.go i H/\∃N:St->Hp->Prop,(∀σ' H',N σ' H'->∃m',m'<m/\W (i+1) m' σ' H')/\∀x H',J.yS i H x H'->g x σ H' λσ2 H2=>tb {D with nx:=N,ct:=N,bk:=D.nx} σ2 H2)
def Ht(fp:List aq)(h:bz):List (aq×Obj):=fp.filterMap λb=>(h.get? b).map λo=>(b,o)
theorem K5{fp:List aq}{h:bz}{b:aq}{o:Obj}(hb:b∈fp)(e:h.get? b=aa o):(b,o)∈Ht fp h:=Yo.mpr ⟨b,hb,by rw[e];rfl⟩
theorem ajB{fp:List aq}{h:bz}{p:aq×Obj}(hp:p∈Ht fp h):p.1∈fp/\h.get? p.1=aa p.2:=by
 obtain⟨b,hb,e⟩:=Yo.mp hp
 cases q:h.get? b with
 |none=>rw[q] at e;cases e
 |some o=>
  rw[q] at e;have e':(b,o)=p:=gP e;subst e'
  exact⟨hb,q⟩
theorem Inv.pinned{pins:List (aq×Obj)}{σ:St}{H:Hp}{s:aB}{fp:List aq}(I:Inv X pins σ H s)(hf:∀b∈fp,kO X pins H b)(ho:∀b∈fp,∃o,s.heap.get? b=aa o/\∀v,o.data≠.cell v):Inv X (pins++Ht fp s.heap) σ H s:=
 I.acv λp hp=>(dD.mp hp).elim (λz=>I.pin p (fK _ z)) λz=>by
  obtain⟨hb,e⟩:=ajB z
  obtain⟨f0,f1,f2,_⟩:=hf p.1 hb
  obtain⟨o,e',d⟩:=ho p.1 hb
  rw[e] at e';cases e'
  exact⟨e,f0,f1,f2,d⟩
theorem Inv.Lq{pins pl:List (aq×Obj)}{σ:St}{H:Hp}{s:aB}(I:Inv X (pins++pl) σ H s):Inv X pins σ H s:=I.acv λp hp=>I.pin p (fK _ (gO _ hp))
theorem anL{iter:Expr}{body:List cX}{wi:TI}{g:TG}{tb:TS}{pos:Pos}(hp:S7 (model X.prog X.w) X.A X.env X.xe)(hc:X.calm=ao)(hi:PI X tg iter wi)(hg:PG X tg g)(hb:jO X body tb)
  (hs:∀x,vB iter X.env x=pure x:=by intro _;rfl):PS X (.For tg iter body [] pos) (aeS wi g tb):=by
 intro pins s σ H D I h;refine wpAny_For (bH (hi pins s σ H _ I h) λv s1 h1=>bH h1 λitv s2 h2=>?_) hs
 obtain⟨it,fp,tn,J,H2,e,I2,T,st2,f2,W,⟨m0,w0⟩,turn⟩:=h2
 subst e;have stat:∀{H':Hp},(∀b∈fp,H' b=aj)->∀b∈fp,kO X pins H' b:=λhn b hb=>⟨hn b hb,(f2 b hb).2⟩
 refine codeAny_forLoop_any (λn s'=>∃i σ' H',Inv X pins σ' H' s'/\tn i s'.heap/\(∀b∈fp,H' b=aj)/\W i n σ' H') ?_ m0 ⟨0,σ,H2,I2,st2,λb hb=>(f2 b hb).1,w0⟩;rintro n s3 ⟨i,σ3,H3,I3,st3,Ja,w3⟩;rcases turn i n σ3 H3 w3 with⟨stop,qn⟩|⟨go,N,hN,step⟩
 .refine Cv hp (bH (T.done X rfl rfl rfl hc i pins s3 σ3 H3 X.xe I3 (stat Ja) st3 stop) λr s4 aN=>?_)
  obtain⟨hr,I4⟩:=aN
  subst hr;exact QD ⟨σ3,H3,I4,qn⟩
 .refine Cv hp (bH (T.item X rfl rfl rfl hc i pins s3 σ3 H3 X.xe I3 (stat Ja) st3 go) λr s4 aN=>?_)
  obtain⟨u,hr,h4⟩:=aN
  subst hr;refine Cv hp (bH h4 λ_ s5 aN=>?_)
  obtain⟨x,H5,I5,r5,y5,BL,Xa⟩:=aN
  have Xb:=I5.pinned (stat Xa) (T.obj _ _ BL);refine Cv hp (bH (hg _ s5 σ3 H5 x u _ Xb r5 (step x H5 y5)) λ_ s6 aN=>?_)
  obtain⟨σ6,H6,I6,q6⟩:=aN
  refine Cv hp (bH (hb _ s6 σ6 H6 _ I6 q6) λf s7 q7=>?_);have again:∀{σ7:St}{H7:Hp},Inv X (pins++Ht fp s5.heap) σ7 H7 s7->N σ7 H7->∃m,m<n/\∃i σ' H',Inv X pins σ' H' s7/\tn i s7.heap/\(∀b∈fp,H' b=aj)/\W i m σ' H':=λ{σ7 H7} I7 n7=>by
   obtain⟨m',hm,w7⟩:=hN σ7 H7 n7
   refine⟨m',hm,i+1,σ7,H7,I7.Lq,T.keep _ _ _ BL λb hb o e=>(I7.pin (b,o) (fK _ (fK _ (K5 hb e)))).1,λb hb=>?_,w7⟩
   obtain⟨o,e,d⟩:=T.obj _ _ BL b hb
   exact(I7.pin (b,o) (fK _ (fK _ (K5 hb e)))).2.1
  cases f with
  |next=>obtain⟨σ7,H7,I7,n7⟩:=q7;exact again I7 n7
  |cont=>obtain⟨σ7,H7,I7,n7⟩:=q7;exact again I7 n7
  |brk=>obtain⟨σ7,H7,I7,q7⟩:=q7;exact⟨σ7,H7,I7.Lq,q7⟩
  |ret v=>obtain⟨x7,σ7,H7,I7,r7,q7⟩:=q7;exact⟨x7,σ7,H7,I7.Lq,r7,q7⟩
end
abbrev R2:=V->V->Hp->VK->Prop
def cM(X:Cx)(f:Value->Value->Sem Value)(r:R2):Prop:=
 ∀(pins:List (aq×Obj))(s:aB)(σ:St)(H:Hp)(x y:V)(v u:Value)(Q:VK),Inv X pins σ H s->RelV x v->RelV y u->r x y H Q->
  aQ (model X.prog X.w) X.A (f v u) (EP X pins σ Q) X.xe s
def Xc(X:Cx)(f:Value->Sem Value)(r:V->Hp->VK->Prop):Prop:=
 ∀(pins:List (aq×Obj))(s:aB)(σ:St)(H:Hp)(x:V)(v:Value)(Q:VK),Inv X pins σ H s->RelV x v->r x H Q->
  aQ (model X.prog X.w) X.A (f v) (EP X pins σ Q) X.xe s
def gQ(X:Cx)(f:Value)(r:List V->Hp->VK->Prop):Prop:=
 ∀(pins:List (aq×Obj))(s:aB)(σ:St)(H:Hp)(xs:List V)(us:List Value)(Q:VK),Inv X pins σ H s->Vals xs us->r xs H Q->
  aQ (model X.prog X.w) X.A (call f us) (EP X pins σ Q) X.xe s
def ap7(X:Cx)(r:V->Hp->(Bool->Hp->Prop)->Prop):Prop:=
 ∀(pins:List (aq×Obj))(s:aB)(σ:St)(H:Hp)(x:V)(v:Value)(Q:Bool->Hp->Prop),Inv X pins σ H s->RelV x v->r x H Q->
  aQ (model X.prog X.w) X.A (truthy v) (TP X pins σ Q) X.xe s
def Jb(r:R2)(ta tb:TE):TE:=λσ H Q=>ta σ H λx H1=>tb σ H1 λy H2=>r x y H2 Q
def tUn(r:V->Hp->VK->Prop)(ta:TE):TE:=λσ H Q=>ta σ H λx H1=>r x H1 Q
def rI(C:Int->Int->Prop)(g:Int->Int->V):R2:=λx y H Q=>∃i j,x=.int i/\y=.int j/\C i j/\Q (g i j) H
def rC(g:Int->Int->V):R2:=λx y H Q=>∃i j,x=.int i/\y=.int j/\Q (g i j) H
def rU(g:Int->V):V->Hp->VK->Prop:=λx H Q=>∃i,x=.int i/\Q (g i) H
section
variable{X:Cx}{a b c:Expr}{ta tb tc:TE}{pos:Pos}
theorem WN(ha:PE X a ta)(hb:PE X b tb){pins:List (aq×Obj)}{s:aB}{σ:St}{H:Hp}{R:V->V->Hp->Prop}(I:Inv X pins σ H s)
  (h:ta σ H λx H1=>tb σ H1 λy H2=>R x y H2){Q:Value->aB->Prop}{f:Value->Value->Sem Value}
  (hf:∀v u s2 x y H2,Inv X pins σ H2 s2->RelV x v->RelV y u->R x y H2->aQ (model X.prog X.w) X.A (f v u) Q X.xe s2):
  aQ (model X.prog X.w) X.A (eval a X.env) (λv s₁=>aQ (model X.prog X.w) X.A (eval b X.env) (λu s₂=>aQ (model X.prog X.w) X.A (f v u) Q X.xe s₂) X.xe s₁) X.xe s:=by
 refine bH (ha pins s σ H _ I h) λv s1 aN=>?_
 obtain⟨x,H1,I1,r1,q1⟩:=aN
 refine bH (hb pins s1 σ H1 _ I1 q1) λu s2 aN=>?_
 obtain⟨y,H2,I2,r2,q2⟩:=aN
 exact hf v u s2 x y H2 I2 r1 r2 q2
theorem ao3{op:Operator}{r:R2}(ho:cM X (oF op) r)(ha:PE X a ta)(hb:PE X b tb):PE X (.BinOp a op b pos) (Jb r ta tb):=by
 intro pins s σ H Q I h;exact wpAny_BinOp (WN ha hb I h λv u s2 x y H2 I2 rx ry q=>ho pins s2 σ H2 x y v u Q I2 rx ry q)
theorem ao4{op:UnaryOp}{r:V->Hp->VK->Prop}(ho:Xc X (unaryOp op) r)(ha:PE X a ta):PE X (.UnaryOp op a pos) (tUn r ta):=by
 intro pins s σ H Q I h;exact UnaryOp_ (bH (ha pins s σ H _ I h) λv s1 ⟨x,H1,I1,r1,q1⟩=>ho pins s1 σ H1 x v Q I1 r1 q1)
theorem O6{f:Value->Value->Sem Value}{C:Int->Int->Prop}{g:Int->Int->Int}
  (rule:∀(i j:Int)(t u:Tok)(s:aB)(Q:Value->aB->Prop)(E:Value->aB->Prop),C i j->Q (.int (g i j) s.toks) {s with toks:=s.toks+1}->aQ (model X.prog X.w) X.A (f (.int i t) (.int j u)) Q E s):
  cM X f (rI C λi j=>.int (g i j)):=by
 intro pins s σ H x y v u Q I rx ry h
 obtain⟨i,j,rfl,rfl,hc,q⟩:=h
 obtain⟨t,rfl⟩:=rx
 obtain⟨t',rfl⟩:=ry
 exact rule i j t t' s _ _ hc ⟨.int (g i j),H,I.tok _,⟨_,rfl⟩,q⟩
theorem aeT{f:Value->Value->Sem Value}{g:Int->Int->Int}
  (rule:∀(i j:Int)(t u:Tok)(s:aB)(Q:Value->aB->Prop)(E:Value->aB->Prop),Q (.int (g i j) s.toks) {s with toks:=s.toks+1}->aQ (model X.prog X.w) X.A (f (.int i t) (.int j u)) Q E s):
  cM X f (rC λi j=>.int (g i j)):=by
 intro pins s σ H x y v u Q I rx ry h
 obtain⟨i,j,rfl,rfl,q⟩:=h
 obtain⟨t,rfl⟩:=rx
 obtain⟨t',rfl⟩:=ry
 exact rule i j t t' s _ _ ⟨.int (g i j),H,I.tok _,⟨_,rfl⟩,q⟩
theorem WQ{f:Value->Value->Sem Value}{g:Int->Int->Bool}
  (rule:∀(i j:Int)(t u:Tok)(s:aB)(Q:Value->aB->Prop)(E:Value->aB->Prop),Q (.bool (g i j)) s->aQ (model X.prog X.w) X.A (f (.int i t) (.int j u)) Q E s):
  cM X f (rC λi j=>.bl (g i j)):=by
 intro pins s σ H x y v u Q I rx ry h
 obtain⟨i,j,rfl,rfl,q⟩:=h
 obtain⟨t,rfl⟩:=rx
 obtain⟨t',rfl⟩:=ry
 exact rule i j t t' s _ _ ⟨.bl (g i j),H,I,rfl,q⟩
def aeU(i j:Int):Prop:=0<j/\j<1073741824
def aeV(i j:Int):Prop:=0<=j/\j<=1000000/\i.natAbs<2^64
def Im(i j:Int):Prop:=(-(2^64)<i/\i<2^64)\/(-(2^64)<j/\j<2^64)
theorem Im.ok{i j:Int}(h:Im i j):IntMulOk i j:=by
 rcases h with⟨h1,h2⟩|⟨h1,h2⟩
 .exact .of_left (intBits_le_64 h1 h2)
 .exact .of_right (intBits_le_64 h1 h2)
theorem anM:cM X (oF .Add) (rC λi j=>.int (i+j)):=aeT λ_ _ _ _ _ _ _ q=>add_int q
theorem M7:cM X (oF .Sub) (rC λi j=>.int (i-j)):=aeT λ_ _ _ _ _ _ _ q=>sub_int q
theorem yq:cM X (oF .Mult) (rI Im λi j=>.int (i*j)):=O6 λ_ _ _ _ _ _ _ hc q=>mul_int q hc.ok
theorem acA:cM X (oF .FloorDiv) (rI aeU λi j=>.int (i / j)):=O6 λi j _ _ _ _ _ hc q=>by
 have h1:(0:Int)<j:=hc.1;have h2:j<1073741824:=hc.2;exact floordiv_int (by lia) (by rw[Int.fdiv_eq_ediv_of_nonneg i (by lia)];exact q) (.inl (PyProof.noPylong_small (by lia)))
theorem uW:cM X (oF .Mod) (rI (λ_ j=>0<j) λi j=>.int (i%j)):=O6 λi j _ _ _ _ _ hc q=>by
 have h1:(0:Int)<j:=hc;exact mod_int' (by lia) (by rw[Int.fmod_eq_emod_of_nonneg i (by lia)];exact q)
theorem M8:cM X (oF .Pow) (rI aeV λi j=>.int (i^j.toNat)):=O6 λ_ _ _ _ _ _ _ hc q=>pow_int_small hc.1 hc.2.1 hc.2.2 q
theorem unI{f:Value->Sem Value}{g:Int->Int}
  (rule:∀(i:Int)(t:Tok)(s:aB)(Q:Value->aB->Prop)(E:Value->aB->Prop),Q (.int (g i) s.toks) {s with toks:=s.toks+1}->aQ (model X.prog X.w) X.A (f (.int i t)) Q E s):
  Xc X f (rU λi=>.int (g i)):=by
 intro pins s σ H x v Q I rx h
 obtain⟨i,rfl,q⟩:=h
 obtain⟨t,rfl⟩:=rx
 exact rule i t s _ _ ⟨.int (g i),H,I.tok _,⟨_,rfl⟩,q⟩
theorem anN:Xc X (unaryOp .USub) (rU λi=>.int (-i)):=unI λ_ _ _ _ _ q=>neg_int q
end
def WR:V->V->Bool
 |.non,.non=>ao|.non,.int _=>ao|.int _,.non=>ao|.non,.bl _=>ao|.bl _,.non=>ao|.non,.str _=>ao|.str _,.non=>ao
 |.int _,.int _=>ao|.bl _,.bl _=>ao|.str _,.str _=>ao|.rB _,.rB _=>ao
 |.int _,.str _=>ao|.str _,.int _=>ao|.bl _,.str _=>ao|.str _,.bl _=>ao
 |_,_=>aF
def rEq:R2:=λx y H Q=>WR x y=ao/\Q (.bl (decide (x=y))) H
def rNe:R2:=λx y H Q=>WR x y=ao/\Q (.bl (!decide (x=y))) H
theorem UT{i j:Int}:decide (V.int i=V.int j)=(i==j):=by
 rw[pU];simp
theorem Vy{i j:Bool}:decide (V.bl i=V.bl j)=(i==j):=by
 rw[pU];simp
theorem UW{i j:Str}:decide (V.str i=V.str j)=(i==j):=by
 rw[pU];simp
theorem acB{i j:Array UInt8}:decide (V.rB i=V.rB j)=(i.toList==j.toList):=by
 rw[pU];cases i;cases j;simp
section
variable{X:Cx}{a b c:Expr}{ta tb tc:TE}{pos:Pos}
theorem gb{pins:List (aq×Obj)}{σ:St}{H:Hp}{s:aB}{Q:VK}{k k':Bool}(I:Inv X pins σ H s)(q:Q (.bl k) H)(e:k=k'):EP X pins σ Q (.bool k') s:=by
 subst e
 exact⟨.bl k,H,I,rfl,q⟩
theorem ao5:cM X (fj .Eq) rEq:=by
 intro pins s σ H x y v u Q I rx ry h
 obtain⟨hs,q⟩:=h
 cases x with
 |non=>
  cases rx;cases y with
  |non=>cases ry;exact arW (gb I q (by simp))
  |bl j=>cases ry;exact arX (gb I q (by simp))
  |int j=>obtain⟨t',rfl⟩:=ry;exact asb (gb I q (by simp))
  |str j=>obtain⟨t',rfl⟩:=ry;exact asd (gb I q (by simp))
  |_=>exact absurd (show aF=ao from hs) gw
 |bl i=>
  cases rx;cases y with
  |non=>cases ry;exact arY (gb I q (by simp))
  |bl j=>cases ry;exact eq_bool (gb I q Vy)
  |str j=>obtain⟨t',rfl⟩:=ry;exact arZ (gb I q (by simp))
  |_=>exact absurd (show aF=ao from hs) gw
 |int i=>
  obtain⟨t,rfl⟩:=rx
  cases y with
  |non=>cases ry;exact ase (gb I q (by simp))
  |int j=>obtain⟨t',rfl⟩:=ry;exact eq_int (gb I q UT)
  |str j=>obtain⟨t',rfl⟩:=ry;exact asf (gb I q (by simp))
  |_=>exact absurd (show aF=ao from hs) gw
 |str i=>
  obtain⟨t,rfl⟩:=rx
  cases y with
  |non=>cases ry;exact ash (gb I q (by simp))
  |bl j=>cases ry;exact ar3 (gb I q (by simp))
  |int j=>obtain⟨t',rfl⟩:=ry;exact asi (gb I q (by simp))
  |str j=>obtain⟨t',rfl⟩:=ry;exact eq_str (gb I q UW)
  |_=>exact absurd (show aF=ao from hs) gw
 |rB i=>
  obtain⟨t,rfl⟩:=rx
  cases y with
  |rB j=>obtain⟨t',rfl⟩:=ry;exact PySem.W.eq_bytes (gb I q acB)
  |_=>exact absurd (show aF=ao from hs) gw
 |_=>cases y<;>exact absurd (show aF=ao from hs) gw
theorem ao6:cM X (fj .NotEq) rNe:=by
 intro pins s σ H x y v u Q I rx ry h
 obtain⟨hs,q⟩:=h
 cases x with
 |non=>
  cases rx;cases y with
  |non=>cases ry;exact ar4 (gb I q (by simp))
  |bl j=>cases ry;exact ar5 (gb I q (by simp))
  |int j=>obtain⟨t',rfl⟩:=ry;exact asj (gb I q (by simp))
  |str j=>obtain⟨t',rfl⟩:=ry;exact asl (gb I q (by simp))
  |_=>exact absurd (show aF=ao from hs) gw
 |bl i=>
  cases rx;cases y with
  |non=>cases ry;exact ar6 (gb I q (by simp))
  |bl j=>cases ry;exact ne_bool (gb I q (congrArg not Vy))
  |str j=>obtain⟨t',rfl⟩:=ry;exact ar7 (gb I q (by simp))
  |_=>exact absurd (show aF=ao from hs) gw
 |int i=>
  obtain⟨t,rfl⟩:=rx
  cases y with
  |non=>cases ry;exact asm (gb I q (by simp))
  |int j=>obtain⟨t',rfl⟩:=ry;exact ne_int (gb I q (congrArg not UT))
  |str j=>obtain⟨t',rfl⟩:=ry;exact asn (gb I q (by simp))
  |_=>exact absurd (show aF=ao from hs) gw
 |str i=>
  obtain⟨t,rfl⟩:=rx
  cases y with
  |non=>cases ry;exact aso (gb I q (by simp))
  |bl j=>cases ry;exact ar8 (gb I q (by simp))
  |int j=>obtain⟨t',rfl⟩:=ry;exact asp (gb I q (by simp))
  |str j=>obtain⟨t',rfl⟩:=ry;exact ne_str (gb I q (congrArg not UW))
  |_=>exact absurd (show aF=ao from hs) gw
 |rB i=>
  obtain⟨t,rfl⟩:=rx
  cases y with
  |rB j=>obtain⟨t',rfl⟩:=ry;exact PySem.W.ne_bytes (gb I q (congrArg not acB))
  |_=>exact absurd (show aF=ao from hs) gw
 |_=>cases y<;>exact absurd (show aF=ao from hs) gw
theorem ao7:cM X (fj .LtE) (rC λi j=>.bl (decide (i<=j))):=WQ λ_ _ _ _ _ _ _ q=>le_int q
theorem Wg:cM X (fj .Gt) (rC λi j=>.bl (decide (j<i))):=WQ λ_ _ _ _ _ _ _ q=>gt_int q
theorem ao8:cM X (fj .GtE) (rC λi j=>.bl (decide (j<=i))):=WQ λ_ _ _ _ _ _ _ q=>ge_int q
theorem M9:cM X (fj .Is) (λx y H Q=>y=.non/\Q (.bl (decide (x=.non))) H):=by
 intro pins s σ H x y v u Q I rx ry h
 obtain⟨rfl,q⟩:=h
 cases ry;refine is_none_gen (gb I q ?_);cases x<;>first
  |(cases rx;rfl)
  |(obtain⟨t,rfl⟩:=rx;rfl)
theorem acC:cM X (fj .IsNot) (λx y H Q=>y=.non/\Q (.bl (!decide (x=.non))) H):=by
 intro pins s σ H x y v u Q I rx ry h
 obtain⟨rfl,q⟩:=h
 cases ry;refine isnot_none_gen (gb I q ?_);cases x<;>first
  |(cases rx;rfl)
  |(obtain⟨t,rfl⟩:=rx;rfl)
theorem cM.or{f:Value->Value->Sem Value}{r r':R2}(h:cM X f r)(h':cM X f r'):cM X f (λx y H Q=>r x y H Q\/r' x y H Q):=by
 intro pins s σ H x y v u Q I rx ry q;rcases q with q|q
 .exact h pins s σ H x y v u Q I rx ry q
 .exact h' pins s σ H x y v u Q I rx ry q
theorem gK(b:Expr){op:CmpOp}(h:op≠.In:=by decide)(h2:op≠.NotIn:=by decide):Gh op b=aF:=by
 have e1:(op==CmpOp.In)=aF:=by cases op<;>first|rfl|exact absurd rfl h
 have e2:(op==CmpOp.NotIn)=aF:=by cases op<;>first|rfl|exact absurd rfl h2
 cases b<;>simp[Gh,e1,e2]
theorem al1{op:CmpOp}{r:R2}(ho:cM X (fj op) r)(ha:PE X a ta)(hb:PE X b tb)(hm:Gh op b=aF):PE X (.Compare a [op] [b] pos) (Jb r ta tb):=by
 intro pins s σ H Q I h;exact wpAny_Compare1 (WN ha hb I h λv u s2 x y H2 I2 rx ry q=>ho pins s2 σ H2 x y v u Q I2 rx ry q) hm
def Wh(t:TE):TT:=λσ H Q=>t σ H λx H'=>∃k,x=.bl k/\Q k H'
theorem al2{op:CmpOp}{r:R2}(ho:cM X (fj op) r)(ha:PE X a ta)(hb:PE X b tb)(hm:Gh op b=aF):PT X (.Compare a [op] [b] pos) (Wh (Jb r ta tb)):=by
 intro pins s σ H Q I h;refine wpAny_isTrue_Compare1 (bH (ha pins s σ H _ I h) λv s1 ⟨x,H1,I1,r1,q1⟩=>bH (hb pins s1 σ H1 _ I1 q1) λu s2 ⟨y,H2,I2,r2,q2⟩=>
  bH (ho pins s2 σ H2 x y v u _ I2 r1 r2 q2) λc s3 ⟨z,H3,I3,r3,k,e,q3⟩=>?_) hm
 subst e;cases r3;exact xJ ⟨H3,I3,q3⟩
def Vz(r r':R2)(ta tb tc:TE):TE:=λσ H Q=>ta σ H λx H1=>tb σ H1 λy H2=>r x y H2 λz H3=>∃k,z=.bl k/\
 (if k=ao then tc σ H3 λw' H4=>r' y w' H4 Q else Q (.bl aF) H3)
theorem akC{op op':CmpOp}{r r':R2}(ho:cM X (fj op) r)(ho':cM X (fj op') r')(ha:PE X a ta)(hb:PE X b tb)(hc:PE X c tc)
  (hm:S8 [op,op'] [b,c]=aF:=by with_unfolding_all rfl):PE X (.Compare a [op,op'] [b,c] pos) (Vz r r' ta tb tc):=by
 intro pins s σ H Q I h;refine Compare_chain (bH (ha pins s σ H _ I h) λv s1 ⟨x,H1,I1,r1,q1⟩=>chain_link (bH (hb pins s1 σ H1 _ I1 q1) λu s2 ⟨y,H2,I2,r2,q2⟩=>
  bH (ho pins s2 σ H2 x y v u _ I2 r1 r2 q2) λd s3 ⟨z,H3,I3,r3,k,e,q3⟩=>?_)) hm
 subst e;cases r3;refine xJ ?_;cases k with
 |false=>exact ite_ff ⟨.bl aF,H3,I3,rfl,q3⟩
 |true=>exact ite_tt (chain_last (bH (hc pins s3 σ H3 _ I3 q3) λw' s4 ⟨z',H4,I4,r4,q4⟩=>ho' pins s4 σ H4 y z' u w' Q I4 r2 r4 q4))
theorem akD{op op':CmpOp}{r r':R2}(ho:cM X (fj op) r)(ho':cM X (fj op') r')(ha:PE X a ta)(hb:PE X b tb)(hc:PE X c tc)
  (hm:S8 [op,op'] [b,c]=aF:=by with_unfolding_all rfl):PT X (.Compare a [op,op'] [b,c] pos) (Wh (Vz r r' ta tb tc)):=by
 intro pins s σ H Q I h;refine isTrue_chain (bH (ha pins s σ H _ I h) λv s1 ⟨x,H1,I1,r1,q1⟩=>test_link (bH (hb pins s1 σ H1 _ I1 q1) λu s2 ⟨y,H2,I2,r2,q2⟩=>
  bH (ho pins s2 σ H2 x y v u _ I2 r1 r2 q2) λd s3 ⟨z,H3,I3,r3,k,e,q3⟩=>?_)) hm
 subst e;cases r3;refine xJ ?_;cases k with
 |false=>
  obtain⟨k',e',q'⟩:=q3
  cases e';exact ite_ff ⟨H3,I3,q'⟩
 |true=>
  refine ite_tt (test_last (bH (hc pins s3 σ H3 _ I3 q3) λw' s4 ⟨z',H4,I4,r4,q4⟩=>bH (ho' pins s4 σ H4 y z' u w' _ I4 r2 r4 q4) λd' s5 aN=>?_))
  obtain⟨z2,H5,I5,r5,k2,e2,q5⟩:=aN
  subst e2;cases r5;exact xJ ⟨H5,I5,q5⟩
def WT(K:aJ)(x:V)(H:Hp)(k:Bool):Prop:=
 match x with
 |.non=>k=aF
 |.bl b=>k=b
 |.int i=>k=(i != 0)
 |.str y=>y.length<=bW/\k=((y.length:Int) != 0)
 |.rB y=>y.size<=bW/\k=((y.size:Int) != 0)
 |.ref p=>(∃xs,bO K H p xs/\k=!xs.isEmpty)\/(∃xs,cW K H p xs/\k=!xs.isEmpty)\/∃kvs,H p=aa (.dK kvs)/\k=!kvs.isEmpty
 |_=>False
theorem aiT{κ:Type}{kvs:List (κ×V)}{vs:List (κ×Value)}(r:KV kvs vs):(!vs.isEmpty)=!kvs.isEmpty:=by
 cases r<;>rfl
theorem aap{xs:List V}{its:List Value}(r:Vals xs its):(!its.toArray.isEmpty)=!xs.isEmpty:=by
 cases r<;>simp
theorem Ag:(bW:Nat)<2^63:=by rw[iM];decide
theorem anO:ap7 X (λx H Q=>∃k,WT X.K x H k/\Q k H):=by
 intro pins s σ H x v Q I rx h
 obtain⟨k,e,q⟩:=h
 have hl:=Ag;have hs:bW=16777216:=iM;cases x with
 |non=>
  cases rx;have e':k=aF:=e;subst e';exact truthy_none ⟨H,I,q⟩
 |bl b=>
  cases rx;have e':k=b:=e;subst e';exact xJ ⟨H,I,q⟩
 |int i=>
  obtain⟨t,rfl⟩:=rx
  have e':k=(i != 0):=e;subst e';exact PySem.P.truthy_int ⟨H,I,q⟩
 |str y=>
  obtain⟨t,rfl⟩:=rx
  obtain⟨hy,e'⟩:y.length<=bW/\k=((y.length:Int) != 0):=e
  subst e';exact PySem.P.truthy_str (by lia) ⟨H,I.tok _,q⟩
 |rB y=>
  obtain⟨t,rfl⟩:=rx
  obtain⟨hy,e'⟩:y.size<=bW/\k=((y.size:Int) != 0):=e
  subst e';exact PySem.W.truthy_bytes (by lia) ⟨H,I.tok _,q⟩
 |ref p=>
  cases rx;have e':(∃xs,bO X.K H p xs/\k=!xs.isEmpty)\/(∃xs,cW X.K H p xs/\k=!xs.isEmpty)\/∃kvs,H p=aa (.dK kvs)/\k=!kvs.isEmpty:=e;rcases e' with⟨xs,hx,e'⟩|⟨xs,hx,e'⟩|⟨kvs,hx,e'⟩
  .subst e'
   obtain⟨its,r,pl,hz⟩:=I.list hx
   have hlen:=r.length;exact wpAny_truthy_list pl.isList (by simp only[gH];lia) ⟨H,I.tok _,by rw[aap r];exact q⟩
  .subst e'
   obtain⟨its,r,pl,hz⟩:=I.tuple hx
   have hlen:=r.length;exact truthy_tuple pl (by simp only[gH];lia) ⟨H,I.tok _,by rw[aap r];exact q⟩
  .subst e'
   obtain⟨hz,hS,vs,r,m⟩:kvs.length<=bW/\(p==rK)=aF/\∃vs,KV kvs vs/\s.heap.DictOf (jH X.prog X.w) p vs:=I.hok p _ hx
   have hlen:kvs.length=vs.length:=Paired.length r;exact wpAny_truthy_dict hS m (by lia) ⟨H,I.tok _,by rw[aiT r];exact q⟩
 |_=>exact(show False from e).elim
theorem akE(ha:PE X a ta)(he:∀whole,isTrue a X.env whole=(do let v <-whole;uU a.pos;rP [v] (truthy v))):
  PT X a (λσ H Q=>ta σ H λx H'=>∃k,WT X.K x H' k/\Q k H'):=by
 intro pins s σ H Q I h;exact isTrue_plain (bH (ha pins s σ H _ I h) λv s1 ⟨x,H1,I1,r1,q1⟩=>anO pins s1 σ H1 x v Q I1 r1 q1) (he _)
theorem aiU:cM X (oF .Add) (λx y H Q=>∃i j,x=.str i/\y=.str j/\i.length+j.length<=bW/\Q (.str (i++j)) H):=by
 intro pins s σ H x y v u Q I rx ry h
 obtain⟨i,j,rfl,rfl,hz,q⟩:=h
 obtain⟨t,rfl⟩:=rx
 obtain⟨t',rfl⟩:=ry
 exact add_str (λt' tk=>⟨.str (i++j),H,I.tok _,⟨_,rfl⟩,q⟩) hz
theorem vals1{x:V}{us:List Value}(r:Vals [x] us):∃u,us=[u]/\RelV x u:=by
 cases r with
 |cons r1 r2=>cases r2;exact⟨_,rfl,r1⟩
theorem vals2{x y:V}{us:List Value}(r:Vals [x,y] us):∃u w',us=[u,w']/\RelV x u/\RelV y w':=by
 cases r with
 |cons r1 r2=>
  cases r2 with
  |cons r3 r4=>cases r4;exact⟨_,_,rfl,r1,r3⟩
theorem abx:gQ X (.builtin "abs") (λxs H Q=>∃i,xs=[.int i]/\Q (.int (if i<0 then -i else i)) H):=by
 intro pins s σ H xs us Q I r h
 obtain⟨i,rfl,q⟩:=h
 obtain⟨u,rfl,t,rfl⟩:=vals1 r
 exact call_abs_int λu tk=>⟨.int (if i<0 then -i else i),H,I.tok _,⟨_,rfl⟩,q⟩
theorem ajC(hc:X.calm=ao):gQ X (.builtin "max") (λxs H Q=>∃i j,xs=[.int i,.int j]/\Q (.int (if j>i then j else i)) H):=by
 intro pins s σ H xs us Q I r h
 obtain⟨i,j,rfl,q⟩:=h
 obtain⟨u,w',rfl,⟨t,rfl⟩,⟨t',rfl⟩⟩:=vals2 r
 refine max_two_ints (I.ok.hd hc) λh' tk k=>⟨_,H,I.kept k,?_,q⟩
 by_cases hj:j>i
 .rw[aV hj,aV hj];exact⟨_,rfl⟩
 .rw[bf hj,bf hj];exact⟨_,rfl⟩
theorem aaR(hc:X.calm=ao):gQ X (.builtin "min") (λxs H Q=>∃i j,xs=[.int i,.int j]/\Q (.int (if j<i then j else i)) H):=by
 intro pins s σ H xs us Q I r h
 obtain⟨i,j,rfl,q⟩:=h
 obtain⟨u,w',rfl,⟨t,rfl⟩,⟨t',rfl⟩⟩:=vals2 r
 refine min_two_ints (I.ok.hd hc) λh' tk k=>⟨_,H,I.kept k,?_,q⟩
 by_cases hj:j<i
 .rw[aV hj,aV hj];exact⟨_,rfl⟩
 .rw[bf hj,bf hj];exact⟨_,rfl⟩
theorem aaS:gQ X (.type "int") (λxs H Q=>(∃i,xs=[.int i]/\Q (.int i) H)\/∃k,xs=[.bl k]/\Q (.int (if k then 1 else 0)) H):=by
 intro pins s σ H xs us Q I r h;rcases h with⟨i,rfl,q⟩|⟨k,rfl,q⟩
 .obtain⟨u,rfl,t,rfl⟩:=vals1 r
  exact call_int_int ⟨.int i,H,I,⟨_,rfl⟩,q⟩
 .obtain⟨u,rfl,r1⟩:=vals1 r
  cases r1;exact call_int_bool ⟨.int (if k then 1 else 0),H,I.tok _,⟨_,rfl⟩,q⟩
end
structure WW(h:bz)(x dx C:aq)(mA:Str->Option Value):Prop where
 obj:h.get? x=aa (Y4 C dx)
 ns:h.Ns1 dx mA
 ne:dx≠x
theorem ajD{h:bz}{dx:aq}{mA:Str->Option Value}(n:h.Ns1 dx mA):∃od,h.get? dx=aa od/\∀name,Zi name od=aa (mA name):=by
 obtain⟨o,es,ep,ho,hd,hk,_,hm⟩:=n
 refine⟨o,ho,λname=>?_⟩
 have e:=hm name;unfold nsFind findBy at e;rw[<-Array.find?_toList] at e;unfold Zi;rw[hd];dsimp only;split
 .rename_i y q;rw[q] at e;exact congrArg aa e
 .rename_i q;rw[q] at e;have a:es.toList.any (·.refKey)=aF:=by
   rw[ag0];intro y hy
   obtain⟨z,t,hkey⟩:=hk y (Array.mem_toList_iff.mp hy)
   simp[DictEntry.refKey,hkey]
  have a':¬es.toList.any (·.refKey)=ao:=by rw[a];exact gw
  rw[bf a'];exact congrArg aa e
theorem WW.look{h:bz}{x dx C:aq}{mA:Str->Option Value}(I:WW h x dx C mA):∃od,PySem.W.InstAt h x (Y4 C dx) C (aa od)/\∀name,Zi name od=aa (mA name):=
 let ⟨od,ho,hl⟩:=ajD I.ns
 ⟨od,⟨I.obj,rfl,rfl,ho⟩,hl⟩
section
variable{prog:bD}{w:bB}{A:cD}{E:Value->aB->Prop}{s:aB}{K:aJ}{x dx C f:aq}{mA:Str->Option Value}{name:Str}{v:Value}
end
theorem qZ.some_of{v:V}{o:Option Value}(r:qZ (aa v) o):∃u,o=aa u/\RelV v u:=by
 cases o with
 |none=>exact(show False from r).elim
 |some u=>exact⟨u,rfl,r⟩
section
variable{P:bD}{w:bB}{H H':Hp}{h h':bz}{a C dx:aq}{fs fs':List (Str×V)}
theorem acD(hok:iU P w H h)(e:H a=aa (.ins C dx fs)):∃mA,WW h a dx C mA/\(∀f,qZ (fs.lookup f) (mA f))/\aib mA (fs.map (·.1))/\fs.length<=1000/\H dx=aa (.own a):=by
 obtain⟨d,z,ne,ob,mA,n,r,q⟩:=(show fB P w H h a (.ins C dx fs) from hok a _ e)
 exact⟨mA,⟨ob,n,ne⟩,r,q,z,d⟩
end
structure Xd(K:aJ)(C:aq):Prop where
 pg:ahk K C Str.empty=ao
 hd:PySem.W.hasDictIn K C=ao
 po:PySem.W.plainOver K C=ao
 sa:Cw K (.ref C) "__setattr__"=aa (aa (.builtin "object.__setattr__"))
theorem Xd.get{K:aJ}{C:aq}(c:Xd K C)(f:Str):ahk K C f=ao:=c.pg
def adJ(K:aJ)(C:aq)(f:Str):Prop:=Cw K (.ref C) f=aa aj
theorem adJ.taker{K:aJ}{C:aq}{f:Str}(n:adJ K C f):ahD K C f=aa aj:=by
 unfold ahD;rw[show Cw K (.ref C) f=aa aj from n];rfl
structure Con(K:aJ)(C:aq)(f:Str)(v:V)(u:Value):Prop where
 at_:Cw K (.ref C) f=aa (aa u)
 rel:RelV v u
 get:ag1 K u "__get__"=aa aj
 cp:PySem.W.copiedNames.contains f=aF
structure Meth(K:aJ)(C:aq)(m:Str)(f:aq):Prop where
 at_:Cw K (.ref C) m=aa (aa (.ref f))
 fn:aid K (.ref f)=ao
 kp:xQ K (.ref f)=ao
section
variable{X:Cx}{pins:List (aq×Obj)}{σ:St}{H:Hp}{s:aB}{a C dx:aq}{fs:List (Str×V)}{f:Str}{v:V}{A:cD}{E:Value->aB->Prop}
end
section
variable{X:Cx}{o e value:Expr}{f:Str}{pos pos' tpos:Pos}{ta tv:TE}
end
section
variable{X:Cx}{pins:List (aq×Obj)}{σ:St}{H:Hp}{s:aB}{A:cD}{E:Value->aB->Prop}{Q:Value->aB->Prop}{c:Value}{b:Bool}
inductive nM(K:aJ)(H:Hp):V->Value->Prop where
 |non:nM K H .non (.type "NoneType")
 |bl (x:Bool):nM K H (.bl x) (.type "bool")
 |int (i:Int):nM K H (.int i) (.type "int")
 |str (x:Str):nM K H (.str x) (.type "str")
 |flt (x:UInt64):nM K H (.flt x) (.type "float")
 |lst {a:aq} {xs:List V} (e:H a=aa (.lst xs)):nM K H (.ref a) (.type "list")
 |mZ {a:aq} {o:Obj} {xs:List V} (e:H a=aa (.mZ o (.lst xs))):nM K H (.ref a) (.type "list")
 |tup {a:aq} {xs:List V} (e:H a=aa (.tup xs)):nM K H (.ref a) (.type "tuple")
 |dK {a:aq} {kvs:List (Key×V)} (e:H a=aa (.dK kvs)):nM K H (.ref a) (.type "dict")
 |dT {a:aq} {kvs:List (List Key×V)} (e:H a=aa (.dT kvs)):nM K H (.ref a) (.type "dict")
 |ins {a C dx:aq} {fs:List (Str×V)} (e:H a=aa (.ins C dx fs)) (cl:Xd K C) (ha:Cw K (.ref C) "__class__"=aa (aa (.builtin "object.__class__")))
   (hn:ag1 K (.builtin "object.__class__") "__get__"=aa (aa (.builtin "getset_descriptor.__get__"))) (htk:PySem.W.takesIn K (.builtin "object.__class__")=aa ao)
   (hm:PySem.W.mroIn K C (.type "object")=aa ao):nM K H (.ref a) (.ref C)
theorem ajE{x:V}{u t:Value}(I:Inv X pins σ H s)(rx:RelV x u)(ty:nM X.K H x t)(e:Cy X.K t c=aa b)(h:∀tk,Q (.bool b) {s with toks:=tk}):
  aQ (model X.prog X.w) A (call (.builtin "isinstance") [u,c]) Q E s:=by
 cases ty with
 |non=>cases(show u=mU from rx);exact uJ ag2 I.jk nu e (λz=>nomatch z) h
 |bl y=>cases(show u=rJ y from rx);exact uJ ag3 I.jk nu e (λz=>nomatch z) h
 |int i=>obtain⟨t,q⟩:=(show ∃t,u=Ld i t from rx);cases q;exact uJ ahl I.jk nu e (λz=>nomatch z) h
 |str y=>obtain⟨t,q⟩:=(show ∃t,u=Le y t from rx);cases q;exact uJ ahm I.jk nu e (λz=>nomatch z) h
 |flt y=>obtain⟨t,q⟩:=(show ∃t,u=aaf y t from rx);cases q;exact uJ agT I.jk nu e (λz=>nomatch z) h
 |@lst a xs ea=>
  cases(show u=di a from rx)
  obtain⟨_,_,n,_,h1⟩:=(show fB X.prog X.w H s.heap a (.lst xs) from I.hok a _ ea)
  exact uJ Qj I.jk ⟨_,h1,rfl⟩ e (λz=>nomatch z) h
 |@mZ a ob xs ea=>
  cases(show u=di a from rx)
  obtain⟨_,_,_,n,_,h1⟩:=(show fB X.prog X.w H s.heap a (.mZ ob (.lst xs)) from I.hok a _ ea)
  exact uJ Qj I.jk ⟨_,h1,rfl⟩ e (λz=>nomatch z) h
 |@tup a xs ea=>
  cases(show u=di a from rx)
  obtain⟨_,_,_,p⟩:=(show fB X.prog X.w H s.heap a (.tup xs) from I.hok a _ ea)
  obtain⟨o,h1,h2,_⟩:=p
  exact uJ agU I.jk ⟨o,h1,h2⟩ e (λz=>nomatch z) h
 |@dK a kvs ea=>
  cases(show u=di a from rx)
  obtain⟨_,_,vs,_,p⟩:=(show fB X.prog X.w H s.heap a (.dK kvs) from I.hok a _ ea)
  obtain⟨o,es,ep,h1,h2,_⟩:=p
  exact uJ Qk I.jk ⟨o,h1,h2.1⟩ e (λz=>nomatch z) h
 |@dT a kvs ea=>
  cases(show u=di a from rx)
  obtain⟨_,_,xs,_,o,es,ep,h1,h2,_⟩:=(show fB X.prog X.w H s.heap a (.dT kvs) from I.hok a _ ea)
  exact uJ Qk I.jk ⟨o,h1,h2.1⟩ e (λz=>nomatch z) h
 |@ins a C dx fs ea cl ha hn htk hm=>
  cases(show u=di a from rx)
  obtain⟨mA,O,_⟩:=acD I.hok ea
  obtain⟨od,J,_⟩:=O.look
  exact uJ (ahn (cl.get _) cl.hd ha hn htk hm) I.jk J e (λz=>nomatch z) h
end
structure jh(k:Nat)(A:cD):Prop where
 hd:A.handled=aj
 dp:A.depth+3*k+5<recursionLimit
 un:A.units+16*k+200<fV
 gd:A.guards=aa []
theorem jh.mono{j k:Nat}{A:cD}(r:jh k A)(h:j<=k):jh j A:=⟨r.hd,by have:=r.dp;lia,by have:=r.un;lia,r.gd⟩
theorem jh.deeper{k:Nat}{A:cD}(r:jh (k+1) A)(env:Env):jh k (A.deeper env):=
 ⟨r.hd,by have:=r.dp;show A.depth+1+3*k+5<_;lia,by have:=r.un;show A.units+3+16*k+200<_;lia,r.gd⟩
theorem jh.in1{k:Nat}{A:cD}(r:jh (k+1) A):jh k A.in1:=
 ⟨r.hd,by have:=r.dp;show A.depth+3*k+5<_;lia,by have:=r.un;show A.units+1+16*k+200<_;lia,r.gd⟩
theorem jh.depth{k:Nat}{A:cD}(r:jh k A):A.depth<recursionLimit:=by have:=r.dp;lia
theorem jh.units{k:Nat}{A:cD}(r:jh k A):A.units+64<fV:=by have:=r.un;lia
theorem jh.VB{k:Nat}{A:cD}(r:jh k A):A.units<fV:=by have:=r.un;lia
def ap8:TA:=λ_ H Q=>Q [] H
def aet(ta:TE)(tr:TA):TA:=λσ H Q=>ta σ H λx H1=>tr σ H1 λxs H2=>Q (x::xs) H2
section
variable{X:Cx}{e:Expr}{es:List Expr}{te:TE}{t:TA}{pos:Pos}
theorem tU:PA X [] ap8:=λ_ _ _ _ H Q I h=>JL ⟨[],H,I,.nil,h⟩
theorem pB(ha:PE X e te)(hr:PA X es t)(hs:bC (e::es) X.env=(aF,eval e X.env)::bC es X.env:=by rfl):PA X (e::es) (aet te t):=by
 intro pos pins s σ H Q I h;rw[hs];show aQ _ _ (G8 ((aF,eval e X.env)::f9 pos (bC es X.env))) _ _ s;refine Fg (bH (ha pins s σ H _ I h) λu s1 aN=>?_)
 obtain⟨x,H1,I1,r1,q1⟩:=aN
 exact bH (hr pos pins s1 σ H1 _ I1 q1) λus s2 ⟨xs,H2,I2,r2,q2⟩=>⟨x::xs,H2,I2,.cons r1 r2,q2⟩
def ap9(t:TA):TE:=λσ H Q=>t σ H λxs H1=>xs.length<=bW/\∀p,H1 p=aj->Q (.ref p) (upd H1 p (.tup xs))
def aqa(t:TA):TE:=λσ H Q=>t σ H λxs H1=>xs.length<=bW/\∀p,H1 p=aj->Q (.ref p) (upd H1 p (.lst xs))
theorem VD{x1}(h:PA X es t):PE X (.Tuple es x1 pos) (ap9 t):=by
 intro pins s σ H Q I hq;refine wpAny_Tuple_spliced (bH (h pos pins s σ H _ I hq) λus s1 ⟨xs,H1,I1,r,z,q⟩=>⟨by rw[<-r.length];exact z,?_⟩);have hf:H1 s1.heap.objs.size=aj:=I1.hok.fresh (bU _)
 refine⟨.ref s1.heap.objs.size,upd H1 s1.heap.objs.size (.tup xs),I1.laid (t':=s1.toks) (λb u e=>cJ _ e) (bU _) ?_,rfl,q _ hf⟩
 exact⟨z,us,r,⟨_,iI _ rfl,rfl,_,rfl⟩⟩
theorem anP(h:PA X es t):PE X (.List es pos) (aqa t):=by
 intro pins s σ H Q I hq;refine wpAny_List_spliced (bH (h pos pins s σ H _ I hq) λus s1 ⟨xs,H1,I1,r,z,q⟩=>⟨by rw[<-r.length];exact z,?_⟩);have hf:H1 s1.heap.objs.size=aj:=I1.hok.fresh (bU _)
 refine⟨.ref s1.heap.objs.size,upd H1 s1.heap.objs.size (.lst xs),I1.laid (t':=s1.toks) (λb u e=>cJ _ e) (bU _) ?_,rfl,q _ hf⟩
 exact⟨z,us,0,r,iI _ rfl⟩
end
abbrev Sp:=List V->Hp->VK->XK->Prop
abbrev rD:=List Env->Hp->aB->XK->Value->aB->Prop
structure Bg(P:bD)(w:bB)(K:aJ)(mg:Str->Option Value)(base:bz)(A:cD)(outer:List Env)(s:aB)(H:Hp):Prop where
 frames:A.frames=aa outer
 mod:Mod K mg base
 bs:∀b o,base.get? b=aa o->s.heap.get? b=aa o/\H b=aj
 vh:base.objs.size<=s.heap.objs.size
 sG:s.heap.FunFrames base outer
 BJ:∀b∈frs outer,H b=aj
 hok:iU P w H s.heap
 bare:AllBare s.gens
def CE(outer:List Env)(P:bD)(w:bB)(H:Hp)(s:aB)(Q:VK)(u:Value)(s':aB):Prop:=
 ∃v H',s'.os=s.os/\AllBare s'.gens/\Un (frs outer) [] H H' s.heap s'.heap/\iU P w H' s'.heap/\RelV v u/\Q v H'
def CR(CX:rD)(outer:List Env)(P:bD)(w:bB)(H:Hp)(s:aB)(Q:VK)(E:XK)(r:tV)(s':aB):Prop:=
 match r with
 |.ok (.ret u)=>CE outer P w H s Q u s'
 |.ok _=>False
 |.error e=>CX outer H s E e s'
structure dw(P:bD)(w:bB)(K:aJ)(mg:Str->Option Value)(base:bz)(CX:rD)(k:Nat)(f:aq)(fd:dF)(ps:List Str)(sp:Sp):Prop where
 len:∀vs H Q E,sp vs H Q E->vs.length=ps.length
 run:∀(A:cD)(outer:List Env)(s:aB)(H:Hp)(args:Args)(us:List Value)(vs:List V)(Q:VK)(E:XK),jh k A->Bg P w K mg base A outer s H->Aa s fd args (ps.zip us)->Vals vs us->sp vs H Q E->
  mC (model P w) A (.call (.ref f) args) (CR CX outer P w H s Q E) s
theorem dw.mono{P:bD}{w:bB}{K:aJ}{mg:Str->Option Value}{base:bz}{CX:rD}{j k:Nat}{f:aq}{fd:dF}{ps:List Str}{sp:Sp}(F:dw P w K mg base CX j f fd ps sp)(h:j<=k):
  dw P w K mg base CX k f fd ps sp:=⟨F.len,λA outer s H args us vs Q E hr=>F.run A outer s H args us vs Q E (hr.mono h)⟩
theorem dw.imp{P:bD}{w:bB}{K:aJ}{mg:Str->Option Value}{base:bz}{CX:rD}{k:Nat}{f:aq}{fd:dF}{ps:List Str}{sp sp':Sp}(F:dw P w K mg base CX k f fd ps sp)
  (h:∀vs H Q E,sp' vs H Q E->sp vs H Q E):dw P w K mg base CX k f fd ps sp':=
 ⟨λvs H Q E q=>F.len vs H Q E (h _ _ _ _ q),λA outer s H args us vs Q E hr he hb hv hs=>F.run A outer s H args us vs Q E hr he hb hv (h _ _ _ _ hs)⟩
theorem Bg.in1{P:bD}{w:bB}{K:aJ}{mg:Str->Option Value}{base:bz}{A:cD}{outer:List Env}{s:aB}{H:Hp}(e:Bg P w K mg base A outer s H):
  Bg P w K mg base A.in1 outer s H:=⟨e.frames,e.mod,e.bs,e.vh,e.sG,e.BJ,e.hok,e.bare⟩
section
variable{X:Cx}{pins:List (aq×Obj)}{σ:St}{H:Hp}{s s':aB}
theorem Inv.env0(I:Inv X pins σ H s):Bg X.prog X.w X.K X.mg X.base X.A X.stack s H:=
 ⟨I.ok.frames,I.ok.mod,I.bs,jQ I.ok.vh I.sz,I.stack,I.acu,I.hok,I.bare⟩
theorem Inv.after{Q:VK}{u:Value}(I:Inv X pins σ H s)(h:CE X.stack X.prog X.w H s Q u s'):EP X pins σ Q u s':=by
 obtain⟨v,H',os,bare,un,hok,r,q⟩:=h
 obtain⟨hh,g,d,t,os'⟩:=s'
 obtain rfl:os'=s.os:=os
 exact⟨v,H',I.call (h':=hh) (g':=g) (d':=d) (t':=t) (ch:=[]) un hok bare (λb z=>absurd z (by simp)),r,q⟩
end
def NK(sp:Sp)(yU:List V)(E:XK)(t:TA):TE:=λσ H Q=>t σ H λvs H1=>sp (vs++yU) H1 Q E
def Binds(K:aJ)(fd:dF)(ps:List Str)(ds:List Value):Prop:=
 ∀(s:aB)(us:List Value),K.In s.heap->(us++ds).length=ps.length->Aa s fd ⟨us,[]⟩ (ps.zip (us++ds))
theorem Binds.all{K:aJ}{fd:dF}{ps:List Str}(h:∀us:List Value,us.length=ps.length->bindArgs fd ⟨us,[]⟩=pure (ps.zip us)):Binds K fd ps []:=λs us _ hl=>by
 rw[jd] at hl⊢;exact .of_eq (h us hl)
def Passes(CX:rD)(X:Cx)(E:XK):Prop:=∀(pins:List (aq×Obj))(σ:St)(H:Hp)(s:aB)(e:Value)(s':aB),Inv X pins σ H s->CX X.stack H s E e s'->X.xe e s'
section
variable{X:Cx}{CX:rD}{k:Nat}{f C:aq}{fd:dF}{ps:List Str}{sp:Sp}{yU:List V}{ds:List Value}{E:XK}{x m:Str}{p pos apos:Pos}{e o:Expr}{es:List Expr}{ta:TE}{t:TA}
theorem anQ{pins:List (aq×Obj)}{σ:St}{H:Hp}{s:aB}{Q:VK}{us:List Value}{vs:List V}(F:dw X.prog X.w X.K X.mg X.base CX k f fd ps sp)(hr:jh k X.A)(hb:Binds X.K fd ps ds)(hd:Vals yU ds)(hx:Passes CX X E)
  (I:Inv X pins σ H s)(r:Vals vs us)(h:sp (vs++yU) H Q E):aQ (model X.prog X.w) X.A (call (.ref f) us) (EP X pins σ Q) X.xe s:=by
 have r2:Vals (vs++yU) (us++ds):=r.append hd;have hl:(us++ds).length=ps.length:=by rw[<-r2.length];exact F.len _ _ _ _ h
 refine wpAny_call (Kc (F.run X.A X.stack s H ⟨us,[]⟩ (us++ds) (vs++yU) Q E hr I.env0 (hb s us I.jk hl) r2 h) λr s' hq=>?_);cases r with
 |error e=>exact hx pins σ H s e s' I hq
 |ok fl=>
  cases fl with
  |ret u=>exact I.after hq
  |next=>exact tH hq
  |brk=>exact tH hq
  |cont=>exact tH hq
theorem al3(F:dw X.prog X.w X.K X.mg X.base CX k f fd ps sp)(hr:jh k X.A)(hg:Gl X x)(hm:X.mg x=aa (.ref f))(hk:xQ X.K (.ref f)=ao)(hb:Binds X.K fd ps ds)(hd:Vals yU ds)(hx:Passes CX X E)
  (ha:PA X (e::es) t)(hdb:(x==("__debug__":Str))=aF:=by decide)(he:bC (e::es) X.env=(aF,eval e X.env)::bC es X.env:=by rfl)(hpl:(f9 pos (bC es X.env)).any (·.1)=aF:=by rfl):
  PE X (.Call (.Name x p) (e::es) [] pos) (NK sp yU E t):=by
 intro pins s σ H Q I h;refine Fi (acw I hg hm ?_ hdb);refine PySem.W.callWith_K (h₀:=X.base) I.ok.mod.W7 hk (bH (ha pos pins s σ H _ I h) λus s1 ⟨vs,H1,I1,r,q⟩=>⟨I1.jk,?_⟩) he hpl;exact anQ F hr hb hd hx I1 r q
structure Mk(K:aJ)(C f:aq):Prop where
 makes:PySem.W.makesIn K C=ao
 init:Cw K (.ref C) "__init__"=aa (aa (.ref f))
 fn:aid K (.ref f)=ao
 kp:xQ K (.ref C)=ao
end
section
variable{X:Cx}{CX:rD}{k:Nat}{f C:aq}{fd:dF}{ps ks:List Str}{sp:Sp}{E:XK}{x m:Str}{p pos apos kpos:Pos}{e o:Expr}{es:List Expr}{kws:List pY}{te ta:TE}{t tk:TA}{nm:Option Str}
structure asA(K:aJ)(fd:dF)(ps ks:List Str)(g:List Value->List Value->List Value)(gV:List V->List V->List V):Prop where
 to:∀(s:aB)(us ws:List Value),K.In s.heap->(g us ws).length=ps.length->Aa s fd ⟨us,ks.zip ws⟩ (ps.zip (g us ws))
 rel:∀{vs:List V}{us:List Value}{zs:List V}{ws:List Value},Vals vs us->Vals zs ws->Vals (gV vs zs) (g us ws)
variable{g:List Value->List Value->List Value}{gV:List V->List V->List V}
end
structure gA(N P:List Str)(sc:jT):Prop where
 kind:sc.kind=.function
 co:sc.isCoroutine=aF
 gen:sc.isGenerator=aF
 nd:N.Nodup
 pre:N.take P.length=P
 par:∀x∈P,sc.names.lookup x=aa .local\/sc.names.lookup x=aa .cell
 anR:∀y∈sc.names,y.2≠.free
theorem aaT{kindOf:Str->Option Di}{x:Str}:∀{binds:List (Str×Value)}{m:Str->Option Value},(∀v,(x,v)∉binds)->An kindOf binds m x=m x
 |[],_,_=>rfl
 |(n,v)::r,m,h=>by
  unfold An;rw[aaT λw hw=>h w (dZ _ hw)];split
  .have:x≠n:=by rintro rfl;exact h v dg
   simp[this]
  .rfl
theorem aaU{kindOf:Str->Option Di}{x:Str}:∀{binds:List (Str×Value)}{m:Str->Option Value},(∀v,(x,v)∉binds)->Ao kindOf binds m x=m x
 |[],_,_=>rfl
 |(n,v)::r,m,h=>by
  unfold Ao;rw[aaU λw hw=>h w (dZ _ hw)];split
  .rfl
  .have:x≠n:=by rintro rfl;exact h v dg
   simp[this]
theorem aaV{kindOf:Str->Option Di}{x:Str}{v:Value}:∀{P:List Str}{vs:List Value}{i:Nat}{m:Str->Option Value},P.Nodup->P[i]?=aa x->vs[i]?=aa v->kindOf x=aa .local->
  An kindOf (P.zip vs) m x=aa v
 |[],_,_,_,_,h,_,_=>by simp at h
 |_::_,[],_,_,_,_,h,_=>by simp at h
 |p::P,w::vs,0,m,nd,h1,h2,hk=>by
  simp at h1 h2;subst h1;subst h2;show An kindOf ((p,w)::P.zip vs) m p=_;unfold An;rw[aaT λv hv=>(je.mp nd).1 (QF hv).1,aV hk];simp
 |p::P,w::vs,i+1,m,nd,h1,h2,hk=>by
  show An kindOf ((p,w)::P.zip vs) m x=_;unfold An;exact aaV (i:=i) (je.mp nd).2 (by simpa using h1) (by simpa using h2) hk
theorem aaW{kindOf:Str->Option Di}{x:Str}{v:Value}:∀{P:List Str}{vs:List Value}{i:Nat}{m:Str->Option Value},P.Nodup->P[i]?=aa x->vs[i]?=aa v->kindOf x≠aa .local->
  Ao kindOf (P.zip vs) m x=aa v
 |[],_,_,_,_,h,_,_=>by simp at h
 |_::_,[],_,_,_,_,h,_=>by simp at h
 |p::P,w::vs,0,m,nd,h1,h2,hk=>by
  simp at h1 h2;subst h1;subst h2;show Ao kindOf ((p,w)::P.zip vs) m p=_;unfold Ao;rw[aaU λv hv=>(je.mp nd).1 (QF hv).1,bf hk];simp
 |p::P,w::vs,i+1,m,nd,h1,h2,hk=>by
  show Ao kindOf ((p,w)::P.zip vs) m x=_;unfold Ao;exact aaW (i:=i) (je.mp nd).2 (by simpa using h1) (by simpa using h2) hk
def start(N:List Str)(vs:List V):St:=vs.map aa++dI (N.length-vs.length) aj
def Bh(CX:rD)(P:bD)(w:bB)(K:aJ)(mg:Str->Option Value)(base:bz)(N:List Str)(qual:Str)(scope:jT)(f:aq)(cd:Value)(A:cD)(outer:List Env)(s:aB)(H:Hp)(E:XK):Cx where
 prog:=P
 w:=w
 K:=K
 mg:=mg
 base:=base
 A:=A.deeper (envOfC qual scope s.heap.objs.size f cd)
 N:=N
 s₀:=s
 H₀:=H
 env:=envOfC qual scope s.heap.objs.size f cd
 outer:=outer
 stack:=envOfC qual scope s.heap.objs.size f cd::outer
 ex:=[]
 calm:=ao
 fn:=λ_=>ao
 pn:=[]
 xe:=λe s'=>aQ (model P w) (A.deeper (envOfC qual scope s.heap.objs.size f cd)) (leaving (envOfC qual scope s.heap.objs.size f cd) e) (λ_ s''=>CX outer H s E e s'') (λe' s''=>CX outer H s E e' s'') s'
theorem aby{sc:jT}{n:Nat}{x:Str}(h:sc.names.lookup x=aa .cell):∃c,(cellsFrom n sc.names []).lookup x=aa c:=by
 have q:=agp sc.names n [] (.inl h);exact xr.mp q
theorem ajF{CX:rD}{P:bD}{w:bB}{K:aJ}{mg:Str->Option Value}{base:bz}{N ps:List Str}{qual:Str}{scope:jT}{f:aq}{cd:Value}{A:cD}{outer:List Env}{s s1:aB}{H:Hp}{E:XK}{us:List Value}{vs:List V}
  (S:gA N ps scope)(hd:A.handled=aj)(e0:Bg P w K mg base A outer s H)(hl:vs.length=ps.length)(r:Vals vs us)
  (x:InCallC s s.heap.objs.size (An (envOfC qual scope s.heap.objs.size f cd).kindOf (ps.zip us) λ_=>aj) (cellsFrom (s.heap.objs.size+1) scope.names []) (Ao (envOfC qual scope s.heap.objs.size f cd).kindOf (ps.zip us) λ_=>aj) s1):
  Inv (Bh CX P w K mg base N qual scope f cd A outer s H E) [] (start N vs) H s1:=by
 have hpl:ps.length<=N.length:=by have:=congrArg rG S.pre;rw[xM] at this;lia
 obtain⟨h1,tk,rfl,hk⟩:=x.done
 have Jc:∀b:aq,b∉(Bh CX P w K mg base N qual scope f cd A outer s H E).ex:=λb z=>absurd (show b∈([]:List aq) from z) (by simp)
 refine⟨⟨e0.mod,S.kind,rfl,rfl,bU _,λy z c h1 h2=>?_,λy hy=>?_,λy c _ h=>?_,λ_=>hd,Around.frames_deeper e0.frames,.inr ⟨rfl,rfl⟩,λb z=>absurd z (Jc b),e0.bs,e0.vh,λb _ _=>Jc b,λb z=>absurd z (Jc b),e0.sG,e0.BJ⟩,
  rfl,e0.bare,Un.kept hk,⟨_,x.toInCall.ns,λi y v h1 h2 h3=>?_⟩,λy c h=>⟨_,x.cell y c h⟩,e0.hok.fresh (bU _),λy c h=>?_,λp hp=>absurd (show p∈([]:List (aq×Obj)) from hp) (by simp),e0.hok.kept hk,?_⟩
 .exact name_of_addr x.apart (xG h1) (xG h2)
 .have hy:scope.names.lookup y=aa .cell\/scope.names.lookup y=aa .free:=hy;rcases hy with hy|hy
  .exact aby hy
  .exact absurd rfl (S.anR _ (xG hy))
 .exact xU (x.above y c (xG h))
 .have hi:i<vs.length:=by
   unfold start at h2;by_cases hi:i<vs.length
   .exact hi
   .rw[qD (by simpa using hi)] at h2;rw[XX] at h2;split at h2<;>cases h2
  have ha:vs[i]?=aa v:=by
   unfold start at h2;rw[oh (by simpa using hi),jm] at h2;cases e:vs[i]? with
   |none=>rw[e] at h2;cases h2
   |some a=>rw[e] at h2;cases h2;rfl
  obtain⟨u,hu,rv⟩:=r.get ha
  have hp:ps[i]?=aa y:=by
   rw[<-S.pre,List.getElem?_take_of_lt (by lia)];exact h1
  have ndP:ps.Nodup:=by rw[<-S.pre];exact S.nd.sublist (Yw _ _)
  refine⟨u,rv,?_⟩
  rcases S.par y (qF hp) with k|k
  .exact .inl ⟨k,aaV ndP hp hu k⟩
  .obtain⟨c,e⟩:=aby (n:=s.heap.objs.size+1) k
   refine .inr ⟨.inl k,c,e,?_⟩;have q:=x.cell y c e;rw[aaW ndP hp hu (by show scope.names.lookup y≠_;rw[k];decide)] at q;exact q
 .exact e0.hok.fresh (xU (x.above y c (xG h)))
 .unfold start;show _=N.length;rw[fU,bw,Qa];lia
theorem ao9{CX:rD}{P:bD}{w:bB}{K:aJ}{mg:Str->Option Value}{base:bz}{k:Nat}{f:aq}{name qual:Str}{params:Arguments}{body:List cX}{scope:jT}{dV kV doc pm cdv ct oc:Value}{an od:Option aq}
  {osl:Array (Option Value)}{N ps:List Str}{sp:Sp}(lk:K.lookup f=aa ⟨oc,od,.func (zR name qual params body scope dV kV doc pm an cdv ct),osl⟩)(hcd:QM K cdv qual=ao)(S:gA N ps scope)
  (len:∀vs H Q E,sp vs H Q E->vs.length=ps.length)
  (hbody:∀(A:cD)(outer:List Env)(s:aB)(H:Hp)(vs:List V)(Q:VK)(E:XK),jh k (A.deeper (envOfC qual scope s.heap.objs.size f cdv))->sp vs H Q E->
   ∃t,jO (Bh CX P w K mg base N qual scope f cdv A outer s H E) body t/\t {nx:=λ_ H'=>Q .non H',rt:=Q} (start N vs) H):
  dw P w K mg base CX (k+1) f (zR name qual params body scope dV kV doc pm an cdv ct) ps sp:=by
 refine⟨len,λA outer s H args us vs Q E hr e0 hb r hsp=>?_⟩
 have hl:=len _ _ _ _ hsp;have KX:K.In s.heap:=e0.mod.W7.keeps λb o e=>(e0.bs b o e).1
 have lim:s.heap.NoLimit:=e0.mod.nolimit.keeps λb o e=>(e0.bs b o e).1
 have hkind:∀y∈ps.zip us,scope.names.lookup y.1=aa .local\/(scope.names.lookup y.1=aa .cell/\((cellsFrom (s.heap.objs.size+1) scope.names []).lookup y.1).isSome=ao):=λ⟨n,v⟩ hy=>by
  rcases S.par n (QF hy).1 with q|q
  .exact .inl q
  .exact .inr ⟨q,agp _ _ _ (.inl q)⟩
 refine codeAny_call_function hr.depth (KX _ _ lk) rfl S.co S.gen rfl (PySem.W.codeRec_of KX hcd) (hb _ _ _ _ ?_);refine wpAny_newFunctionEnv_cells S.kind hkind λenv he s1 x=>?_
 subst he
 refine⟨lim.keeps x.toInCall.keep,codeAny_func ?_⟩
 obtain⟨t,ht,hq⟩:=hbody A outer s H vs Q E (hr.deeper _) hsp
 have I:Inv (Bh CX P w K mg base N qual scope f cdv A outer s H E) [] (start N vs) H s1:=ajF S hr.hd e0 hl r x;refine pW (ht [] s1 (start N vs) H _ I hq) (λfl s' hs=>?_) λe s' hs=>hs
 have fin:∀{σ':St}{H':Hp}{v:V}{u:Value},Inv (Bh CX P w K mg base N qual scope f cdv A outer s H E) [] σ' H' s'->RelV v u->Q v H'->CE outer P w H s Q u s':=
  λ{σ' H' v u} J rv q=>⟨v,H',J.os,J.bare,J.base,J.hok,rv,q⟩
 cases fl with
 |ret u=>
  obtain⟨v,σ',H',J,rv,q⟩:=hs
  exact fin J rv q
 |next=>
  obtain⟨σ',H',J,q⟩:=hs
  exact fin (v:=V.non) (u:=mU) J rfl q
 |brk=>
  obtain⟨_,_,_,q⟩:=hs
  exact tH q
 |cont=>
  obtain⟨_,_,_,q⟩:=hs
  exact tH q
section
variable{X:Cx}{x:Str}{p pos:Pos}{e:Expr}{es:List Expr}{t:TA}{id T:String}{r:List V->Hp->VK->Prop}
def Xe(r:List V->Hp->VK->Prop)(t:TA):TE:=λσ H Q=>t σ H λvs H1=>r vs H1 Q
theorem Lr(hc:gQ X (.builtin id) r)(hg:Gl X x)(hm:X.mg x=aj)(hv:uM x=aa (.builtin id))(ha:PA X (e::es) t)(hn:x≠"__name__":=by decide)(hdb:(x==("__debug__":Str))=aF:=by decide)
  (he:bC (e::es) X.env=(aF,eval e X.env)::bC es X.env:=by rfl)(hpl:(f9 pos (bC es X.env)).any (·.1)=aF:=by rfl):PE X (.Call (.Name x p) (e::es) [] pos) (Xe r t):=by
 intro pins s σ H Q I h;refine Fi (yp I hg hm hv ?_ hn hdb);exact XF (bH (ha pos pins s σ H _ I h) λus s1 ⟨vs,H1,I1,r1,q1⟩=>hc pins s1 σ H1 vs us Q I1 r1 q1) he hpl
theorem ajG(hc:gQ X (.type T) r)(hg:Gl X x)(hm:X.mg x=aj)(hv:uM x=aa (.type T))(ha:PA X (e::es) t)(hn:x≠"__name__":=by decide)(hdb:(x==("__debug__":Str))=aF:=by decide)
  (he:bC (e::es) X.env=(aF,eval e X.env)::bC es X.env:=by rfl)(hpl:(f9 pos (bC es X.env)).any (·.1)=aF:=by rfl):PE X (.Call (.Name x p) (e::es) [] pos) (Xe r t):=by
 intro pins s σ H Q I h;refine Fi (yp I hg hm hv ?_ hn hdb);exact XH (bH (ha pos pins s σ H _ I h) λus s1 ⟨vs,H1,I1,r1,q1⟩=>hc pins s1 σ H1 vs us Q I1 r1 q1) he hpl
end
end L2
namespace HT
open PySem PyProof.Rows
section
open PySem.SeqAt
open PySem.AutoSeq1 (wpAny_loadPart')
open PySem.MeetsSeq PySem.MeetsSeq2 PySem.MeetsSeq3
end
section
variable{prog:bD}{w:bB}{A:cD}{E:Value->aB->Prop}{s:aB}
theorem al4{t b:aq}{vs ws:List Value}{Q:Value->aB->Prop}(ht:IsTup s.heap t vs.toArray)(hb:IsTup s.heap b ws.toArray)(hv:vs≠[])
  (h1:ws=[]->Q (.ref t) s)(h2:ws≠[]->Q (.ref s.heap.objs.size) {s with heap:=s.heap.push {cls:=.type "tuple",data:=.seq (vs++ws).toArray}})
  (hsz:vs.length+ws.length<=bW):aQ (model prog w) A (oF .Add (.ref t) (.ref b)) Q E s:=by
 obtain⟨⟨cls,dd,data,sl⟩,ho,hc,n,hd⟩:=id ht
 obtain⟨⟨cls2,dd2,data2,sl2⟩,ho2,hc2,n2,hd2⟩:=id hb
 simp only at hc hd hc2 hd2;subst hc hd hc2 hd2;have e:vs.toArray++ws.toArray=(vs++ws).toArray:=by simp
 by_cases hw:ws=[]
 .exact ZW ⟨_,ho,rfl⟩ ⟨_,ho2,rfl⟩ YH ZF X6 X3 (XQ _ _)
   (tuple_addW1 t b vs.toArray ws.toArray n n2 dd dd2 sl sl2 (by simpa using hv) (by simp[hw])) ⟨ho,ho2,h1 hw⟩
 .refine ZW ⟨_,ho,rfl⟩ ⟨_,ho2,rfl⟩ YH ZF X6 X3 (XQ _ _)
   (tuple_addW2 t b vs.toArray ws.toArray n n2 dd dd2 sl sl2 (by simpa using hv) (by simpa using hw) (by rw[gH,gH];exact hsz)) ⟨ho,ho2,?_⟩
  rw[e];exact h2 hw
def cz(n d:Nat):Option Int->Nat
 |none=>d
 |some v=>if v<0 then(v+(n:Int)).toNat else min v.toNat n
theorem Ms(n d k:Nat):cz n d (aa (k:Int))=min k n:=by
 show(if(k:Int)<0 then((k:Int)+(n:Int)).toNat else min (k:Int).toNat n)=min k n
 rw[bf (by lia),zA]
theorem anS(n d:Nat)(hd:d<=n)(o:Option Int):cz n d o<=n:=by
 cases o with
 |none=>exact hd
 |some v=>
  show(if v<0 then(v+(n:Int)).toNat else min v.toNat n)<=n
  by_cases hv:v<0
  .rw[aV hv];lia
  .rw[bf hv];exact Nat.min_le_right _ _
theorem acE(v:Int)(n d:Nat):(if v<0 then max (v+(n:Int)) 0 else min v (n:Int))=((cz n d (aa v):Nat):Int):=by
 show(if v<0 then max (v+(n:Int)) 0 else min v (n:Int))=(((if v<0 then(v+(n:Int)).toNat else min v.toNat n):Nat):Int)
 by_cases hv:v<0
 .simp only[aV hv];lia
 .simp only[bf hv];lia
theorem aiV(lo hi:Option Int)(n:Nat):XJ lo hi 1 (n:Int)=(((cz n 0 lo:Nat):Int),((cz n n hi:Nat):Int)):=by
 have h1:¬((1:Int)<0):=by lia
 unfold XJ;simp only[h1,if_false];refine Prod.ext ?_ ?_
 .cases lo with
  |none=>rfl
  |some v=>exact acE v n 0
 .cases hi with
  |none=>rfl
  |some v=>exact acE v n n
theorem aiW(i j:Nat):PJ (i:Int) (j:Int) 1=j-i:=by
 unfold PJ;have h1:(1:Int)>0:=by lia
 simp only[h1,if_true,Int.ediv_one];split<;>lia
theorem aaq{v:Value}{o:Option Int}{Q:Option Int->aB->Prop}(p:uX v o)(h:Q o s):aQ (model prog w) A (arR v) Q E s:=by
 cases p with
 |none=>exact slicePart_none h
 |int i t=>exact slicePart_int h
theorem YJ{sl:aq}{vl vu:Value}{lo hi:Option Int}{n:Nat}{Q:Int×Int×Nat->aB->Prop}(hs:s.heap.IsSliceOf sl vl vu .none)(pl:uX vl lo)(pu:uX vu hi)
  (h:Q (((cz n 0 lo:Nat):Int),1,cz n n hi-cz n 0 lo) s):aQ (model prog w) A (agb (.ref sl) (pure (n:Int))) Q E s:=by
 obtain⟨os,hos,hcs,hds⟩:=id hs
 unfold agb ar9;refine aC (aC (aag hos hds (x:=vl) rfl (aC (aag hos hds (x:=vu) rfl (aC (aag hos hds (x:=.none) rfl (aZ ?_)))))));refine aC (slicePart_none ?_);show aQ _ _ (if((1:Int)==0)=ao then _ else _) _ _ s;rw[bf (by decide)];refine aC (aaq pl (aC (aaq pu (aC (aZ ?_)))));show aQ _ _ (match XJ lo hi 1 (n:Int) with|(lo,hi)=>pure (lo,(1:Int),PJ lo hi 1)) _ _ s;rw[aiV lo hi n];show aQ _ _ (pure (((cz n 0 lo:Nat):Int),(1:Int),PJ ((cz n 0 lo:Nat):Int) ((cz n n hi:Nat):Int) 1)) _ _ s;rw[aiW];exact aZ h
theorem akF(xs:Array Value)(i k:Nat):((fP k).filterMap λ(m:Nat)=>xs[((i:Int)+(m:Int)*1).toNat]?).toArray=((xs.toList.drop i).take k).toArray:=by
 have e:(λ(m:Nat)=>xs[((i:Int)+(m:Int)*1).toNat]?)=λm=>xs[i+m]?:=by
  funext m;have:((i:Int)+(m:Int)*1).toNat=i+m:=by lia
  rw[this]
 rw[e];have:=pick_run xs i k;rw[List.filterMap_map] at this;have e2:((λx=>xs[x]?) ∘ λx=>i+x)=λm=>xs[i+m]?:=rfl
 rw[e2] at this;rw[this]
theorem ag4{t sl:aq}{items:Array Value}{vl vu:Value}{lo hi:Option Int}{Q:Value->aB->Prop}(ht:IsTup s.heap t items)(hs:s.heap.IsSliceOf sl vl vu .none)(pl:uX vl lo)(pu:uX vu hi)
  (hw:¬(cz items.size 0 lo=0/\cz items.size items.size hi=items.size))
  (h:Q (.ref s.heap.objs.size) {s with heap:=s.heap.push {cls:=.type "tuple",data:=.seq ((items.toList.drop (cz items.size 0 lo)).take (cz items.size items.size hi-cz items.size 0 lo)).toArray}})
  (hsz:items.size<=bW):aQ (model prog w) A (ye (.ref t) (.ref sl)) Q E s:=by
 have NP:sizeOk (.seq ((items.toList.drop (cz items.size 0 lo)).take (cz items.size items.size hi-cz items.size 0 lo)).toArray):=by
  show((items.toList.drop (cz items.size 0 lo)).take (cz items.size items.size hi-cz items.size 0 lo)).toArray.size<=bW
  rw[gH,xM,Cq,jF];lia
 have hj:cz items.size items.size hi<=items.size:=anS _ _ (bU _) hi
 obtain⟨os,hos,hcs,hds⟩:=id hs
 have hTs:s.TypeIs (.ref sl) "slice":=⟨os,hos,hcs⟩
 unfold ye
 try with_reducible refine nj ?_
 first|refine aC (aZ ?_)|skip
 refine aC (ag5 ht.typeIs (by decide) ?_);refine aC (zu (name:=dO "__getitem__") ht.typeIs Pu
  (oW Pu ht.typeIs entry_tuple_getitem ?_ (args_tuple_getitem _ _)))
 show aQ _ _ (agc (.ref t) >>= _) _ _ s;refine aC (tupleItemsOf_ ht ?_);refine aC (Kd hTs ?_);rw[aV (by decide)];refine aC (YJ hs pl pu ?_);have hno:¬((((cz items.size 0 lo:Nat):Int)==0&&(1:Int)==1&&(cz items.size items.size hi-cz items.size 0 lo)==items.size)=ao):=by
  intro q;rw[jn,jn] at q;have q1:((cz items.size 0 lo:Nat):Int)=0:=eq_of_beq q.1.1;have q2:cz items.size items.size hi-cz items.size 0 lo=items.size:=eq_of_beq q.2;exact hw ⟨by lia,by lia⟩
 show aQ _ _ (if(((cz items.size 0 lo:Nat):Int)==0&&(1:Int)==1&&(cz items.size items.size hi-cz items.size 0 lo)==items.size)=ao then _ else _) _ _ s;rw[bf hno,akF]
 first
  |exact aC (m:=PL _) (mQ (aZ ⟨_,rfl,aZ h⟩) NP)
  |exact aC (m:=PL _) (mQ (aC (aZ (aZ ⟨_,rfl,aZ h⟩))) NP)
  |exact aC (aC (m:=PL _) (mQ (aZ (aZ ⟨_,rfl,aZ h⟩)) NP))
  |exact aC (aC (m:=PL _) (mQ (aZ ⟨_,rfl,aZ h⟩) NP))
end
end HT
namespace L2
open PySem PySem.Spec PyProof.Rows
abbrev TO:=St->Hp->(Option Int->Hp->Prop)->Prop
def PO(X:Cx)(e:Option Expr)(t:TO):Prop:=
 ∀(pins:List (aq×Obj))(s:aB)(σ:St)(H:Hp)(Q:Option Int->Hp->Prop),Inv X pins σ H s->t σ H Q->
  aQ (model X.prog X.w) X.A (evalPart e X.env) (λu s'=>∃o H',Inv X pins σ H' s'/\uX u o/\Q o H') X.xe s
def al5:TO:=λ_ H Q=>Q aj H
def apa(t:TE):TO:=λσ H Q=>t σ H λx H1=>∃i,x=.int i/\Q (aa i) H1
theorem intsAre_of{ns:List Int}:∀{us:List Value},Vals (ns.map V.int) us->IntsAre us ns:=by
 induction ns with
 |nil=>intro us r;rw[oE] at r;cases r;exact .nil
 |cons n ns ih=>
  intro us r;rw[cj] at r;cases r with
  |cons r1 r2=>
   obtain⟨t,e⟩:=r1
   subst e;exact .cons n t (ih r2)
section
variable{X:Cx}{e:Expr}{te:TE}{lo hi:Option Expr}{tl th:TO}{pos p2:Pos}
theorem al6:PO X aj al5:=by
 intro pins s σ H Q I h;rw[evalPart_none];exact aZ ⟨aj,H,I,.none,h⟩
theorem al7(h:PE X e te):PO X (aa e) (apa te):=by
 intro pins s σ H Q I hw;rw[evalPart_some];refine bH (h pins s σ H _ I hw) λu s1 aN=>?_
 obtain⟨x,H1,I1,r1,q1⟩:=aN
 obtain⟨i,rfl,q⟩:=q1
 obtain⟨t,rfl⟩:=r1
 exact⟨aa i,H1,I1,.int i t,q⟩
def wV(X:Cx)(r:V->Option Int->Option Int->Hp->VK->Prop):Prop:=
 ∀(pins:List (aq×Obj))(s:aB)(σ:St)(H:Hp)(x:V)(v vl vu:Value)(lo hi:Option Int)(sl:aq)(Q:VK),Inv X pins σ H s->RelV x v->s.heap.IsSliceOf sl vl vu .none->uX vl lo->uX vu hi->r x lo hi H Q->
  ∃T id,typeLookup (.type T) "__getitem__"=pure (aa (.builtin id))/\s.TypeIs v T/\aQ (model X.prog X.w) X.A (ye v (.ref sl)) (EP X pins σ Q) X.xe s
theorem wV.or{r r':V->Option Int->Option Int->Hp->VK->Prop}(h:wV X r)(h':wV X r'):wV X (λx lo hi H Q=>r x lo hi H Q\/r' x lo hi H Q):=by
 intro pins s σ H x v vl vu lo hi sl Q I rx hs pl pu q;rcases q with q|q
 .exact h pins s σ H x v vl vu lo hi sl Q I rx hs pl pu q
 .exact h' pins s σ H x v vl vu lo hi sl Q I rx hs pl pu q
def tSl(r:V->Option Int->Option Int->Hp->VK->Prop)(te:TE)(tl th:TO):TE:=λσ H Q=>te σ H λx H1=>tl σ H1 λl H2=>th σ H2 λu H3=>r x l u H3 Q
theorem akG{r:V->Option Int->Option Int->Hp->VK->Prop}(hr:wV X r)(he:PE X e te)(hl:PO X lo tl)(hu:PO X hi th):PE X (.Subscript e (.Slice lo hi aj p2) pos) (tSl r te tl th):=by
 intro pins s σ H Q I h;refine Subscript_ (bH (he pins s σ H _ I h) λv s1 aN=>?_)
 obtain⟨x,H1,I1,r1,q1⟩:=aN
 refine wpAny_Slice (bH (hl pins s1 σ H1 _ I1 q1) λvl s2 ⟨l,H2,I2,pl,q2⟩=>bH (hu pins s2 σ H2 _ I2 q2) λvu s3 aN=>?_)
 obtain⟨u,H3,I3,pu,q3⟩:=aN
 rw[evalPart_none];refine aZ ?_;have I4:Inv X pins σ H3 {s3 with heap:=s3.heap.push {cls:=.type "slice",data:=.fields #[vl,vu,.none]}}:=I3.kept (t':=s3.toks) λb ob q=>cJ _ q
 obtain⟨T,id,hT,ht,hg⟩:=hr pins {s3 with heap:=s3.heap.push {cls:=.type "slice",data:=.fields #[vl,vu,.none]}} σ H3 x v vl vu l u s3.heap.objs.size Q I4 r1 (asz ..) pl pu q3
 show aQ (model X.prog X.w) X.A (subscriptTail e (.Slice lo hi aj p2) v (.ref s3.heap.objs.size)) (EP X pins σ Q) X.xe {s3 with heap:=s3.heap.push {cls:=.type "slice",data:=.fields #[vl,vu,.none]}};exact tail_any (ops:=[.ref s3.heap.objs.size,v]) ht hT hg (by with_unfolding_all rfl)
def ue(xs:List V)(lo hi:Option Int):List V:=(xs.drop (HT.cz xs.length 0 lo)).take (HT.cz xs.length xs.length hi-HT.cz xs.length 0 lo)
theorem aah(xs:List V)(lo hi:Option Int):(ue xs lo hi).length<=xs.length:=by
 unfold ue;rw[xM,Cq];lia
def aqb(K:aJ):V->Option Int->Option Int->Hp->VK->Prop:=λx lo hi H Q=>∃a xs,x=.ref a/\cW K H a xs/\
 ¬(HT.cz xs.length 0 lo=0/\HT.cz xs.length xs.length hi=xs.length)/\∀p,H p=aj->Q (.ref p) (upd H p (.tup (ue xs lo hi)))
theorem anT:wV X (aqb X.K):=by
 intro pins s σ H x v vl vu lo hi sl Q I rx hs pl pu h
 obtain⟨a,xs,rfl,hx,hw,q⟩:=h
 cases rx
 obtain⟨its,r,ht,hz⟩:=I.tuple hx
 have hlen:its.toArray.size=xs.length:=by rw[gH];exact r.length.symm
 refine⟨"tuple",_,PyProof.Rows.slot_tuple_getitem.lookup,ht.typeIs,?_⟩
 refine HT.ag4 ht hs pl pu (by rw[hlen];exact hw) ?_ (by rw[hlen];exact hz);rw[hlen]
 refine⟨.ref s.heap.objs.size,_,I.laid (t':=s.toks) (o:=.tup (ue xs lo hi)) (λb ob q=>cJ _ q) (bU _) ?_,rfl,q _ (I.hok.fresh (bU _))⟩
 exact⟨jQ (aah xs lo hi) hz,_,(r.drop (HT.cz xs.length 0 lo)).take (HT.cz xs.length xs.length hi-HT.cz xs.length 0 lo),IsTup.new _ _⟩
def aeu(K:aJ):R2:=λx y H Q=>∃a b xs ys,x=.ref a/\y=.ref b/\cW K H a xs/\cW K H b ys/\xs≠[]/\xs.length+ys.length<=bW/\
 (ys=[]->Q (.ref a) H)/\(ys≠[]->∀p,H p=aj->Q (.ref p) (upd H p (.tup (xs++ys))))
theorem Vals.U0{xs:List V}{us:List Value}(r:Vals xs us):us=[]↔xs=[]:=by
 cases r with
 |nil=>simp
 |cons _ _=>simp
theorem al8:cM X (oF .Add) (aeu X.K):=by
 intro pins s σ H x y v u Q I rx ry h
 obtain⟨a,b,xs,ys,rfl,rfl,ha,hb,hx,hz,q1,q2⟩:=h
 cases rx;cases ry
 obtain⟨its,r1,p1,_⟩:=I.tuple ha
 obtain⟨its2,r2,p2,_⟩:=I.tuple hb
 refine HT.al4 p1 p2 (λz=>hx (r1.U0.mp z)) (λz=>⟨.ref a,H,I,rfl,q1 (r2.U0.mp z)⟩) (λz=>?_) (by rw[<-r1.length,<-r2.length];exact hz)
 refine⟨.ref s.heap.objs.size,_,I.laid (t':=s.toks) (o:=.tup (xs++ys)) (λb ob q=>cJ _ q) (bU _) ?_,rfl,q2 (λw=>z (r2.U0.mpr w)) _ (I.hok.fresh (bU _))⟩
 exact⟨by rw[fU];exact hz,_,r1.append r2,IsTup.new _ _⟩
end
def pN(n:Nat)(i:Int):Option Nat:=if 0<=i then(if i<n then aa i.toNat else aj) else if -(n:Int)<=i then aa (i+n).toNat else aj
def fG{α:Type}(xs:List α)(i:Int):Option α:=(pN xs.length i).bind λj=>xs[j]?
theorem acF{n:Nat}{i:Int}{j:Nat}(h:pN n i=aa j):S9 i n=aa j/\j<n/\-(n:Int)<=i/\i<n:=by
 unfold pN at h;by_cases h0:0<=i
 .rw[aV h0] at h;by_cases h1:i<n
  .rw[aV h1] at h;have e:i.toNat=j:=gP h
   exact⟨by rw[aai h0 h1,e],by lia,by lia,h1⟩
  .rw[bf h1] at h;cases h
 .rw[bf h0] at h;by_cases h1:-(n:Int)<=i
  .rw[aV h1] at h;have e:(i+n).toNat=j:=gP h
   exact⟨by rw[ZX (by lia) h1,e],by lia,h1,by lia⟩
  .rw[bf h1] at h;cases h
theorem U3{α:Type}{xs:List α}{i:Int}{v:α}(h:fG xs i=aa v):∃j,S9 i xs.length=aa j/\xs[j]?=aa v/\j<xs.length/\-(xs.length:Int)<=i/\i<xs.length:=by
 unfold fG at h;cases e:pN xs.length i with
 |none=>rw[e] at h;cases h
 |some j=>
  rw[e] at h
  obtain⟨h1,h2,h3,h4⟩:=acF e
  exact⟨j,h1,h,h2,h3,h4⟩
theorem yf{α:Type}{xs:List α}{j:Nat}{v:α}(h:xs[j]?=aa v):fG xs (j:Int)=aa v:=by
 have hj:j<xs.length:=(jW.mp h).1;have e:pN xs.length (j:Int)=aa j:=by
  unfold pN;rw[aV (by lia),aV (by lia)];simp
 unfold fG;rw[e];exact h
def Mt(b:Expr):Prop:=∀o i,aaj b aF o i=operate [o,i] (ye o i)
def sV(X:Cx)(r:R2):Prop:=
 ∀(value slice:Expr)(pins:List (aq×Obj))(s:aB)(σ:St)(H:Hp)(x y:V)(v u:Value)(Q:VK),Inv X pins σ H s->RelV x v->RelV y u->r x y H Q->
  aaj slice aF v u=operate [v,u] (ye v u)->aQ (model X.prog X.w) X.A (subscriptTail value slice v u) (EP X pins σ Q) X.xe s
def Ew(X:Cx)(id:String)(r:V->List V->Hp->VK->Prop):Prop:=
 ∀(pins:List (aq×Obj))(s:aB)(σ:St)(H:Hp)(x:V)(xs:List V)(v:Value)(us:List Value)(Q:VK),Inv X pins σ H s->RelV x v->Vals xs us->r x xs H Q->
  aQ (model X.prog X.w) X.A (call (.builtin id) (v::us)) (EP X pins σ Q) X.xe s
section
variable{X:Cx}{a b:Expr}{ta tb:TE}{pos:Pos}
theorem sV.or{r r':R2}(h:sV X r)(h':sV X r'):sV X (λx y H Q=>r x y H Q\/r' x y H Q):=by
 intro value slice pins s σ H x y v u Q I rx ry q hs;rcases q with q|q
 .exact h value slice pins s σ H x y v u Q I rx ry q hs
 .exact h' value slice pins s σ H x y v u Q I rx ry q hs
theorem Ew.or{id:String}{r r':V->List V->Hp->VK->Prop}(h:Ew X id r)(h':Ew X id r'):Ew X id (λx xs H Q=>r x xs H Q\/r' x xs H Q):=by
 intro pins s σ H x xs v us Q I rx rs q;rcases q with q|q
 .exact h pins s σ H x xs v us Q I rx rs q
 .exact h' pins s σ H x xs v us Q I rx rs q
theorem Wi{r:R2}(hr:sV X r)(ha:PE X a ta)(hb:PE X b tb)(hs:Mt b):PE X (.Subscript a b pos) (Jb r ta tb):=by
 intro pins s σ H Q I h;exact Subscript_ (WN ha hb I h λv u s2 x y H2 I2 rx ry q=>hr a b pins s2 σ H2 x y v u Q I2 rx ry q (hs _ _))
def aeW(K:aJ):R2:=λx y H Q=>∃p xs i v,x=.ref p/\y=.int i/\bO K H p xs/\fG xs i=aa v/\Q v H
def aeX(K:aJ):R2:=λx y H Q=>∃p xs i v,x=.ref p/\y=.int i/\cW K H p xs/\fG xs i=aa v/\Q v H
def aeY:R2:=λx y H Q=>∃z i c,x=.str z/\y=.int i/\z.length<=bW/\fG z.cps.toList i=aa c/\Q (.str ⟨#[c]⟩) H
theorem U4:sV X (aeW X.K):=by
 intro value slice pins s σ H x y v u Q I rx ry h hs
 obtain⟨p,xs,i,z,rfl,rfl,hq,he,q⟩:=h
 cases rx
 obtain⟨t,rfl⟩:=ry
 obtain⟨its,r,pl,hz⟩:=I.list hq
 obtain⟨j,h1,h2,h3,h4,h5⟩:=U3 he
 obtain⟨w,ew,rw'⟩:=r.get h2
 have hl:=r.length;have hn:=Ag;have fin:EP X pins σ Q w s:=⟨z,H,I,rw',q⟩
 by_cases h0:0<=i
 .have hj:i.toNat=j:=by
   rw[aai h0 h5] at h1;exact gP h1
  exact item_listR pl.isList h0 (by lia) (by rw[hj];simpa using ew) fin hs
 .have hj:(i+(its.toArray.size:Int)).toNat=j:=by
   rw[ZX (by lia) h4] at h1;rw[gH,<-hl];exact gP h1
  exact subscriptTail_builtinR (x:=w) pl.isList.typeIs slot_list_getitem.lookup
   (wpAny_getItem_list_neg (Q:=λr s'=>r=w/\EP X pins σ Q r s') pl.isList (by lia) (by rw[gH]<;>lia) (by lia) (by rw[hj];simpa using ew) ⟨rfl,fin⟩) hs
theorem anU:sV X (aeX X.K):=by
 intro value slice pins s σ H x y v u Q I rx ry h hs
 obtain⟨p,xs,i,z,rfl,rfl,hq,he,q⟩:=h
 cases rx
 obtain⟨t,rfl⟩:=ry
 obtain⟨its,r,pl,hz⟩:=I.tuple hq
 obtain⟨j,h1,h2,h3,h4,h5⟩:=U3 he
 obtain⟨w,ew,rw'⟩:=r.get h2
 have hl:=r.length;have hn:=Ag;have fin:EP X pins σ Q w s:=⟨z,H,I,rw',q⟩
 exact subscriptTail_builtinR (x:=w) pl.typeIs slot_tuple_getitem.lookup
  (getItem_tuple (j:=j) (Q:=λr s'=>r=w/\EP X pins σ Q r s') pl (by lia) (by lia) (by rw[gH,<-hl];exact h1) (by simpa using ew) ⟨rfl,fin⟩) hs
theorem anV:sV X aeY:=by
 intro value slice pins s σ H x y v u Q I rx ry h hs
 obtain⟨z,i,c,rfl,rfl,hz,he,q⟩:=h
 obtain⟨t,rfl⟩:=rx
 obtain⟨t',rfl⟩:=ry
 obtain⟨j,h1,h2,h3,h4,h5⟩:=U3 he
 have hl:z.cps.toList.length=z.length:=by simp[Str.length]
 rw[hl] at h1 h4 h5;have hn:=Ag;exact tail_any (aar s z t) slot_str_getitem.lookup (getItem_str (c:=c) (by
  have e1:decide (i< -(2^63:Int))=aF:=dW (by lia);have e2:decide (i>=2^63)=aF:=dW (by lia);rw[e1,e2,Bool.or_false]) (by rw[h1];simpa using h2) ⟨.str ⟨#[c]⟩,H,I.tok _,⟨_,rfl⟩,q⟩) hs
def rIx(K:aJ):R2:=λx y H Q=>aeW K x y H Q\/aeX K x y H Q\/aeY x y H Q
theorem anW:sV X (rIx X.K):=U4.or (anU.or anV)
theorem aiX(its:List Value)(n j:Nat)(u:Value):nA (·.setIfInBounds j u) {cls:=.type "list",data:=.seq its.toArray n}={cls:=.type "list",data:=.seq (its.set j u).toArray n}:=by
 simp[nA]
theorem Inv.lst{pins:List (aq×Obj)}{σ:St}{H:Hp}{s:aB}{p:aq}{xs:List V}(I:Inv X pins σ H s)(h:H p=aa (.lst xs)):
  ∃(its:List Value)(n:Nat),Vals xs its/\s.heap.get? p=aa {cls:=.type "list",data:=.seq its.toArray n}/\xs.length<=bW:=by
 obtain⟨z,its,n,r,e⟩:=I.hok p _ h
 exact⟨its,n,r,e,z⟩
theorem Inv.anY{pins:List (aq×Obj)}{σ:St}{H:Hp}{s:aB}{p:aq}{xs ys:List V}{its its':List Value}{n n':Nat}{f:Obj->Obj}(I:Inv X pins σ H s)(h:H p=aa (.lst xs))
  (ho:s.heap.get? p=aa {cls:=.type "list",data:=.seq its.toArray n})(hf:f {cls:=.type "list",data:=.seq its.toArray n}={cls:=.type "list",data:=.seq its'.toArray n'})(r:Vals ys its')(hz:ys.length<=bW)(t:Nat):
  Inv X pins σ (upd H p (.lst ys)) {s with heap:=s.heap.update p f,toks:=t}:=by
 have e:(s.heap.update p f).get? p=aa {cls:=.type "list",data:=.seq its'.toArray n'}:=by
  rw[zx f ho (by rw[hf]<;>rfl),hf]
 refine I.write (x:=p) (e:=p) (by rw[h];trivial) (.inl rfl) (λb u hb q=>(uG _ _ (lO hb)).trans q) ⟨_,e⟩ ?_
 exact⟨hz,its',n',r,e⟩
def Wj:V->V->V->Hp->(Hp->Prop)->Prop:=λo i v H Q=>∃p xs k j,o=.ref p/\i=.int k/\H p=aa (.lst xs)/\pN xs.length k=aa j/\Q (upd H p (.lst (xs.set j v)))
theorem set_list:wM X Wj:=by
 intro pins s σ H o i v ov iv u Q I ro ri rv h
 obtain⟨p,xs,k,j,rfl,rfl,hp,hj,q⟩:=h
 cases ro
 obtain⟨t,rfl⟩:=ri
 obtain⟨its,n,r,ho,hz⟩:=I.lst hp
 obtain⟨h1,h2,h3,h4⟩:=acF hj
 have hl:=r.length;have hn:=Ag;have I':Inv X pins σ (upd H p (.lst (xs.set j v))) {s with heap:=s.heap.update p (nA (·.setIfInBounds j u))}:=
  I.anY hp ho (aiX its n j u) (r.set rv j) (by rw[xN];exact hz) s.toks
 by_cases h0:0<=k
 .have hk:k.toNat=j:=by
   rw[aai h0 h4] at h1;exact gP h1
  exact PySem.W.ki_setAt ho h0 (by lia) (by rw[gH,<-hl];exact h4) (by rw[hk];exact⟨_,I',q⟩)
 .have hk:(k+(its.toArray.size:Int)).toNat=j:=by
   rw[ZX (by lia) h3] at h1;rw[gH,<-hl];exact gP h1
  exact PySem.W.ki_setBack ho (by lia) (by rw[gH,<-hl];exact h3) (by lia) (by rw[hk];exact⟨_,I',q⟩)
theorem aie(lo hi:Option Int)(n:Nat):(CQ lo hi aj n).1=((HT.cz n 0 lo:Nat):Int)/\(CQ lo hi aj n).2.1=((HT.cz n n hi:Nat):Int)/\(CQ lo hi aj n).2.2=1:=by
 refine⟨?_,?_,rfl⟩
 .cases lo with
  |none=>simp[CQ,HT.cz]
  |some i=>
   simp only[CQ,HT.cz,Qp,show(1:Int)>0 by decide,if_true];by_cases h:i<0
   .simp only[h,if_true]<;>lia
   .simp only[h,if_false]<;>lia
 .cases hi with
  |none=>simp[CQ,HT.cz]
  |some i=>
   simp only[CQ,HT.cz,Qp,show(1:Int)>0 by decide,if_true];by_cases h:i<0
   .simp only[h,if_true]<;>lia
   .simp only[h,if_false]<;>lia
theorem ahU(its:List Value)(lo hi:Option Int):slicePick its.toArray lo hi aj=((its.drop (HT.cz its.length 0 lo)).take (HT.cz its.length its.length hi-HT.cz its.length 0 lo)).toArray:=by
 obtain⟨h1,h2,h3⟩:=aie lo hi its.toArray.size
 unfold slicePick;rw[h1,h2,h3];simp only[sliceRange_one,pick_run,gH]<;>rfl
def aqc(K:aJ):V->Option Int->Option Int->Hp->VK->Prop:=λx lo hi H Q=>∃a xs,x=.ref a/\bO K H a xs/\∀p,H p=aj->Q (.ref p) (upd H p (.lst (ue xs lo hi)))
theorem al9:wV X (aqc X.K):=by
 intro pins s σ H x v vl vu lo hi sl Q I rx hs pl pu h
 obtain⟨a,xs,rfl,hx,q⟩:=h
 cases rx
 obtain⟨its,r,ht,hz⟩:=I.list hx
 have hlen:=r.length
 refine⟨"list",_,slot_list_getitem.lookup,ht.isList.typeIs,?_⟩
 refine wpAny_getItem_list_slice ht.isList hs pl pu .none (by simp) ?_ (by rw[gH]<;>lia);rw[ahU,<-hlen]
 refine⟨.ref s.heap.objs.size,_,I.laid (t':=s.toks) (o:=.lst (ue xs lo hi)) (λb ob q=>cJ _ q) (bU _) ?_,rfl,q _ (I.hok.fresh (bU _))⟩
 exact⟨jQ (aah xs lo hi) hz,_,0,(r.drop (HT.cz xs.length 0 lo)).take (HT.cz xs.length xs.length hi-HT.cz xs.length 0 lo),iI _ rfl⟩
def qQ:V->Bool
 |.non=>ao
 |.bl _=>ao
 |.int _=>ao
 |.str _=>ao
 |_=>aF
def uv:V->V->Bool
 |.non,.non=>ao
 |.bl a,.bl b=>a==b
 |.bl a,.int b=>(if a then 1 else 0)==b
 |.int a,.bl b=>a==(if b then 1 else 0)
 |.int a,.int b=>a==b
 |.str a,.str b=>a==b
 |_,_=>aF
theorem VF{A:cD}{s:aB}{y x:V}{u v:Value}(ry:RelV y u)(rx:RelV x v)(fy:qQ y=ao)(fx:qQ x=ao):K6 A s u v (uv y x):=by
 cases y with
 |non=>
  cases ry;cases x with
  |non=>cases rx;exact ahE _
  |bl b=>cases rx;exact SeqAt.EqAt.none_bool b
  |int b=>obtain⟨t,rfl⟩:=rx;exact SeqAt.EqAt.none_int b t
  |str b=>obtain⟨t,rfl⟩:=rx;exact SeqAt.EqAt.none_str b t
  |_=>exact absurd (show aF=ao from fx) gw
 |bl a=>
  cases ry;cases x with
  |non=>cases rx;exact SeqAt.EqAt.bool_none a
  |bl b=>cases rx;exact SeqAt.EqAt.bool_bool a b
  |int b=>obtain⟨t,rfl⟩:=rx;exact SeqAt.EqAt.bool_int a b t
  |str b=>obtain⟨t,rfl⟩:=rx;exact SeqAt.EqAt.bool_str a b t
  |_=>exact absurd (show aF=ao from fx) gw
 |int a=>
  obtain⟨t',rfl⟩:=ry
  cases x with
  |non=>cases rx;exact SeqAt.EqAt.int_none a t'
  |bl b=>cases rx;exact SeqAt.EqAt.int_bool a t' b
  |int b=>obtain⟨t,rfl⟩:=rx;exact agV a t' b t
  |str b=>obtain⟨t,rfl⟩:=rx;exact agQ a t' b t
  |_=>exact absurd (show aF=ao from fx) gw
 |str a=>
  obtain⟨t',rfl⟩:=ry
  cases x with
  |non=>cases rx;exact SeqAt.EqAt.str_none a t'
  |bl b=>cases rx;exact SeqAt.EqAt.str_bool a t' b
  |int b=>obtain⟨t,rfl⟩:=rx;exact agR a t' b t
  |str b=>obtain⟨t,rfl⟩:=rx;exact SeqAt.EqAt.str_str a t' b t
  |_=>exact absurd (show aF=ao from fx) gw
 |_=>exact absurd (show aF=ao from fy) gw
def pO(x:V)(u:Value):Bool:=match u with
 |.none=>uv .non x
 |.bool b=>uv (.bl b) x
 |.int i _=>uv (.int i) x
 |.str z _=>uv (.str z) x
 |_=>aF
theorem adK{x y:V}{u:Value}(r:RelV y u)(f:qQ y=ao):pO x u=uv y x:=by
 cases y with
 |non=>cases r;rfl
 |bl b=>cases r;rfl
 |int i=>obtain⟨t,rfl⟩:=r;rfl
 |str z=>obtain⟨t,rfl⟩:=r;rfl
 |_=>exact absurd (show aF=ao from f) gw
theorem Hf{x:V}:∀{xs:List V}{us:List Value},Vals xs us->xs.all qQ=ao->us.any (pO x)=xs.any λy=>uv y x
 |_,_,.nil,_=>rfl
 |y::xs,u::us,.cons r t,f=>by
  rw[Q7,jn] at f;rw[J0,J0,adK r f.1,Hf t f.2]
theorem GJ{A:cD}{s:aB}{x:V}{v:Value}(rx:RelV x v)(fx:qQ x=ao):∀{xs:List V}{us:List Value},Vals xs us->xs.all qQ=ao->∀u∈us,K6 A s u v (pO x u)
 |_,_,.nil,_=>λu hu=>by cases hu
 |y::xs,u::us,.cons r t,f=>λu' hu=>by
  rw[Q7,jn] at f;rcases bY.mp hu with rfl|hu
  .rw[adK r f.1];exact VF r rx f.1 fx
  .exact GJ rx fx t f.2 u' hu
def inV(x:V)(xs:List V):Bool:=xs.any λy=>uv y x
def O7(K:aJ)(neg:Bool):R2:=λx y H Q=>∃p xs,y=.ref p/\(bO K H p xs\/cW K H p xs)/\qQ x=ao/\xs.all qQ=ao/\Q (.bl (if neg then !inV x xs else inV x xs)) H
theorem ajH:cM X (fj .In) (O7 X.K aF):=by
 intro pins s σ H x y v u Q I rx ry h
 obtain⟨p,xs,rfl,hq,fx,fs,q⟩:=h
 cases ry;rcases hq with hq|hq
 .obtain⟨its,r,pl,hz⟩:=I.list hq
  refine SeqAt.in_listAt (pO x) pl.isList (λw hw=>GJ rx fx r fs w (by simpa using hw)) ⟨.bl _,H,I,rfl,?_⟩;rw[show its.toArray.any (pO x)=its.any (pO x) by simp,Hf r fs];exact q
 .obtain⟨its,r,pl,hz⟩:=I.tuple hq
  refine SeqAt.in_tupleAt (pO x) pl (λw hw=>GJ rx fx r fs w (by simpa using hw)) ⟨.bl _,H,I,rfl,?_⟩;rw[show its.toArray.any (pO x)=its.any (pO x) by simp,Hf r fs];exact q
theorem aif:cM X (fj .NotIn) (O7 X.K ao):=by
 intro pins s σ H x y v u Q I rx ry h
 obtain⟨p,xs,rfl,hq,fx,fs,q⟩:=h
 cases ry;rcases hq with hq|hq
 .obtain⟨its,r,pl,hz⟩:=I.list hq
  refine SeqAt.notIn_listAt (pO x) pl.isList (λw hw=>GJ rx fx r fs w (by simpa using hw)) ⟨.bl _,H,I,rfl,?_⟩;rw[show its.toArray.any (pO x)=its.any (pO x) by simp,Hf r fs];exact q
 .obtain⟨its,r,pl,hz⟩:=I.tuple hq
  refine SeqAt.notIn_tupleAt (pO x) pl (λw hw=>GJ rx fx r fs w (by simpa using hw)) ⟨.bl _,H,I,rfl,?_⟩;rw[show its.toArray.any (pO x)=its.any (pO x) by simp,Hf r fs];exact q
theorem ZZ:gQ X (.builtin "len") (λxs H Q=>∃p ys,xs=[.ref p]/\(bO X.K H p ys\/cW X.K H p ys)/\Q (.int ys.length) H):=by
 intro pins s σ H xs us Q I r h
 obtain⟨p,ys,rfl,hq,q⟩:=h
 obtain⟨u,rfl,rx⟩:=vals1 r
 cases rx;have hn:=Ag;rcases hq with hq|hq
 .obtain⟨its,r',pl,hz⟩:=I.list hq
  have hlen:=r'.length;exact Calls.call_len_list pl.isList (by simp only[gH]<;>lia) ⟨.int ys.length,H,I.tok _,⟨s.toks+1,by rw[gH,hlen]⟩,q⟩
 .obtain⟨its,r',pl,hz⟩:=I.tuple hq
  have hlen:=r'.length;exact len_tuple pl (by simp only[gH]<;>lia) ⟨.int ys.length,H,I.tok _,⟨s.toks+1,by rw[gH,hlen]⟩,q⟩
theorem aih:gQ X (.builtin "len") (λxs H Q=>∃z,xs=[.str z]/\z.length<=bW/\Q (.int z.length) H):=by
 intro pins s σ H xs us Q I r h
 obtain⟨z,rfl,hz,q⟩:=h
 obtain⟨u,rfl,t,rfl⟩:=vals1 r
 have hn:=Ag;exact len_str (by lia) ⟨.int z.length,H,I.tok _,⟨_,rfl⟩,q⟩
theorem gQ.or{f:Value}{r r':List V->Hp->VK->Prop}(h:gQ X f r)(h':gQ X f r'):gQ X f (λxs H Q=>r xs H Q\/r' xs H Q):=by
 intro pins s σ H xs us Q I rs q;rcases q with q|q
 .exact h pins s σ H xs us Q I rs q
 .exact h' pins s σ H xs us Q I rs q
theorem aii:gQ X (.type "list") (λxs H Q=>∃p ys,xs=[.ref p]/\(bO X.K H p ys\/cW X.K H p ys)/\∀l,H l=aj->Q (.ref l) (upd H l (.lst ys))):=by
 intro pins s σ H xs us Q I r h
 obtain⟨p,ys,rfl,hq,q⟩:=h
 obtain⟨u,rfl,rx⟩:=vals1 r
 cases rx;have fin:∀(its:List Value),Vals ys its->ys.length<=bW->∀(h':bz)(c':Nat),(∀b o',s.heap.get? b=aa o'->h'.get? b=aa o')->
   h'.get? s.heap.objs.size=aa {cls:=.type "list",dict:=aj,data:=.seq its.toArray c',slots:=#[]}->EP X pins σ Q (.ref s.heap.objs.size) {s with heap:=h'}:=λits r' hz h' c' kp e=>
  ⟨.ref s.heap.objs.size,_,I.laid (t':=s.toks) kp (bU _) (show fB X.prog X.w _ h' _ (.lst ys) from⟨hz,its,c',r',e⟩),rfl,q _ (I.hok.fresh (bU _))⟩
 rcases hq with hq|hq
 .obtain⟨its,r',pl,hz⟩:=I.list hq
  have hlen:=r'.length
  obtain⟨o,ho,hc,n,hd⟩:=pl.isList
  exact call_list_seq p (.inl rfl) ho hc hd (λh' c' kp e=>fin its r' hz h' c' kp e) (by simp only[gH]<;>lia)
 .obtain⟨its,r',pl,hz⟩:=I.tuple hq
  have hlen:=r'.length
  obtain⟨o,ho,hc,n,hd⟩:=pl
  exact call_list_seq p (.inr rfl) ho hc hd (λh' c' kp e=>fin its r' hz h' c' kp e) (by simp only[gH]<;>lia)
theorem J1:gQ X (.type "tuple") (λxs H Q=>∃p ys,xs=[.ref p]/\((bO X.K H p ys/\∀l,H l=aj->Q (.ref l) (upd H l (.tup ys)))\/(cW X.K H p ys/\Q (.ref p) H))):=by
 intro pins s σ H xs us Q I r h
 obtain⟨p,ys,rfl,h⟩:=h
 obtain⟨u,rfl,rx⟩:=vals1 r
 cases rx;rcases h with⟨hq,q⟩|⟨hq,q⟩
 .obtain⟨its,r',pl,hz⟩:=I.list hq
  have hlen:=r'.length;refine call_tuple_list pl.isList (λh' kp=>?_) (by simp only[gH]<;>lia);have I1:Inv X pins σ H {s with heap:=h'}:=I.kept (t':=s.toks) kp;have I2:Inv X pins σ (upd H h'.objs.size (.tup ys)) {s with heap:=h'.push {cls:=.type "tuple",data:=.seq its.toArray}}:=
   I1.laid (t':=s.toks) (λb o e=>cJ _ e) (bU _) (show fB X.prog X.w _ _ _ (.tup ys) from⟨hz,its,r',IsTup.new _ _⟩)
  exact⟨.ref h'.objs.size,_,I2,rfl,q _ (I1.hok.fresh (bU _))⟩
 .obtain⟨its,r',pl,hz⟩:=I.tuple hq
  exact call_tuple_same pl ⟨.ref p,H,I,rfl,q⟩
def tyV(K:aJ)(T:String)(x:V)(H:Hp):Prop:=match x with
 |.str _=>T="str"
 |.int _=>T="int"
 |.ref p=>(T="list"/\∃xs,bO K H p xs)\/(T="tuple"/\∃o,K.lookup p=aa o/\o.cls=.type "tuple"/\o.dict=aj)\/
   (T="dict"/\((∃kvs,H p=aa (.dK kvs))\/∃kvs,H p=aa (.dT kvs)))\/(T="set"/\∃S n,H p=aa (.set S n))
 |_=>False
theorem anZ{pins:List (aq×Obj)}{σ:St}{H:Hp}{s:aB}{T:String}{x:V}{v:Value}(I:Inv X pins σ H s)(r:RelV x v)(ty:tyV X.K T x H):
  s.TypeIs v T/\∀a,v=.ref a->∃ob,s.heap.get? a=aa ob/\ob.dict=aj:=by
 cases x with
 |str z=>
  obtain⟨t,rfl⟩:=r
  cases(show T="str" from ty)
  exact⟨aar s z t,λ_ e=>nomatch e⟩
 |int i=>
  obtain⟨t,rfl⟩:=r
  cases(show T="int" from ty)
  exact⟨Dd s i t,λ_ e=>nomatch e⟩
 |ref p=>
  cases r;rcases ty with⟨rfl,xs,hq⟩|⟨rfl,o,hk,hc,hd⟩|⟨rfl,hk⟩|⟨rfl,S,n,hk⟩
  .obtain⟨its,_,pl,_⟩:=I.list hq
   refine⟨pl.isList.typeIs,λa e=>?_⟩
   cases e
   obtain⟨o,n,e,c,hd,_⟩:=pl
   exact⟨o,e,hd⟩
  .refine⟨⟨o,I.jk p o hk,hc⟩,λa e=>?_⟩
   cases e
   exact⟨o,I.jk _ o hk,hd⟩
  .have z:∃o,s.heap.get? p=aa o/\o.ExactDict:=by
    rcases hk with⟨kvs,hk⟩|⟨kvs,hk⟩
    .obtain⟨_,_,_,_,o,_,_,e,ex,_⟩:=I.hok p _ hk
     exact⟨o,e,ex⟩
    .obtain⟨_,_,_,_,o,_,_,e,ex,_⟩:=I.hok p _ hk
     exact⟨o,e,ex⟩
   obtain⟨o,e,ex⟩:=z
   refine⟨⟨o,e,ex.1⟩,λa e2=>?_⟩
   cases e2
   exact⟨o,e,ex.2.1⟩
  .obtain⟨o,_,_,_,e,ex,_⟩:=I.hok p _ hk
   refine⟨⟨o,e,ex.1⟩,λa e2=>?_⟩
   cases e2
   exact⟨o,e,ex.2.1⟩
 |_=>exact tH ty
def tBM(K:aJ)(T:String)(r:V->List V->Hp->VK->Prop)(to:TE)(t:TA):TE:=λσ H Q=>to σ H λx H1=>tyV K T x H1/\t σ H1 λxs H2=>r x xs H2 Q
variable{o e:Expr}{es:List Expr}{to:TE}{t:TA}{name:Str}{apos cpos:Pos}{T id:String}{r:V->List V->Hp->VK->Prop}
theorem NQ(pa:PlainAttrs T)(slot:Slot T name id)(hty:typeOf (.builtin id)=pure (.type "method_descriptor"))(hm:Ew X id r)(ho:PE X o to)(ha:PA X (e::es) t)
  (hbase:xT o name X.env (eval o X.env)=eval o X.env:=by rfl)
  (hfew:((f9 cpos (bC (e::es) X.env)).all (λx=>!x.1)&&(Dj cpos (CT [] X.env)).all (λx=>x.1.isSome)
   &&decide ((e::es).length+([]:List pY).length+(if([]:List pY).isEmpty then 0 else 1)<30))=ao:=by rfl)
  (hline:(apos.endLine==cpos.line)=ao:=by rfl)(hs:bC (e::es) X.env=(aF,eval e X.env)::bC es X.env:=by rfl)(hplain:(f9 cpos (bC es X.env)).any (·.1)=aF:=by rfl):
  PE X (.Call (.Attribute o name apos) (e::es) [] cpos) (tBM X.K T r to t):=by
 intro pins s σ H Q I h;refine wpAny_Call_method_late hbase hfew hline rfl (bH (ho pins s σ H _ I h) λv s1 aN=>?_)
 obtain⟨x,H1,I1,r1,ty,q1⟩:=aN
 obtain⟨h1,h2⟩:=anZ I1 r1 ty
 refine⟨T,id,pa,slot,hty,h1,h2,?_⟩
 have hA:=ha cpos pins s1 σ H1 _ I1 q1;rw[hs] at hA⊢;refine agq (by show(aF||(f9 cpos (bC es X.env)).any (·.1))=aF;rw[hplain]<;>rfl) (agG ?_);exact bH hA λus s2 ⟨vs,H2,I2,r2,q2⟩=>hm pins s2 σ H2 x vs v us Q I2 r1 r2 q2
end
def wW(X:Cx)(id:String)(r:V->List V->Hp->VK->Prop):Prop:=
 ∀(pins:List (aq×Obj))(s:aB)(σ:St)(H:Hp)(x:V)(xs:List V)(v:Value)(us:List Value)(Q:VK),Inv X pins σ H s->RelV x v->Vals xs us->r x xs H Q->
  aQ (model X.prog X.w) X.A (call (.builtin id) (v::us)) (EP X pins σ Q) X.xe s
theorem Vals.one:∀{x:V}{us:List Value},Vals [x] us->∃u,us=[u]/\RelV x u
 |_,_,.cons r .nil=>⟨_,rfl,r⟩
theorem Vals.two:∀{x y:V}{us:List Value},Vals [x,y] us->∃u v,us=[u,v]/\RelV x u/\RelV y v
 |_,_,_,.cons r (.cons q .nil)=>⟨_,_,rfl,r,q⟩
theorem Vals.eraseIdx:∀{xs:List V}{us:List Value}(i:Nat),Vals xs us->Vals (xs.eraseIdx i) (us.eraseIdx i)
 |_,_,_,.nil=>.nil
 |_,_,0,.cons _ t=>t
 |_,_,i+1,.cons r t=>.cons r (Vals.eraseIdx i t)
theorem Vals.reverse{xs:List V}{us:List Value}(h:Vals xs us):Vals xs.reverse us.reverse:=by
 induction h with
 |nil=>exact .nil
 |cons r t ih=>rw[Ql,Ql];exact Vals.append ih (.cons r .nil)
theorem Vals.rep{xs:List V}{us:List Value}(h:Vals xs us):∀k:Nat,Vals (dI k xs).flatten (dI k us).flatten
 |0=>.nil
 |k+1=>by
  rw[uH,uH,Ft,Ft];exact Vals.append h (Vals.rep h k)
theorem aaX{α:Type}:∀(l:List α)(i:Nat),(l.eraseIdx i).length<=l.length
 |[],_=>bU _
 |_::_,0=>qK _
 |_::r,i+1=>Qq (aaX r i)
theorem foldl_rep(its:List Value):∀(k:Nat)(acc:List Value),
  aas (λx1 x2=>x1++x2) acc.toArray (dI k its.toArray)=(acc++(dI k its).flatten).toArray
 |0,acc=>by simp
 |k+1,acc=>by
  have e:acc.toArray++its.toArray=(acc++its).toArray:=by simp
  have e2:(acc++its)++(dI k its).flatten=acc++(dI (k+1) its).flatten:=by
   rw[uH,Ft,lA]
  rw[<-e2,<-foldl_rep its k (acc++its),<-e,uH,vC]
section
variable{X:Cx}{pins:List (aq×Obj)}{σ:St}{H:Hp}{s:aB}{l b:aq}{xs ys zs:List V}
theorem Inv.aeZ{its its':List Value}{n:Nat}{f:Array Value->Array Value}{t':Nat}(I:Inv X pins σ H s)(hH:H l=aa (.lst xs))
  (e:s.heap.get? l=aa {cls:=.type "list",data:=.seq its.toArray n})(hf:f its.toArray=its'.toArray)(hv:Vals ys its')(hz:ys.length<=bW):
  Inv X pins σ (upd H l (.lst ys)) {s with heap:=s.heap.update l (nA f),toks:=t'}:=by
 have q:=PySem.IsL.update e f;rw[hf] at q;refine I.write (x:=l) (e:=l) (by rw[hH];exact trivial) (.inl rfl) (λb' u hb hu=>(uG s.heap (nA f) (lO hb)).trans hu) ⟨_,q⟩ ?_
 exact⟨hz,its',_,hv,q⟩
theorem Inv.ae0{its:List Value}{t':Nat}(I:Inv X pins σ H s)(hv:Vals ys its)(hz:ys.length<=bW):
  Inv X pins σ (upd H s.heap.objs.size (.lst ys)) {s with heap:=s.heap.push {cls:=.type "list",data:=.seq its.toArray},toks:=t'}:=
 I.laid (λ_ _ q=>cJ _ q) (bU _) ⟨hz,its,0,hv,iI _ rfl⟩
theorem Inv.fresh(I:Inv X pins σ H s):H s.heap.objs.size=aj:=I.hok.fresh (bU _)
theorem Inv.Io(I:Inv X pins σ H s)(hH:H l=aa (.lst xs)):xs.length<=bW/\∃(its:List Value)(n:Nat),Vals xs its/\xs.length=its.length/\s.heap.get? l=aa {cls:=.type "list",data:=.seq its.toArray n}:=by
 obtain⟨z,its,n,r,e⟩:=I.hok l _ hH
 exact⟨z,its,n,r,r.length,e⟩
theorem akH{n:Nat}(h:n<=bW):XR n=aF:=by
 unfold XR;exact dW (by lia)
end
section
variable{X:Cx}
def ama:V->List V->Hp->VK->Prop:=λx vs H Q=>∃l xs y,x=.ref l/\vs=[y]/\H l=aa (.lst xs)/\xs.length<bW/\Q .non (upd H l (.lst (xs++[y])))
theorem Tc:wW X "list.append" ama:=by
 intro pins s σ H x vs v us Q I rx rv h
 obtain⟨l,xs,y,rfl,rfl,hH,hz,q⟩:=h
 cases rx
 obtain⟨u,rfl,ru⟩:=rv.one
 obtain⟨z,its,n,r,hl,e⟩:=I.Io hH
 refine zX Yp ⟨_,e,rfl⟩ F.entry_list_append (F.args_list_append_2 _ _) (PySem.list_append l its.toArray n u (by rw[gH];lia)) ⟨e,?_⟩
 refine⟨.non,_,I.aeZ (its':=its++[u]) hH e (by simp) (r.append (.cons ru .nil)) ?_,rfl,q⟩
 rw[fU,List.length_singleton];lia
def an0:V->List V->Hp->VK->Prop:=λx vs H Q=>∃l xs i k y,x=.ref l/\vs=[.int i]/\H l=aa (.lst xs)/\-(2^63)<=i/\i<2^63/\S9 i xs.length=aa k/\xs[k]?=aa y/\Q y (upd H l (.lst (xs.eraseIdx k)))
theorem akI:wW X "list.pop" an0:=by
 intro pins s σ H x vs v us Q I rx rv h
 obtain⟨l,xs,i,k,y,rfl,rfl,hH,h1,h2,hk,hy,q⟩:=h
 cases rx
 obtain⟨u,rfl,ru⟩:=rv.one
 obtain⟨t,rfl⟩:=ru
 obtain⟨z,its,n,r,hl,e⟩:=I.Io hH
 obtain⟨w,hw,rw'⟩:=r.get hy
 refine zX ahF ⟨_,e,rfl⟩ F.entry_list_pop (F.args_list_pop_2 _ _)
  (MeetsSeq.list_pop_at l its.toArray n i t k w (fitsIndex_both h1 h2) (by rw[gH,<-hl];exact hk) (by rw[<-Fe];exact hw) (by rw[gH];lia)) ⟨e,?_⟩
 refine⟨y,_,I.aeZ (its':=its.eraseIdx k) hH e ?_ (r.eraseIdx k) ?_,rw',q⟩
 .show its.toArray.eraseIdxIfInBounds k=(its.eraseIdx k).toArray;rw[List.eraseIdxIfInBounds_toArray]
 .have:=aaX xs k;lia
def ae1:R2:=λx y H Q=>∃l b xs zs,x=.ref l/\y=.ref b/\H l=aa (.lst xs)/\H b=aa (.lst zs)/\xs.length+zs.length<=bW/\∀p,H p=aj->Q (.ref p) (upd H p (.lst (xs++zs)))
theorem an1:cM X (oF .Add) ae1:=by
 intro pins s σ H x y v u Q I rx ry h
 obtain⟨l,b,xs,zs,rfl,rfl,hH,hB,hz,q⟩:=h
 cases rx;cases ry
 obtain⟨z,its,n,r,hl,e⟩:=I.Io hH
 obtain⟨z2,its2,n2,r2,hl2,e2⟩:=I.Io hB
 refine PySem.P.add_list e e2 ?_ (by rw[gH,gH];lia);have ea:its.toArray++its2.toArray=(its++its2).toArray:=by simp
 rw[ea]
 exact⟨.ref _,_,I.ae0 (t':=s.toks) (r.append r2) (by rw[fU];lia),rfl,q _ I.fresh⟩
def ae2:R2:=λx y H Q=>∃l k xs,x=.ref l/\y=.int k/\H l=aa (.lst xs)/\-(2^63)<=k/\k<2^63/\xs.length*k.toNat<=bW/\
 ∀p,H p=aj->Q (.ref p) (upd H p (.lst (dI k.toNat xs).flatten))
theorem len_rep{α:Type}(xs:List α)(k:Nat):(dI k xs).flatten.length=k*xs.length:=by
 induction k with
 |zero=>simp
 |succ k ih=>rw[uH,Ft,fU,ih,Nat.succ_mul,Nat.add_comm]
theorem an2:cM X (oF .Mult) ae2:=by
 intro pins s σ H x y v u Q I rx ry h
 obtain⟨l,k,xs,rfl,rfl,hH,h1,h2,hz,q⟩:=h
 cases rx
 obtain⟨t,rfl⟩:=ry
 obtain⟨z,its,n,r,hl,e⟩:=I.Io hH
 have hlen:its.toArray.size*k.toNat<=bW:=by rw[gH,<-hl];exact hz
 have hcap:¬its.toArray.size*k.toNat>(2^63-1) / 8:=by
  have:(bW:Nat)<=(2^63-1) / 8:=by decide
  lia
 have hfit:¬(!Builtin.List.listFitsIndex k)=ao:=by
  rw[fitsIndex_both h1 h2];exact gw
 have apb:¬XR (its.toArray.size*k.toNat)=ao:=by
  rw[akH hlen];exact gw
 have hnew:aas (λx1 x2=>x1++x2) #[] (dI (if its.toArray.isEmpty=ao then 0 else k.toNat) its.toArray)=(dI k.toNat its).flatten.toArray:=by
  have f0:∀m:Nat,aas (λx1 x2=>x1++x2) #[] (dI m its.toArray)=(dI m its).flatten.toArray:=λm=>by
   have:=foldl_rep its m [];rw[jy] at this;exact this
  rw[f0];cases its with
  |nil=>simp
  |cons a r'=>rw[bf (by simp)]
 refine XM (T:="list") (U:="int") (by decide) ⟨_,e,rfl⟩ (λs'=>Dd s' k t) noFill_list_mul Y5 FJ repeat_list F.slot_int_index.lookup
  (zX FJ (Dd s k t) YK (Yx _ _) (int___rmul___int_list k t l its.toArray n)
   ⟨e,rfl,⟨_,e,rfl⟩,zX F.slot_list_mul ⟨_,e,rfl⟩ F.entry_list_mul (F.args_list_mul_2 _ _) (AutoListH.list___mul___list_int_3 l its.toArray n k t hfit hcap apb) ⟨e,?_⟩⟩)
 rw[hnew]
 exact⟨.ref _,_,I.ae0 (t':=s.toks) (r.rep k.toNat) (by rw[len_rep,Nat.mul_comm];exact hz),rfl,q _ I.fresh⟩
end
section
variable{prog:bD}{w:bB}{A:cD}{E:Value->aB->Prop}{s:aB}
set_option maxRecDepth 100000 in
end
section
variable{X:Cx}
end
section
variable{κ:Type}[DecidableEq κ]
def oM(kvs:List (κ×V))(k:κ):Option V:=(kvs.find? λkv=>decide (kv.1=k)).map (·.2)
def putK(kvs:List (κ×V))(k:κ)(v:V):List (κ×V):=
 if(kvs.any λkv=>decide (kv.1=k))=ao then kvs.map (λkv=>if kv.1=k then(kv.1,v) else kv) else kvs++[(k,v)]
def aev(kvs:List (κ×V))(k:κ):List (κ×V):=kvs.filter λkv=>decide (kv.1≠k)
theorem Ls{p:κ×V}{r:List (κ×V)}{k:κ}(e:p.1=k):oM (p::r) k=aa p.2:=by simp[oM,oY,e]
theorem Lw{p:κ×V}{r:List (κ×V)}{k:κ}(e:¬p.1=k):oM (p::r) k=oM r k:=by simp[oM,oY,e]
theorem abz(k:κ):∀kvs:List (κ×V),(kvs.any λkv=>decide (kv.1=k))=(oM kvs k).isSome
 |[]=>rfl
 |p::r=>by
  rw[J0];by_cases e:p.1=k
  .simp only[Ls e,cY e,Bool.true_or,Fj]
  .rw[Lw e,dW e,Bool.false_or];exact abz k r
theorem Kw(kvs:List (κ×V))(k:κ)(v:V):(putK kvs k v).length<=kvs.length+1:=by
 unfold putK;split
 .rw[bw];lia
 .rw[fU,cA,FP];lia
theorem qZ.GC{o:Option V}{u:Option Value}(r:qZ o u):o.isSome=u.isSome:=by
 cases o with
 |none=>cases u with
  |none=>rfl
  |some _=>exact(show False from r).elim
 |some _=>cases u with
  |none=>exact(show False from r).elim
  |some _=>rfl
theorem qZ.getD{o:Option V}{u:Option Value}{d:V}{d':Value}(r:qZ o u)(rd:RelV d d'):RelV (o.getD d) (u.getD d'):=by
 cases o with
 |none=>cases u with
  |none=>exact rd
  |some _=>exact(show False from r).elim
 |some _=>cases u with
  |none=>exact(show False from r).elim
  |some _=>exact r
theorem KV.val{kvs:List (κ×V)}{vs:List (κ×Value)}(r:KV kvs vs)(k:κ):qZ (oM kvs k) (Dp vs k):=by
 unfold KV at r;induction r with
 |nil=>exact nu
 |@cons p q ps qs h t ih=>
  obtain⟨h1,h2⟩:=h
  by_cases e:p.1=k
  .have e':q.1=k:=h1.symm.trans e;have b:Dp (q::qs) k=aa q.2:=by simp[Dp,oY,e']
   rw[Ls e,b];exact h2
  .have e':¬q.1=k:=λz=>e (h1.trans z)
   have b:Dp (q::qs) k=Dp qs k:=by simp[Dp,oY,e']
   rw[Lw e,b];exact ih
theorem KV.any{kvs:List (κ×V)}{vs:List (κ×Value)}(r:KV kvs vs)(k:κ):(kvs.any λkv=>decide (kv.1=k))=vs.any λkv=>decide (kv.1=k):=by
 unfold KV at r;induction r with
 |nil=>rfl
 |cons h t ih=>rw[J0,J0,ih,h.1]
theorem KV.repl{kvs:List (κ×V)}{vs:List (κ×Value)}(r:KV kvs vs)(k:κ){y:V}{u:Value}(ry:RelV y u):
  KV (kvs.map λkv=>if kv.1=k then(kv.1,y) else kv) (vs.map λkv=>if kv.1=k then(kv.1,u) else kv):=by
 unfold KV at r⊢;induction r with
 |nil=>exact .nil
 |@cons p q ps qs h t ih=>
  rw[cj,cj];refine .cons ?_ ih
  obtain⟨h1,h2⟩:=h
  by_cases e:p.1=k
  .rw[aV e,aV (h1.symm.trans e)];exact⟨h1,ry⟩
  .rw[bf e,bf (λz=>e (h1.trans z))];exact⟨h1,h2⟩
theorem KV.put{kvs:List (κ×V)}{vs:List (κ×Value)}(r:KV kvs vs)(k:κ){y:V}{u:Value}(ry:RelV y u):KV (putK kvs k y) (stored vs k u):=by
 unfold putK stored;rw[r.any k];by_cases e:(vs.any λkv=>decide (kv.1=k))=ao
 .rw[aV e,aV e];exact r.repl k ry
 .rw[bf e,bf e];exact Paired.snoc r ⟨rfl,ry⟩
theorem KV.drop{kvs:List (κ×V)}{vs:List (κ×Value)}(r:KV kvs vs)(k:κ):KV (aev kvs k) (without vs k):=by
 unfold KV at r⊢;unfold aev without;induction r with
 |nil=>exact .nil
 |@cons p q ps qs h t ih=>
  obtain⟨h1,h2⟩:=h
  rw[JN,JN];by_cases e:p.1=k
  .have a:¬decide (p.1≠k)=ao:=by simp[e]
   have b:¬decide (q.1≠k)=ao:=by simp[h1.symm.trans e]
   rw[bf a,bf b];exact ih
  .have e':¬q.1=k:=λz=>e (h1.trans z)
   have a:decide (p.1≠k)=ao:=by simp[e]
   have b:decide (q.1≠k)=ao:=by simp[e']
   rw[aV a,aV b];exact .cons ⟨h1,h2⟩ ih
theorem KV.keys{kvs:List (κ×V)}{vs:List (κ×Value)}(r:KV kvs vs):kvs.map (·.1)=vs.map (·.1):=by
 unfold KV at r;induction r with
 |nil=>rfl
 |cons h t ih=>rw[cj,cj,ih,h.1]
theorem KV.length{kvs:List (κ×V)}{vs:List (κ×Value)}(r:KV kvs vs):kvs.length=vs.length:=Paired.length r
end
theorem yz{P:bD}{w:bB}{k:Key}{u:Value}(r:RelV (kV k) u):(jH P w).is k u=ao:=by
 cases k with
 |inl i=>obtain⟨t,e⟩:=(show ∃t,u=Ld i t from r);subst e;exact aiD P w i t
 |inr x=>obtain⟨t,e⟩:=(show ∃t,u=Le x t from r);subst e;exact aiE P w x t
theorem an3{a b:Key}(e:kV a=kV b):a=b:=by
 cases a with
 |inl i=>cases b with
  |inl j=>have e':V.int i=V.int j:=e;injection e' with e';rw[e']
  |inr y=>exact nomatch(show V.int i=V.str y from e)
 |inr x=>cases b with
  |inl j=>exact nomatch(show V.str x=V.int j from e)
  |inr y=>have e':V.str x=V.str y:=e;injection e' with e';rw[e']
theorem acG:∀{a b:List Key},a.map kV=b.map kV->a=b
 |[],[],_=>rfl
 |[],_::_,e=>by simp at e
 |_::_,[],e=>by simp at e
 |x::xs,y::ys,e=>by
  rw[cj,cj] at e;injection e with e1 e2
  rw[an3 e1,acG e2]
theorem aaY{P:bD}{w:bB}:∀{ks:List Key}{us:List Value},Vals (ks.map kV) us->ItemsAre (jH P w) ks us
 |[],_,r=>by rw[oE] at r;cases r;exact .nil
 |k::ks,_,r=>by
  rw[cj] at r;cases r with
  |cons h t=>exact .cons (yz h) (aaY t)
abbrev KT(H:Hp):List (List Key×V)->List (List Key×aq×Value)->Prop:=Paired λp q=>p.1=q.1/\H q.2.1=aa (.tup (p.1.map kV))/\RelV p.2 q.2.2
theorem KT.val{H:Hp}{kvs:List (List Key×V)}{xs:List (List Key×aq×Value)}(r:KT H kvs xs)(k:List Key):qZ (oM kvs k) ((yC xs k).map (·.2)):=by
 induction r with
 |nil=>exact nu
 |@cons p q ps qs h t ih=>
  obtain⟨h1,_,h2⟩:=h
  by_cases e:p.1=k
  .have e':q.1=k:=h1.symm.trans e;have b:yC (q::qs) k=aa q.2:=by simp[yC,oY,e']
   rw[Ls e,b];exact h2
  .have e':¬q.1=k:=λz=>e (h1.trans z)
   have b:yC (q::qs) k=yC qs k:=by simp[yC,oY,e']
   rw[Lw e,b];exact ih
theorem KT.repl{H:Hp}{kvs:List (List Key×V)}{xs:List (List Key×aq×Value)}(r:KT H kvs xs)(k:List Key){y:V}{u:Value}(ry:RelV y u):
  KT H (kvs.map λkv=>if kv.1=k then(kv.1,y) else kv) (xs.map (putAt k u)):=by
 induction r with
 |nil=>exact .nil
 |@cons p q ps qs h t ih=>
  rw[cj,cj];refine .cons ?_ ih
  obtain⟨h1,h2,h3⟩:=h
  unfold putAt;by_cases e:p.1=k
  .rw[aV e,aV (h1.symm.trans e)];exact⟨h1,h2,ry⟩
  .rw[bf e,bf (λz=>e (h1.trans z))];exact⟨h1,h2,h3⟩
theorem KT.put{H:Hp}{kvs:List (List Key×V)}{xs:List (List Key×aq×Value)}(r:KT H kvs xs)(k:List Key){b:aq}{y:V}{u:Value}(hb:H b=aa (.tup (k.map kV)))(ry:RelV y u):
  KT H (putK kvs k y) (storedH xs k b u):=by
 have e:(kvs.any λkv=>decide (kv.1=k))=(yC xs k).isSome:=by
  rw[abz,(r.val k).GC,Ck]
 unfold putK storedH;rw[e];by_cases q:(yC xs k).isSome=ao
 .rw[aV q,aV q];exact r.repl k ry
 .rw[bf q,bf q];exact Paired.snoc r ⟨rfl,hb,ry⟩
theorem KT.keeps{H H':Hp}{kvs:List (List Key×V)}{xs:List (List Key×aq×Value)}(r:KT H kvs xs)(ht:∀b ys,H b=aa (.tup ys)->H' b=aa (.tup ys)):KT H' kvs xs:=
 Paired.WD r λ_ _ z=>⟨z.1,ht _ _ z.2.1,z.2.2⟩
section
variable{P:bD}{w:bB}{H:Hp}{h:bz}{a:aq}
theorem aew{u:HO}(ok:iU P w H h)(e:Rd H a u):fB P w H h a u:=e.ok ok
theorem yD{kvs:List (Key×V)}(ok:iU P w H h)(e:Rd H a (.dK kvs)):kvs.length<=bW/\(a==rK)=aF/\∃vs,KV kvs vs/\h.DictOf (jH P w) a vs:=
 show fB P w H h a (.dK kvs) from aew ok e
theorem NZ{kvs:List (Key×V)}(ok:iU P w H h)(e:H a=aa (.dK kvs)):kvs.length<=bW/\(a==rK)=aF/\∃vs,KV kvs vs/\h.DictOf (jH P w) a vs:=yD ok (.inl e)
theorem DK{ks:List Key}(ok:iU P w H h)(e:H a=aa (.tup (ks.map kV))):(Gz (jH P w)).is h ks a:=by
 obtain⟨_,its,r,o,h1,h2,n,h3⟩:=(show fB P w H h a (.tup (ks.map kV)) from ok a _ e)
 exact⟨o,its.toArray,n,h1,h2,h3,by simpa using aaY r⟩
theorem Aq{kvs:List (List Key×V)}(ok:iU P w H h)(e:Rd H a (.dT kvs)):kvs.length<=bW/\(a==rK)=aF/\
  ∃xs,KT H kvs xs/\h.DictOfH (Gz (jH P w)) a xs:=by
 obtain⟨z,y,xs,r,o,es,ep,h1,h2,h3,h4,h5⟩:=(show fB P w H h a (.dT kvs) from aew ok e)
 refine⟨z,y,xs,r,o,es,ep,h1,h2,h3,h4,λx hx=>?_,h5⟩
 have all:∀{l:List (List Key×V)}{m:List (List Key×aq×Value)},KT H l m->∀x∈m,(Gz (jH P w)).is h x.1 x.2.1:=by
  intro l m q;induction q with
  |nil=>intro x hx;exact nomatch hx
  |@cons p q ps qs hq t ih=>
   intro x hx;rcases bY.mp hx with e|hx
   .subst e;exact DK ok (by rw[<-hq.1];exact hq.2.1)
   .exact ih x hx
 exact all r x hx
theorem aex{kvs:List (List Key×V)}(ok:iU P w H h)(e:H a=aa (.dT kvs)):kvs.length<=bW/\(a==rK)=aF/\
  ∃xs,KT H kvs xs/\h.DictOfH (Gz (jH P w)) a xs:=Aq ok (.inl e)
end
def nO(H:Hp)(a:aq)(y:V)(r:Option V):Prop:=
 (∃kvs k,Rd H a (.dK kvs)/\y=kV k/\r=oM kvs k)\/∃kvs k b,Rd H a (.dT kvs)/\y=.ref b/\H b=aa (.tup (k.map kV))/\r=oM kvs k
def uf(H:Hp)(a:aq)(y v:V)(H':Hp):Prop:=
 (∃kvs k,H a=aa (.dK kvs)/\y=kV k/\kvs.length<bW/\H'=upd H a (.dK (putK kvs k v)))\/
 ∃kvs k b,H a=aa (.dT kvs)/\y=.ref b/\H b=aa (.tup (k.map kV))/\kvs.length<bW/\H'=upd H a (.dT (putK kvs k v))
theorem nO.k{H:Hp}{a:aq}{kvs:List (Key×V)}{k:Key}(e:H a=aa (.dK kvs)):nO H a (kV k) (oM kvs k):=.inl ⟨kvs,k,.inl e,rfl,rfl⟩
theorem nO.t{H:Hp}{a b:aq}{kvs:List (List Key×V)}{k:List Key}(e:H a=aa (.dT kvs))(eb:H b=aa (.tup (k.map kV))):nO H a (.ref b) (oM kvs k):=.inr ⟨kvs,k,b,.inl e,rfl,eb,rfl⟩
theorem uf.k{H:Hp}{a:aq}{kvs:List (Key×V)}{k:Key}{v:V}(e:H a=aa (.dK kvs))(hl:kvs.length<bW):uf H a (kV k) v (upd H a (.dK (putK kvs k v))):=.inl ⟨kvs,k,e,rfl,hl,rfl⟩
theorem uf.t{H:Hp}{a b:aq}{kvs:List (List Key×V)}{k:List Key}{v:V}(e:H a=aa (.dT kvs))(eb:H b=aa (.tup (k.map kV)))(hl:kvs.length<bW):
  uf H a (.ref b) v (upd H a (.dT (putK kvs k v))):=.inr ⟨kvs,k,b,e,rfl,eb,hl,rfl⟩
section
variable{X:Cx}{pins:List (aq×Obj)}{σ:St}{H:Hp}{s:aB}{a:aq}{y v:V}{u r:Value}{o:Option V}{A:cD}{E:Value->aB->Prop}
theorem Inv.big(I:Inv X pins σ H s):rK<s.heap.objs.size:=by
 have h:iK<s.heap.objs.size:=(I.mod.glob.keeps I.bk).lt;exact Ke (by decide) h
theorem ajI{Q:Value->aB->Prop}(hu:A.units+1<fV)(I:Inv X pins σ H s)(g:nO H a y (aa v))(ry:RelV y u)(h:∀w' s',Inv X pins σ H s'->RelV v w'->Q w' s'):
  aQ (model X.prog X.w) A (ye (.ref a) u) Q E s:=by
 rcases g with⟨kvs,k,e,ey,l⟩|⟨kvs,k,b,e,ey,eb,l⟩
 .subst ey
  obtain⟨z,hd,vs,rel,dd⟩:=yD I.hok e
  obtain⟨w',hw,rw'⟩:=qZ.some_of (v:=v) (o:=Dp vs k) (by rw[l];exact rel.val k)
  exact wpAny_getItem_of (yz ry) dd.mapOf hw (h w' _ (I.tok _) rw')
 .subst ey
  cases(show u=di b from ry)
  obtain⟨z,hd,xs,rel,dd⟩:=Aq I.hok e
  obtain⟨w',hw,rw'⟩:=qZ.some_of (v:=v) (o:=(yC xs k).map (·.2)) (by rw[l];exact rel.val k)
  obtain⟨p,hp,hp2⟩:=Jy.mp hw
  refine wpAny_getItem_heap (JG hu) (DK I.hok eb) dd hp ?_;rw[hp2];exact h w' _ (I.tok _) rw'
theorem ae3{Q:Value->aB->Prop}(hu:A.units+1<fV)(I:Inv X pins σ H s)(g:nO H a y o)(ry:RelV y u)(h:∀s',Inv X pins σ H s'->Q (.bool o.isSome) s'):
  aQ (model X.prog X.w) A (fj .In u (.ref a)) Q E s:=by
 rcases g with⟨kvs,k,e,ey,l⟩|⟨kvs,k,b,e,ey,eb,l⟩
 .subst ey
  obtain⟨z,hd,vs,rel,dd⟩:=yD I.hok e
  refine wpAny_in_of (yz ry) hd dd.mapOf ?_;rw[<-(rel.val k).GC,<-l];exact h _ (I.tok _)
 .subst ey
  cases(show u=di b from ry)
  obtain⟨z,hd,xs,rel,dd⟩:=Aq I.hok e
  refine wpAny_in_heap (JG hu) (DK I.hok eb) hd dd ?_;have q:=(rel.val k).GC;rw[Ck] at q;rw[<-q,<-l];exact h _ (I.tok _)
theorem acH{Q:Value->aB->Prop}(hu:A.units+1<fV)(I:Inv X pins σ H s)(g:nO H a y o)(ry:RelV y u)(h:∀s',Inv X pins σ H s'->Q (.bool (!o.isSome)) s'):
  aQ (model X.prog X.w) A (fj .NotIn u (.ref a)) Q E s:=by
 rcases g with⟨kvs,k,e,ey,l⟩|⟨kvs,k,b,e,ey,eb,l⟩
 .subst ey
  obtain⟨z,hd,vs,rel,dd⟩:=yD I.hok e
  refine wpAny_notIn_of (yz ry) hd dd.mapOf ?_;rw[<-(rel.val k).GC,<-l];exact h _ (I.tok _)
 .subst ey
  cases(show u=di b from ry)
  obtain⟨z,hd,xs,rel,dd⟩:=Aq I.hok e
  refine wpAny_notIn_heap (JG hu) (DK I.hok eb) hd dd ?_;have q:=(rel.val k).GC;rw[Ck] at q;rw[<-q,<-l];exact h _ (I.tok _)
theorem Ab{h':bz}{t':Nat}{ob:HO}(I:Inv X pins σ H s)(mu:IV (H a))(hs:zQ a s.heap h')(he:∃q,h'.get? a=aa q)(new:fB X.prog X.w (upd H a ob) h' a ob):
  Inv X pins σ (upd H a ob) {s with heap:=h',toks:=t'}:=
 I.write (x:=a) (e:=a) mu (.inl rfl) (λb q hb z=>(hs.2 b hb).trans z) he new
theorem Nb{P:bD}{w:bB}{H':Hp}{h':bz}{kvs:List (Key×V)}{vs:List (Key×Value)}(z:kvs.length<=bW)(hd:(a==rK)=aF)(rel:KV kvs vs)(dd:h'.DictOf (jH P w) a vs):
  fB P w H' h' a (.dK kvs):=⟨z,hd,vs,rel,dd⟩
theorem aaZ{H':Hp}{Q:Unit->aB->Prop}(hu:A.units+1<fV)(I:Inv X pins σ H s)(g:uf H a y v H')(ry:RelV y u)(rv:RelV v r)(h:∀s',Inv X pins σ H' s'->Q () s'):
  aQ (model X.prog X.w) A (setItem (.ref a) u r) Q E s:=by
 rcases g with⟨kvs,k,e,ey,l,eH⟩|⟨kvs,k,b,e,ey,eb,l,eH⟩
 .subst ey eH
  obtain⟨z,hd,vs,rel,dd⟩:=NZ I.hok e
  have hz:vs.length<=bW:=by rw[<-rel.length];exact z
  have hl:(putK kvs k v).length<=bW:=by have:=Kw kvs k v;lia
  refine wpAny_setItem_pairs (hsz:=hz) (yz ry) dd λh' vm hs=>h _ ?_
  have he:∃q,h'.get? a=aa q:=let ⟨q,_,_,hq,_⟩:=vm;⟨q,hq⟩
  exact Ab I (by rw[e];exact nu) hs he (Nb hl hd (rel.put k rv) vm)
 .subst ey eH
  cases(show u=di b from ry)
  obtain⟨z,hd,xs,rel,dd⟩:=aex I.hok e
  have hz:xs.length<=bW:=by rw[<-Paired.length rel];exact z
  have hl:(putK kvs k v).length<=bW:=by have:=Kw kvs k v;lia
  refine wpAny_setItem_heap (hsz:=hz) (JG hu) (DK I.hok eb) dd λh' vm hs=>h _ ?_
  obtain⟨q,es,ep,hq,h2,h3,h4,_,h5⟩:=vm
  refine Ab I (by rw[e];exact nu) hs ⟨q,hq⟩ ⟨hl,hd,_,(rel.put k eb rv).keeps λc ys ec=>?_,q,es,ep,hq,h2,h3,h4,h5⟩;rw[cV (Wc ec e (λz=>nomatch z))];exact ec
end
section
variable{X:Cx}{pins:List (aq×Obj)}{σ:St}{H:Hp}{s:aB}{a:aq}{kvs:List (Key×V)}{k:Key}{u:Value}{A:cD}{E:Value->aB->Prop}
theorem apc{Q:Value->aB->Prop}(I:Inv X pins σ H s)(e:Rd H a (.dK kvs))(h:∀t s',Inv X pins σ H s'->Q (.int kvs.length t) s'):aQ (model X.prog X.w) A (call (.builtin "len") [.ref a]) Q E s:=by
 obtain⟨z,hd,vs,rel,dd⟩:=yD I.hok e
 refine call_len_dict hd dd (by rw[<-rel.length];rw[iM] at z;lia) ?_;rw[<-rel.length];exact h _ _ (I.tok _)
end
theorem aiF{X:Cx}{pins:List (aq×Obj)}{σ:St}{H:Hp}{s:aB}{a:aq}{y:V}{o:Option V}(I:Inv X pins σ H s)(g:nO H a y o):s.TypeIs (.ref a) "dict":=by
 rcases g with⟨kvs,k,e,_,_⟩|⟨kvs,k,b,e,_,_,_⟩
 .obtain⟨_,_,vs,_,dd⟩:=yD I.hok e
  exact dd.typeIs
 .obtain⟨_,_,xs,_,dd⟩:=Aq I.hok e
  exact dd.typeIs
section
variable{X:Cx}{o i e value:Expr}{pos pos' tpos:Pos}{td ty tv:TE}
end
theorem TV{P:bD}{w:bB}{H:Hp}(h:bz)(hb:rK<h.objs.size):fB P w H (h.push {cls:=.type "dict",data:=.dict #[]}) h.objs.size (.dK []):=
 ⟨kI _,beq_eq_false_iff_ne.mpr (lO (fL hb)),[],.nil,Heap.DictOf.new h⟩
def an4:TE:=λ_ H Q=>∀p,H p=aj->Q (.ref p) (upd H p (.dK []))
section
variable{X:Cx}{pos:Pos}
theorem akJ:PE X (.Dict [] [] pos) an4:=λpins s σ H Q I h=>
 wpAny_Dict_empty ⟨.ref s.heap.objs.size,_,I.laid (a:=s.heap.objs.size) (o:=.dK []) (t':=s.toks) (λ_ _ q=>cJ _ q) (bU _) (TV s.heap I.big),rfl,h _ (I.hok.fresh (bU _))⟩
end
def VG:List (TE×TE)->St->Hp->(List (V×V)->Hp->Prop)->Prop
 |[],_,H,Q=>Q [] H
 |(tk,tv)::r,σ,H,Q=>tk σ H λx H1=>tv σ H1 λy H2=>VG r σ H2 λps H3=>Q ((x,y)::ps) H3
abbrev VV:List (V×V)->List (Value×Value)->Prop:=Paired λp q=>RelV p.1 q.1/\RelV p.2 q.2
def O8(X:Cx)(pos:Pos)(keys:List (Option Expr))(values:List Expr)(wX:List (TE×TE)):Prop:=
 ∀(pins:List (aq×Obj))(s:aB)(σ:St)(H:Hp)(Q:List (V×V)->Hp->Prop),Inv X pins σ H s->VG wX σ H Q->
  aQ (model X.prog X.w) X.A (evalPairs (pairTrees keys values X.env pos)) (λvs s'=>∃ps H',Inv X pins σ H' s'/\VV ps vs/\Q ps H') X.xe s
theorem amb{X:Cx}{pos:Pos}:O8 X pos [] [] []:=λpins s σ H Q I h=>pairTrees_nil_walk ⟨[],H,I,.nil,h⟩
theorem akK{X:Cx}{pos:Pos}{k v:Expr}{ks:List (Option Expr)}{vs:List Expr}{tk tv:TE}{wX:List (TE×TE)}(hk:PE X k tk)(hv:PE X v tv)(hr:O8 X pos ks vs wX):
  O8 X pos (aa k::ks) (v::vs) ((tk,tv)::wX):=λpins s σ H Q I h=>
 pairTrees_cons_walk (bH (hk pins s σ H _ I h) λu s1 ⟨x,H1,I1,rx,q1⟩=>bH (hv pins s1 σ H1 _ I1 q1) λw2 s2 ⟨y,H2,I2,ry,q2⟩=>
  bH (hr pins s2 σ H2 _ I2 q2) λws s3 ⟨ps,H3,I3,rel,q3⟩=>⟨(x,y)::ps,H3,I3,.cons ⟨rx,ry⟩ rel,q3⟩)
def Hu(kvs more:List (Key×V)):List (Key×V):=more.foldl (λacc kv=>putK acc kv.1 kv.2) kvs
theorem KV.merge:∀{more:List (Key×V)}{rs:List (Key×Value)}{kvs:List (Key×V)}{vs:List (Key×Value)},KV more rs->KV kvs vs->KV (Hu kvs more) (merged vs rs):=by
 intro more rs kvs vs r;unfold KV at r;induction r generalizing kvs vs with
 |nil=>intro q;exact q
 |@cons p q ps qs h t ih=>
  intro r0;have e:KV (putK kvs p.1 p.2) (stored vs q.1 q.2):=by
   have:=r0.put p.1 h.2;rw[<-h.1];exact this
  exact ih e
theorem ZG:∀(more kvs:List (Key×V)),(Hu kvs more).length<=kvs.length+more.length
 |[],kvs=>by show kvs.length<=kvs.length+0;lia
 |p::r,kvs=>by
  have h1:=ZG r (putK kvs p.1 p.2);have h2:=Kw kvs p.1 p.2
  show(Hu (putK kvs p.1 p.2) r).length<=_
  rw[cA];lia
theorem aat{P:bD}{w:bB}:∀{kvs:List (Key×V)}{ws:List (Value×Value)},VV (kvs.map λkv=>(kV kv.1,kv.2)) ws->∃rs,Carries (jH P w) ws rs/\KV kvs rs
 |[],_,r=>by rw[oE] at r;cases r;exact⟨[],nu,.nil⟩
 |p::kvs,_,r=>by
  rw[cj] at r;cases r with
  |@cons a b as bs h t=>
   obtain⟨rs,c,q⟩:=aat (P:=P) (w:=w) t
   obtain⟨b1,b2⟩:=b
   exact⟨(p.1,b2)::rs,⟨yz h.1,rfl,c⟩,.cons ⟨rfl,h.2⟩ q⟩
def apd(wX:List (TE×TE)):TE:=λσ H Q=>∀p,H p=aj->VG wX σ (upd H p (.dK [])) λps H2=>H2 p=aa (.dK [])/\∃kvs:List (Key×V),ps=kvs.map (λkv=>(kV kv.1,kv.2))/\kvs.length<=15/\Q (.ref p) (upd H2 p (.dK (Hu [] kvs)))
theorem amc{X:Cx}{pos:Pos}{keys:List (Option Expr)}{values:List Expr}{wX:List (TE×TE)}(h:O8 X pos keys values wX)(hall:keys.all (·.isSome)=ao)(hl:keys.length=values.length)(h0:keys≠[])
  (h15:keys.length<=15):PE X (.Dict keys values pos) (apd wX):=by
 intro pins s σ H Q I q;have hn:=I.hok.fresh (bU s.heap.objs.size);have I1:=I.laid (a:=s.heap.objs.size) (o:=.dK []) (h':=s.heap.push {cls:=.type "dict",data:=.dict #[]}) (t':=s.toks) (λ_ _ q=>cJ _ q) (bU _) (TV s.heap I.big);refine wpAny_Dict_walk (knd:=jH X.prog X.w) hall hl h0 h15 (bH (h pins _ σ _ _ I1 (q _ hn)) λws s2 aN=>?_)
 obtain⟨ps,H2,I2,rel,e,kvs,ep,lk,q2⟩:=aN
 subst ep
 obtain⟨rs,c,rk⟩:=aat (P:=X.prog) (w:=X.w) rel
 obtain⟨z,hd,Jd,r0,dd⟩:=NZ I2.hok e
 cases r0
 refine⟨rs,c,dd,λh' vm hs=>⟨.ref s.heap.objs.size,_,?_,rfl,q2⟩⟩
 have hz:(Hu [] kvs).length<=bW:=by
  have h1:=ZG kvs [];rw[FP] at h1;rw[iM];lia
 have he:∃q,h'.get? s.heap.objs.size=aa q:=let ⟨q,_,_,hq,_⟩:=vm;⟨q,hq⟩
 exact Ab I2 (by rw[e];exact nu) hs he (Nb hz hd (rk.merge .nil) vm)
structure M1(X:Cx)(o:Expr)(m:Str)(apos:Pos)(e:Expr)(cpos:Pos):Prop where
 base:xT o m X.env (eval o X.env)=eval o X.env
 few:((f9 cpos (bC [e] X.env)).all (λx=>!x.1)&&(Dj cpos (CT [] X.env)).all (λx=>x.1.isSome)
  &&decide (([e]:List Expr).length+([]:List pY).length+(if([]:List pY).isEmpty then 0 else 1)<30))=ao
 line:(apos.endLine==cpos.line)=ao
 trees:f9 cpos (bC [e] X.env)=[(aF,eval e X.env)]
structure M2(X:Cx)(o:Expr)(m:Str)(apos:Pos)(e f:Expr)(cpos:Pos):Prop where
 base:xT o m X.env (eval o X.env)=eval o X.env
 few:((f9 cpos (bC [e,f] X.env)).all (λx=>!x.1)&&(Dj cpos (CT [] X.env)).all (λx=>x.1.isSome)
  &&decide (([e,f]:List Expr).length+([]:List pY).length+(if([]:List pY).isEmpty then 0 else 1)<30))=ao
 line:(apos.endLine==cpos.line)=ao
 trees:f9 cpos (bC [e,f] X.env)=[(aF,eval e X.env),(aF,eval f X.env)]
def IsD(H:Hp)(a:aq):Prop:=(∃kvs,Rd H a (.dK kvs))\/∃kvs,Rd H a (.dT kvs)
theorem an5{X:Cx}{pins:List (aq×Obj)}{σ:St}{H:Hp}{s:aB}{a:aq}(I:Inv X pins σ H s)(d:IsD H a):
  s.TypeIs (.ref a) "dict"/\(∀b,di a=.ref b->∃ob,s.heap.get? b=aa ob/\ob.dict=aj)/\(a==rK)=aF:=by
 rcases d with⟨kvs,e⟩|⟨kvs,e⟩
 .obtain⟨_,hd,vs,_,dd⟩:=yD I.hok e
  refine⟨dd.typeIs,λb q=>?_,hd⟩
  cases q
  obtain⟨ob,_,_,h1,h2,_⟩:=dd
  exact⟨ob,h1,h2.2.1⟩
 .obtain⟨_,hd,xs,_,dd⟩:=Aq I.hok e
  refine⟨dd.typeIs,λb q=>?_,hd⟩
  cases q
  obtain⟨ob,_,_,h1,h2,_⟩:=dd
  exact⟨ob,h1,h2.2.1⟩
section
variable{X:Cx}{pins:List (aq×Obj)}{σ:St}{H:Hp}{s:aB}{a:aq}{y d:V}{u r:Value}{o:Option V}{A:cD}{E:Value->aB->Prop}
theorem adL{Q:Value->aB->Prop}(hu:A.units+1<fV)(I:Inv X pins σ H s)(g:nO H a y o)(ry:RelV y u)(rd:RelV d r)(h:∀w' s',Inv X pins σ H s'->RelV (o.getD d) w'->Q w' s'):
  aQ (model X.prog X.w) A (call (.builtin "dict.get") [.ref a,u,r]) Q E s:=by
 rcases g with⟨kvs,k,e,ey,l⟩|⟨kvs,k,b,e,ey,eb,l⟩
 .subst ey
  obtain⟨z,hd,vs,rel,dd⟩:=yD I.hok e
  refine call_meetsIn Yg dd.typeIs agr (agj _ _ _) (meets_dict_get_default (jH X.prog X.w) a (yz ry) hd r) ⟨_,dd.mapOf,h _ _ (I.tok _) ?_⟩;rw[l]
  exact(rel.val k).getD rd
 .subst ey
  cases(show u=di b from ry)
  obtain⟨z,hd,xs,rel,dd⟩:=Aq I.hok e
  refine call_meetsIn Yg dd.typeIs agr (agj _ _ _) (meetsH_dict_get_default (Gz (jH X.prog X.w)) a b hd r) ⟨JG hu,k,xs,DK I.hok eb,dd,h _ _ (I.tok _) ?_⟩;rw[l]
  exact(rel.val k).getD rd
end
section
variable{X:Cx}{o e f:Expr}{apos cpos:Pos}{td ty tx:TE}
end
section
variable{X:Cx}{pins:List (aq×Obj)}{σ:St}{H:Hp}{s:aB}{a:aq}{kvs:List (Key×V)}{A:cD}{E:Value->aB->Prop}
end
section
variable{X:Cx}{pins:List (aq×Obj)}{σ:St}{H:Hp}{s:aB}{a:aq}{y:V}{u:Value}{A:cD}{E:Value->aB->Prop}
end
end L2
namespace Att
open PySem PySem.W PySem.Calls PyProof.Rows
theorem ahG{P:Params}{h:bz}:∀(ns:List Int)(vs:List Value),WellAll P h vs (ns.map WData.int)->IntsAre vs ns:=by
 intro ns;induction ns with
 |nil=>
  intro vs w;rw[oE] at w;cases w;exact .nil
 |cons n ns ih=>
  intro vs w;rw[cj] at w;cases w with
  |cons a b=>
   cases a;exact .cons _ _ (ih _ b)
theorem ajJ{l:OpenLaw}{n:Nat}(hn:l.most=aa n){P:Params}{h:bz}{args:List WData}{vals:List Value}
  (hpre:l.row.toRowW.claim.pre args=ao)(hwl:WellAll P h vals args):
  ∃a vs ns,vals=[di a]/\args=[WData.list (ns.map WData.int)]/\h.get? a=aa {cls:=.type "list",data:=.seq vs.toArray}/\IntsAre vs ns/\ns.length<=n:=by
 have hsh:WShape.hasAll [] args [.list .int]=ao:=(pre_splitW hpre).1;have hc:l.pre.holds [] {args:=args}=ao:=(pre_splitW hpre).2
 obtain⟨d,r,rfl,h1,h2⟩:=hasAllW_cons hsh
 obtain rfl:=hasAllW_nil h2
 obtain⟨xs,rfl,h3⟩:=hasW_list h1
 obtain⟨ns,rfl⟩:=items_int h3
 have hlen:ns.length<=n:=by
  unfold OpenLaw.pre at hc;have h4:(WTm.not (.lt (.lit (.int (n:Int))) (.len (.arg 0)))).holds [] {args:=[.list (ns.map .int)]}=ao:=by
   have h4:=(holds_andW hc).1;rw[hn] at h4;exact h4
  have h5:=condW_of h4 (w_not (w_lt w_lit (w_len_list (w_arg rfl))));rw[bw] at h5;refine Nat.le_of_not_lt λq=>?_
  have q':(n:Int)<((ns.length:Nat):Int):=by lia
  first
   |(rw[cY q'] at h5;exact absurd h5 (by decide))
   |(simp at h5;lia)
 cases hwl with
 |cons w1 w2=>
  cases w2;cases w1 with
  |list ho hall=>exact⟨_,_,ns,rfl,rfl,ho,ahG ns _ hall,hlen⟩
theorem ajK(l:OpenLaw)(args:List WData):l.row.toRowW.claim.post args (.bool ao) args=ao:=
 postW_of (r:=l.row.toRowW) (X:=(ao==ao))
  (show WShape.has [] (.bool ao) .bool=ao by first|rfl|decide|simp[WShape.has,WShape.arms,WShape.armsAll])
  (show(WTm.eq .res (.lit (.bool ao))).value [] {args:=args,res:=aa (.bool ao),after:=args}=aa (.bool (ao==ao)) from w_eq_bool (w_res rfl) w_lit) rfl
theorem aiG{l:OpenLaw}{n:Nat}{q:bD}{loose:List Str}{XP:(Str->Option Value)->bz->Prop}{YP:bB->bz->Prop}{d:DefRec}
  (hn:l.most=aa n)(hdf:d.params.defaults=[])
  (call:∀(w:bB)(s₀ s₁:aB)(mg mb:Str->Option Value)(fa:aq)(o:Obj)(pm cd doc:Value)(a:aq)(vs:List Value)(ns:List Int),
   Ground q loose [] XP w s₀ mg mb s₁.heap->YP w s₁.heap->
   s₁.heap.get? fa=aa o->o.data=.func (docDef d.name d.params d.body d.scope pm cd doc)->s₁.heap.CodeRec cd d.name->mg d.name=aa (.ref fa)->
   s₁.heap.get? a=aa {cls:=.type "list",data:=.seq vs.toArray}->IntsAre vs ns->ns.length<=n->s₁.gens=#[]->
   mC (model l.prog w) Dq (.call (.ref fa) ⟨[.ref a],[]⟩) (λr s'=>r=.ok (.ret (.bool ao))/\OldK s₁.heap s'.heap/\s'.os=s₁.os/\AllBare s'.gens) s₁):
  WalkO q loose XP YP l.row.toRowW d [] (λf vs=>aau f vs):=by
 intro w s₀ s₁ mg mb G Y fa o pm cd doc dV kV ho hd hcd hD hmg hg args vals as hpre hlay hrd hwl hlo;obtain rfl:dV=.none:=Dflts.none hD hdf;obtain rfl:kV=.none:=Dflts.noKw hD
 obtain⟨a,vs,ns,rfl,rfl,hobj,hints,hlen⟩:=ajJ hn hpre hwl
 refine enter_call (Kc (call w s₀ s₁ mg mb fa o pm cd doc a vs ns G Y ho (fd_plain hd) hcd hmg hobj hints hlen hg) λr s' hq=>?_)
 obtain⟨rfl,h2,h3,h4⟩:=hq
 exact⟨.inl ⟨.bool ao,.bool ao,[],rfl,λ_=>rfl,.bool ao,ajK l _,λ_=>⟨xK,λ_ hm=>(nomatch hm)⟩⟩,h2,h3,h4⟩
section
variable{prog:bD}{w:bB}{A:cD}{E:Value->aB->Prop}{s:aB}{K:Frag}
def ledger(h:bz)(L d:aq):List (aq×Obj):=(fP h.objs.size).filterMap λa=>if a=L\/a=d then aj else(h.get? a).map λo=>(a,o)
end
end Att
namespace L2
open PySem PySem.Spec PyProof.Rows
theorem Lf:∀{vs:List Value}{ns:List Int},IntsAre vs ns->Vals (ns.map V.int) vs
 |_,_,.nil=>.nil
 |_,_,.cons n t h=>.cons ⟨t,rfl⟩ (Lf h)
def Only(H:Hp):Prop:=∀b,H b=aj\/∃o xs,H b=aa (.mZ o (.lst xs))
theorem akL{P:bD}{w:bB}{K:aJ}{mg mb:Str->Option Value}{CX:rD}{k:Nat}{fa a:aq}{fd:dF}{x:Str}{sp:Sp}{s₁:aB}{vs:List Value}{ns:List Int}
  (KX:K.In s₁.heap)(hns:s₁.heap.Ns iK mg)(hb:s₁.heap.Ns builtinsNs mb)(hbb:∀x:Str,x≠"__name__"->mb x=uM x)(hlim:s₁.heap.NoLimit)(hg:s₁.gens=#[])
  (ha:s₁.heap.get? a=aa {cls:=.type "list",data:=.seq vs.toArray})(hi:IntsAre vs ns)(hl:ns.length<=bW)(hr:jh k Dq)
  (F:∀base:bz,K.In base->base.Ns iK mg->dw P w K mg base CX k fa fd [x] sp)(hbind:∀(s:aB)(u:Value),Aa s fd ⟨[u],[]⟩ [(x,u)])
  (hsp:∀H:Hp,Only H->bO K H a (ns.map V.int)->sp [.ref a] H (λv _=>v=.bl ao) λ_ _ _=>False)
  (Xf:∀H e s',CX [] H s₁ (λ_ _ _=>False) e s'->False):
  mC (model P w) Dq (.call (.ref fa) ⟨[.ref a],[]⟩) (λr s'=>r=.ok (.ret (.bool ao))/\OldK s₁.heap s'.heap/\s'.os=s₁.os/\AllBare s'.gens) s₁:=by
 have rv:=Lf hi;have lenV:=hi.length;have core:∀H:Hp,Only H->bO K H a (ns.map V.int)->iU P w H s₁.heap->(∀b,H b≠aj->b=a)->(H a≠aj->K.lookup a=aj)->
   mC (model P w) Dq (.call (.ref fa) ⟨[.ref a],[]⟩) (λr s'=>r=.ok (.ret (.bool ao))/\OldK s₁.heap s'.heap/\s'.os=s₁.os/\AllBare s'.gens) s₁:=by
  intro H hO hS hok hA hK;have acI:∀{b:aq}{o:Obj},s₁.heap.get? b=aa o->H b=aj->(wL s₁.heap H).get? b=aa o:=λe n=>akx e n
  have Jc:∀{b:aq}{o:Obj}{es:Array DictEntry}{ep:Nat},s₁.heap.get? b=aa o->o.data=.dict es ep->H b=aj:=λ{b o es ep} e d=>by
   cases q:H b with
   |none=>rfl
   |some u=>
    have e':b=a:=hA b (by rw[q];simp);subst e';rw[ha] at e;cases e;have d':Data.seq vs.toArray _=Data.dict es ep:=d;cases d'
  have O9:∀{b:aq}{m:Str->Option Value},s₁.heap.Ns b m->(wL s₁.heap H).Ns b m:=λ{b m} ⟨o,es,ep,e,d,r⟩=>⟨o,es,ep,acI e (Jc e d),d,r⟩
  have hKb:K.In (wL s₁.heap H):=λb o e=>acI (KX b o e) (by
   cases q:H b with
   |none=>rfl
   |some u=>
    have e':b=a:=hA b (by rw[q];simp);subst e';rw[hK (by rw[q];simp)] at e;cases e)
  have hM:Mod K mg (wL s₁.heap H):=⟨hKb,O9 hns,⟨mb,O9 hb,hbb⟩,let ⟨mc,h1,h2⟩:=hlim;⟨mc,O9 h1,h2⟩⟩
  have e0:Bg P w K mg (wL s₁.heap H) Dq [] s₁ H:=⟨rfl,hM,λb o e=>alX e,Nat.le_of_eq (ajx _ _),trivial,λb hb=>absurd (show b∈([]:List aq) from hb) (by simp),hok,.of_eq hg⟩
  refine Kc ((F _ hKb (O9 hns)).run Dq [] s₁ H ⟨[.ref a],[]⟩ [.ref a] [.ref a] _ _ hr e0 (hbind s₁ (.ref a)) (.cons rfl .nil) (hsp H hO hS)) λr s' h=>?_
  cases r with
  |error e=>exact(Xf H e s' h).elim
  |ok fl=>
   cases fl with
   |next=>exact tH h
   |brk=>exact tH h
   |cont=>exact tH h
   |ret u=>
    obtain⟨v,H',os,bare,un,hok',r',q⟩:=h
    have q':v=.bl ao:=q;subst q';obtain rfl:u=rJ ao:=r'
    refine⟨rfl,OldK.of_keep λb o e=>?_,os,bare⟩
    cases q:H b with
    |none=>exact un.keep b o e q (by intro z;exact absurd (show b∈([]:List aq) from z) (by simp)) (by simp)
    |some u=>
     rcases hO b with z|⟨ob,xs,z⟩
     .rw[q] at z;cases z
     .have z2:=un.q9 b ob _ z
      obtain⟨e1,_⟩:=hok b _ z
      obtain⟨e2,_⟩:=hok' b _ z2
      rw[e] at e1;cases e1;exact e2
 cases hk:K.lookup a with
 |some o=>
  have e:=KX a o hk;rw[ha] at e;cases e;refine core (λ_=>aj) (λ_=>.inl rfl) (.inr ⟨_,vs.toArray,_,hk,rfl,rfl,rfl,by rw[gH,lenV];exact hl,by simpa using rv⟩) (λb u z=>by have z':(aj:Option HO)=aa u:=z;cases z') (λb z=>absurd rfl z) λz=>absurd rfl z
 |none=>
  refine core (λb=>if b=a then aa (.mZ {cls:=.type "list",data:=.seq vs.toArray} (.lst (ns.map V.int))) else aj) (λb=>?_) (.inl (.inr ⟨{cls:=.type "list",data:=.seq vs.toArray},aV rfl⟩)) (λb u z=>?_) (λb z=>?_) λ_=>hk
  .by_cases hb:b=a
   .exact .inr ⟨_,_,aV hb⟩
   .exact .inl (bf hb)
  .by_cases hb:b=a
   .have z':=(aV hb).symm.trans z;cases z';subst hb
    exact⟨ha,by rw[bw];exact hl,vs,_,rv,ha⟩
   .have z':=(bf hb).symm.trans z;cases z'
  .by_cases hb:b=a
   .exact hb
   .exact absurd (bf hb) z
theorem amd{l:Y6}{n k:Nat}{q:bD}{loose:List Str}{XP:(Str->Option Value)->bz->Prop}{YP:bB->bz->Prop}{d:DefRec}{K:Params->aJ}{CX:bB->rD}{sp:bB->Sp}{x:Str}
  (hn:l.most=aa n)(hn2:n<=bW)(hdf:d.params.defaults=[])(hr:jh k Dq)
  (hY:∀(w:bB)(h:bz),YP w h->(K w.params).In h)
  (F:∀(w:bB)(mg:Str->Option Value)(fa:aq)(h:bz),(K w.params).In h->h.Ns iK mg->mg d.name=aa (.ref fa)->
   ∃fd:dF,(∀(s:aB)(u:Value),Aa s fd ⟨[u],[]⟩ [(x,u)])/\
    ∀base:bz,(K w.params).In base->base.Ns iK mg->dw l.prog w (K w.params) mg base (CX w) k fa fd [x] (sp w))
  (hsp:∀(w:bB)(H:Hp)(a:aq)(ns:List Int),ns.length<=n->Only H->bO (K w.params) H a (ns.map V.int)->sp w [.ref a] H (λv _=>v=.bl ao) λ_ _ _=>False)
  (Xf:∀(w:bB)(H:Hp)(s:aB)(e:Value)(s':aB),CX w [] H s (λ_ _ _=>False) e s'->False):
  ahV q loose XP YP l.row.toRowW d [] (λf vs=>aau f vs):=by
 refine Att.aiG hn hdf λw s₀ s₁ mg mb fa o pm cd doc a vs ns G Y ho hd hcd hmg hobj hints hlen hg=>?_
 have KX:=hY w _ Y
 obtain⟨fd,hb,hF⟩:=F w mg fa _ KX G.T.g hmg
 exact akL KX G.T.g G.T.b G.T.builtins G.T.nolimit hg hobj hints (jQ hlen hn2) hr hF hb (λH hO hS=>hsp w H a ns hlen hO hS) λH e s'=>Xf w H s₁ e s'
def Dr(s:cX):Arguments:=match s with
 |.FunctionDef _ a _ _ _ _ _ _ _ _=>a
 |_=>{posonlyargs:=[],args:=[],vararg:=aj,kwonlyargs:=[],kw_defaults:=[],kwarg:=aj,defaults:=[]}
def yg(s:cX):List cX:=match s with
 |.FunctionDef _ _ b _ _ _ _ _ _ _=>b
 |_=>[]
def cG(s:cX):jT:=match s with
 |.FunctionDef _ _ _ _ _ _ sc _ _ _=>sc
 |_=>{kind:=.function,names:=[],isGenerator:=aF,isCoroutine:=aF}
abbrev eG:rD:=λ_ _ _ _ _ _=>False
abbrev E0:XK:=λ_ _ _=>False
theorem ape{X:Cx}:Passes eG X E0:=λ_ _ _ _ _ _ _ h=>h.elim
structure fH(K:aJ)(x qual:Str)(st:cX)(f:aq)(fd:dF):Prop where
 ex:∃(oc:Value)(od:Option aq)(kV doc pm:Value)(an:Option aq)(cdv ct:Value)(osl:Array (Option Value)),
  fd=zR x qual (Dr st) (yg st) (cG st) .none kV doc pm an cdv ct/\K.lookup f=aa ⟨oc,od,.func fd,osl⟩/\QM K cdv qual=ao
 kp:xQ K (.ref f)=ao
section
variable{P:bD}{w:bB}{K:aJ}{mg:Str->Option Value}{base:bz}
theorem fH.ok{x qual:Str}{st:cX}{f:aq}{fd:dF}{N ps:List Str}{k:Nat}{sp:Sp}(F:fH K x qual st f fd)(S:gA N ps (cG st))(len:∀vs H Q E,sp vs H Q E->vs.length=ps.length)
  (hbody:∀(cdv:Value)(A:cD)(outer:List Env)(s:aB)(H:Hp)(vs:List V)(Q:VK)(E:XK),jh k (A.deeper (envOfC qual (cG st) s.heap.objs.size f cdv))->sp vs H Q E->
   ∃t,jO (Bh eG P w K mg base N qual (cG st) f cdv A outer s H E).wR (yg st) t/\t {nx:=λ_ H'=>Q .non H',rt:=Q} (start N vs) H):dw P w K mg base eG (k+1) f fd ps sp:=by
 obtain⟨oc,od,kV,doc,pm,an,cdv,ct,osl,rfl,lk,hcd⟩:=F.ex
 refine ao9 lk hcd S len λA outer s H vs Q E hr hsp=>?_
 obtain⟨t,h,q⟩:=hbody cdv A outer s H vs Q E hr hsp
 exact⟨t,h.wR,q⟩
theorem fH.binds{x qual:Str}{st:cX}{f:aq}{fd:dF}{ps:List Str}(F:fH K x qual st f fd)
  (h:∀(kV doc pm:Value)(an:Option aq)(cdv ct:Value)(us:List Value),us.length=ps.length->bindArgs (zR x qual (Dr st) (yg st) (cG st) .none kV doc pm an cdv ct) ⟨us,[]⟩=pure (ps.zip us)):Binds K fd ps []:=by
 obtain⟨oc,od,kV,doc,pm,an,cdv,ct,osl,rfl,lk,hcd⟩:=F.ex
 exact .all (h kV doc pm an cdv ct)
theorem VH{x qual:Str}{st:cX}{f:aq}{oc:Value}{od an:Option aq}{osl:Array (Option Value)}{kV doc pm cdv ct:Value}(l:K.lookup f=aa ⟨oc,od,.func (zR x qual (Dr st) (yg st) (cG st) .none kV doc pm an cdv ct),osl⟩)
  (c:QM K cdv qual=ao)(k:xQ K (.ref f)=ao):fH K x qual st f (zR x qual (Dr st) (yg st) (cG st) .none kV doc pm an cdv ct):=⟨⟨oc,od,kV,doc,pm,an,cdv,ct,osl,rfl,l,c⟩,k⟩
end
section
variable{X:Cx}
theorem pv(i:Nat){x:Str}{pos:Pos}(hN:X.N[i]?=aa x:=by rfl)(hv:OJ X.env.scope x:=by first|exact dj rfl|exact tW (dj rfl)|exact tW (tW rfl))(hd:(x==("__debug__":Str))=aF:=by decide)
  (hcd:(x==("__classdict__":Str))=aF:=by decide):PE X (.Name x pos) (sH i):=anB hN hv hd hcd
end
theorem yK{A B:Prop}(h:B):if aF=ao then A else B:=by
 rw[bf gw];exact h
theorem yL{A B:Prop}(h:A):if ao=ao then A else B:=by
 rw[aV rfl];exact h
def bJ(H H':Hp):Prop:=∀b o,H b=aa o->H' b=aa o
theorem bJ.refl(H:Hp):bJ H H:=λ_ _ h=>h
theorem bJ.trans{H H1 H2:Hp}(a:bJ H H1)(b:bJ H1 H2):bJ H H2:=λc o h=>b c o (a c o h)
theorem bJ.free{H H':Hp}(e:bJ H H'){l:aq}(h:H' l=o7):H l=o7:=by
 cases q:H l with
 |none=>rfl
 |some o=>
  rw[e l o q] at h;cases h
theorem bJ.seq{K:aJ}{H H':Hp}{a:aq}{xs:List V}(e:bJ H H')(h:bO K H a xs):bO K H' a xs:=by
 rcases h with(h|⟨o,h⟩)|h
 .exact .inl (.inl (e _ _ h))
 .exact .inl (.inr ⟨o,e _ _ h⟩)
 .exact .inr h
section
variable{X:Cx}
theorem ajL:gQ X (.builtin "len") (λxs H Q=>∃a kvs,xs=[V.ref a]/\H a=aa (.dK kvs)/\Q (.int kvs.length) H):=by
 intro pins s σ H xs us Q I r h
 obtain⟨a,kvs,rfl,ha,q⟩:=h
 obtain⟨u,rfl,ru⟩:=vals1 r
 cases ru;exact apc I (.inl ha) λt s' I'=>⟨.int kvs.length,H,I',⟨t,rfl⟩,q⟩
end
section
variable{κ:Type}[DecidableEq κ]
end
def Cx.blk(X:Cx)(N:List Str)(scope:jT)(cl:List (Str×aq))(C:aq)(s:aB)(H:Hp)(fp:List aq):Cx:=
 {X with N:=N,s₀:=s,H₀:=H,env:=TX scope cl C X.env,outer:=X.stack,ex:=fp,fn:=λ_=>aF,pn:=[],xe:=λ_ _=>False}
theorem RK(f:Str×Di->List (Str×aq)->Sem (ForInStep (List (Str×aq))))
  (hf:∀n k r,f (n,k) r=if k==qJ then(do let c <-cellOf env n;pure (.yield ((n,c)::r))) else pure (.yield r)):
  ∀(names:List (Str×Di))(cs:List (Str×aq)),(∀y∈names,y.2=.free->∃c,env.cells.lookup y.1=aa c)->(∀n c,cs.lookup n=aa c->env.cells.lookup n=aa c)->
   ∃cl,(forIn names cs f:Sem (List (Str×aq)))=pure cl/\(∀n c,cl.lookup n=aa c->env.cells.lookup n=aa c)/\
    ∀n,((∃c,cs.lookup n=aa c)\/∃y∈names,y.1=n/\y.2=.free)->∃c,cl.lookup n=aa c
 |[],cs,_,h2=>⟨cs,rfl,h2,λn h=>h.elim id λ⟨_,hy,_⟩=>nomatch hy⟩
 |(n,k)::r,cs,h1,h2=>by
  rw[List.forIn_cons,hf];by_cases hk:k=.free
  .subst hk
   obtain⟨c,hc⟩:=h1 (n,.free) dg rfl
   have hc':env.cells.lookup n=aa c:=hc;have e:cellOf env n=pure c:=by unfold cellOf;rw[hc']
   obtain⟨cl,q1,q2,q3⟩:=RK f hf r ((n,c)::cs) (λy hy=>h1 y (dZ _ hy)) (λm d hm=>by
    rw[Cr] at hm;by_cases hb:(m==n)=ao
    .rw[hb] at hm;have:=eq_of_beq hb;subst this;cases hm;exact hc'
    .rw[YL] at hb;rw[hb] at hm;exact h2 m d hm)
   refine⟨cl,?_,q2,λm hm=>q3 m ?_⟩
   .rw[aV (show(qJ==qJ)=ao from rfl),e];simp only[pure_bind];exact q1
   .by_cases hb:m=n
    .subst hb;exact .inl ⟨c,by simp[Cr]⟩
    .rcases hm with⟨d,hm⟩|⟨y,hy,e1,e2⟩
     .refine .inl ⟨d,?_⟩;rw[Cr,beq_eq_false_iff_ne.mpr hb];exact hm
     .rcases bY.mp hy with rfl|hy
      .exact absurd e1.symm hb
      .exact .inr ⟨y,hy,e1,e2⟩
  .have hb:(k==qJ)=aF:=beq_eq_false_iff_ne.mpr hk
   obtain⟨cl,q1,q2,q3⟩:=RK f hf r cs (λy hy=>h1 y (dZ _ hy)) h2
   refine⟨cl,?_,q2,λm hm=>q3 m ?_⟩
   .rw[hb];simp only[pR,if_false,pure_bind];exact q1
   .rcases hm with hm|⟨y,hy,e1,e2⟩
    .exact .inl hm
    .rcases bY.mp hy with rfl|hy
     .exact absurd e2 hk
     .exact .inr ⟨y,hy,e1,e2⟩
theorem K7(h1:∀y∈scope.names,y.2=.free->∃c,env.cells.lookup y.1=aa c):
  ∃cl,closureFor scope env=pure cl/\(∀n c,cl.lookup n=aa c->env.cells.lookup n=aa c)/\∀y∈scope.names,y.2=.free->∃c,cl.lookup y.1=aa c:=by
 unfold closureFor
 obtain⟨cl,q1,q2,q3⟩:=RK (env:=env) (λx r=>if(x.2==qJ)=ao then(do let c <-cellOf env x.1;pure (.yield ((x.1,c)::r))) else pure (.yield r)) (λn k r=>rfl) scope.names [] h1 (λn c h=>by simp at h)
 have q:=congrArg (λt:Sem (List (Str×aq))=>t >>= λcs=>pure cs) q1;simp only[pure_bind] at q
 exact⟨cl,q,q2,λy hy e=>q3 y.1 (.inr ⟨y,hy,rfl,e⟩)⟩
theorem Z1{scope:jT}{env:Env}{x:Str}:∀{names:List (Str×Di)},
  (names.map λ(n,k)=>if(k==qJ&&env.scope.kind==.function&&env.kindOf n==aa .cell) then(n,Q8) else(n,k)).lookup x=
   (names.lookup x).map λk=>if(k==qJ&&env.scope.kind==.function&&env.kindOf x==aa .cell) then Q8 else k
 |[]=>rfl
 |(n,k)::r=>by
  have ih:=@Z1 scope env x r;show List.lookup x ((if(k==qJ&&env.scope.kind==.function&&env.kindOf n==aa .cell)=ao then(n,Q8) else(n,k))::_)=_;cases hx:x==n with
  |true=>
   have e:=eq_of_beq hx;subst e;by_cases hc:(k==qJ&&env.scope.kind==.function&&env.kindOf x==aa .cell)=ao
   .rw[aV hc];simp only[Cr,beq_self_eq_true,jG,hc,if_true]
   .rw[bf hc];simp only[Cr,beq_self_eq_true,jG,hc,if_false];rfl
  |false=>
   by_cases hc:(k==qJ&&env.scope.kind==.function&&env.kindOf n==aa .cell)=ao
   .rw[aV hc];simp only[Cr,hx];exact ih
   .rw[bf hc];simp only[Cr,hx];exact ih
def frees(js:List Nat)(σ:St):St:=js.map λj=>(σ[j]?).join
section
variable{X:Cx}{pins:List (aq×Obj)}{σ:St}{H:Hp}{s s1:aB}{NT NF:List Str}{js:List Nat}{scope:jT}{cl:List (Str×aq)}{fp:List aq}
structure qR(X:Cx)(NT NF:List Str)(js:List Nat)(scope:jT):Prop where
 kind:scope.kind=.function
 names:∀y∈scope.names,y.2=.local->scope.names.lookup y.1=aa .local
 cell:∀y∈scope.names,y.2≠.cell
 free:∀y∈scope.names,y.2=.free->X.env.scope.names.lookup y.1=aa .cell\/X.env.scope.names.lookup y.1=aa .free
 len:js.length=NF.length
 fr:∀(k:Nat)(j:Nat)(x:Str),js[k]?=aa j->NF[k]?=aa x->X.N[j]?=aa x/\scope.names.lookup x=aa .free
 tg:∀x∈NT,scope.names.lookup x=aa .local
 nd:(NT++NF).Nodup
theorem Inv.blk(I:Inv X pins σ H s)(B:qR X NT NF js scope)(q2:∀n c,cl.lookup n=aa c->X.env.cells.lookup n=aa c)(q3:∀y∈scope.names,y.2=.free->∃c,cl.lookup y.1=aa c)
  (hf:∀b∈fp,kO X pins H b)(hlt:∀b∈fp,b<s.heap.objs.size){m:Str->Option Value}(hns:s1.heap.Ns s.heap.objs.size m)(keep:∀b o,s.heap.get? b=aa o->s1.heap.get? b=aa o)
  (hos:s1.os=s.os)(hg:AllBare s1.gens):
  Inv (X.blk (NT++NF) scope cl s.heap.objs.size s H fp) [] (dI NT.length aj++frees js σ) H s1:=by
 have look:∀x,(X.blk (NT++NF) scope cl s.heap.objs.size s H fp).env.kindOf x=(scope.names.lookup x).map λk=>if(k==qJ&&X.env.scope.kind==.function&&X.env.kindOf x==aa .cell) then Q8 else k:=λx=>Z1 (scope:=scope)
 have an6:∀x,((X.blk (NT++NF) scope cl s.heap.objs.size s H fp).env.kindOf x=aa .cell\/(X.blk (NT++NF) scope cl s.heap.objs.size s H fp).env.kindOf x=aa .free)->scope.names.lookup x=aa .free:=λx h=>by
  rw[look] at h;cases e:scope.names.lookup x with
  |none=>rw[e] at h;simp at h
  |some k=>
   rw[e] at h;by_cases hk:k=.free
   .rw[hk]
   .have hb:(k==qJ)=aF:=beq_eq_false_iff_ne.mpr hk;simp only[jG,hb,Gb,pR,if_false,Qm] at h;rcases h with h|h
    .subst h;exact absurd rfl (B.cell _ (xG e))
    .exact absurd h hk
 have ltC:∀c x,X.env.cells.lookup x=aa c->c<s.heap.objs.size:=λc x e=>by
  obtain⟨v,q⟩:=I.cell x c e
  exact q.lt
 refine⟨⟨I.ok.mod,B.kind,I.ok.glob,I.ok.blt,bU _,λx y c h1 h2=>I.ok.inj x y c (q2 x c h1) (q2 y c h2),λx hx=>?_,λx c h _=>(nomatch(show aF=ao from h)),I.ok.hd,I.ok.frames,.inl rfl,λb hb=>⟨fL (hlt b hb),λx c e=>(hf b hb).2.2.2.2.1 x c (q2 x c e)⟩,I.bs,jQ I.ok.vh I.sz,λb o e hb=>?_,λb hb hb2=>?_,I.stack,I.acu⟩,
  hos,hg,Un.kept keep,⟨m,hns,λi x v h1 h2 h3=>?_⟩,λx c e=>?_,I.hok.fresh (bU _),λx c e=>I.tZ x c (q2 x c e),λp hp=>(nomatch(show p∈([]:List (aq×Obj)) from hp)),I.hok.kept keep,?_⟩
 .exact q3 _ (xG (an6 x hx)) rfl
 .rcases(hf b hb).2.2.2.1 with z|z
  .exact I.ok.Ik b o e z
  .exact absurd (pQ (cC e) (jQ I.ok.vh z)) (xR _)
 .obtain⟨_,f1,f2,_⟩:=hf b hb
  rcases bY.mp (I.Dz b hb2) with z|z
  .exact f1 z
  .exact f2 z
 .have h1':(NT++NF)[i]?=aa x:=h1;by_cases hi:i<NT.length
  .rw[oh (by simpa using hi),XX] at h2;split at h2<;>cases h2
  .have hi':NT.length<=i:=by lia
   rw[qD (by simpa using hi')] at h2;rw[qD hi'] at h1';simp only[Qa] at h2;unfold frees at h2;rw[jm] at h2;cases ej:js[i-NT.length]? with
   |none=>rw[ej] at h2;cases h2
   |some j=>
    rw[ej] at h2;have h2':(σ[j]?).join=aa v:=by simpa using h2
    obtain⟨g1,g2⟩:=B.fr _ j x ej h1'
    have hj:σ[j]?=aa (aa v):=by
     cases e:σ[j]? with
     |none=>rw[e] at h2';cases h2'
     |some o=>rw[e] at h2';simp at h2';rw[h2']
    have hk:=B.free _ (xG g2) rfl;have hk':X.env.scope.names.lookup x=aa .cell\/X.env.scope.names.lookup x=aa .free:=hk
    obtain⟨m0,hn0,hl0⟩:=I.loc
    obtain⟨u,r,l⟩:=hl0 j x v g1 hj (.inr hk')
    refine⟨u,r,.inr ⟨?_,?_⟩⟩
    .rw[look,g2];by_cases hc:(qJ==qJ&&X.env.scope.kind==.function&&X.env.kindOf x==aa .cell)=ao
     .left;simp only[jG,hc,if_true]
     .right;simp only[jG,hc,if_false];rfl
    .rcases l with⟨k0,_⟩|⟨_,c,e,z⟩
     .have k0':X.env.scope.names.lookup x=aa .local:=k0;rcases hk' with z|z<;>rw[z] at k0'<;>cases k0'
     .obtain⟨c',hc'⟩:=q3 _ (xG g2) rfl
      have hc2:cl.lookup x=aa c':=hc';have e2:=q2 x c' hc2;rw[e] at e2;cases e2
      obtain⟨o,ho,hd⟩:=z
      exact⟨c,hc2,o,keep c o ho,hd⟩
 .obtain⟨v,o,ho,hd⟩:=I.cell x c (q2 x c e)
  exact⟨v,o,keep c o ho,hd⟩
 .show(dI NT.length aj++frees js σ).length=(NT++NF).length
  unfold frees;simp[B.len]
theorem Inv.Wk(I:Inv X pins σ H s)(hf:∀b∈fp,kO X pins H b)(J:Inv (X.blk N scope cl s.heap.objs.size s H fp) Wd σ' H' s'):Inv X pins σ H' s':=
 I.call' J.os J.base J.hok J.bare λb hb=>⟨(hf b hb).2.2.2.1,(hf b hb).2.1,(hf b hb).2.2.2.2.1,(hf b hb).2.2.2.2.2⟩
end
theorem ame(a:List α)(x y:α)(b:List α)(h:a.length=n):(a++x::b).set n y=a++y::b:=by
 subst h;rw[List.set_append_right _ _ (bU _),Z2];rfl
inductive gY where
 |one|many (n:Nat)
def yV(K:aJ):gY->V->Hp->List V->Prop
 |.one,x,_,vs=>vs=[x]
 |.many n,x,H,vs=>∃a,x=.ref a/\cW K H a vs/\vs.length=n
def isNm(e:Expr)(x:Str):Prop:=∃pos,e=.Name x pos
def qm(tg:Expr)(NT:List Str):gY->Prop
 |.one=>∃x,isNm tg x/\NT=[x]
 |.many n=>∃es k pos,tg=.Tuple es k pos/\Paired isNm es NT/\NT.length=n
theorem aav:∀{es:List Expr}{NT:List Str},Paired isNm es NT->uN es env=es.map λe=>(aF,assign e env)
 |_,_,.nil=>rfl
 |_,_,.cons ⟨pos,e⟩ t=>by
  subst e
  show(aF,assign _ env)::uN _ env=_
  rw[aav t];rfl
section
variable{X:Cx}{pins:List (aq×Obj)}{H:Hp}{E:Value->aB->Prop}
theorem ajM(p:Paired isNm es NT):∀{pre NF:List Str}{σp fs:St}{s:aB}{vs:List V}{us:List Value}{Q:Unit->aB->Prop},
  X.N=pre++NT++NF->X.N.Nodup->(∀x∈NT,X.env.scope.names.lookup x=aa .local)->σp.length=pre.length->vs.length=NT.length->
  Inv X pins (σp++(dI NT.length aj++fs)) H s->Vals vs us->(∀s',Inv X pins (σp++(vs.map aa++fs)) H s'->Q () s')->
  aQ (model X.prog X.w) X.A (Gg (es.map λe=>assign e X.env) us) Q E s:=by
 induction p with
 |nil=>
  intro pre NF σp fs s vs us Q hN nd hl hp hv I r q;cases vs with
  |cons _ _=>simp at hv
  |nil=>
   cases r;exact assignInOrder_nil (q s I)
 |@cons e x es NT he t ih=>
  intro pre NF σp fs s vs us Q hN nd hl hp hv I r q;cases vs with
  |nil=>simp at hv
  |cons v vs=>
   cases r with
   |cons r rr=>
    obtain⟨pos,rfl⟩:=he
    have hx:=hl x dg;have hi:X.N[pre.length]?=aa x:=by
     rw[hN,lA,qD (bU _)];simp
    refine assignInOrder_cons (JK (uR I nd hi (.inl hx) r (λs' I'=>?_) (.inr hx)));have e1:(σp++(dI (x::NT).length aj++fs)).set pre.length (aa v)=(σp++[aa v])++(dI NT.length aj++fs):=by
     exact(ame σp aj (aa v) (dI NT.length aj++fs) hp).trans (List.append_cons σp (aa v) (dI NT.length aj++fs))
    rw[e1] at I';refine ih (pre:=pre++[x]) (NF:=NF) (σp:=σp++[aa v]) (by rw[hN];simp) nd (λy hy=>hl y (dZ _ hy)) (by simp[hp]) (by simpa using hv) I' rr λs2 I2=>q s2 ?_
    have e2:σp++[aa v]++(vs.map aa++fs)=σp++((v::vs).map aa++fs):=by simp
    rw[e2] at I2;exact I2
theorem an7(tk:qm tg NT T)(hN:X.N=NT++NF)(nd:X.N.Nodup)(hc:X.calm=ao)
  (hl:∀x∈NT,X.env.scope.names.lookup x=aa .local)(I:Inv X pins (dI NT.length aj++fs) H s)(r:RelV v u)(hv:yV X.K T v H vs)
  (q:∀s',Inv X pins (vs.map aa++fs) H s'->Q () s'):aQ (model X.prog X.w) X.A (assign tg X.env u) Q E s:=by
 cases T with
 |one=>
  obtain⟨x,⟨pos,rfl⟩,rfl⟩:=tk
  have hv':vs=[v]:=hv;subst hv';have hx:=hl x dg;exact JK (uR I nd (i:=0) (by rw[hN];rfl) (.inl hx) r (λs' I'=>q s' I') (.inr hx))
 |many n=>
  obtain⟨es,k,pos,rfl,p,hn⟩:=tk
  obtain⟨a,rfl,hq,hlen⟩:=hv
  cases r
  obtain⟨its,rv,ht,hz⟩:=I.tuple hq
  have e:=aav (env:=X.env) p;have hpl:=p.length;refine assign_Tuple_tuple (I.ok.hd hc) ht (by rw[e];simp only[bw,gH];rw[<-rv.length];lia) (by rw[e];simp) λh' hx=>?_
  have I1:Inv X pins (dI NT.length aj++fs) H {s with heap:=h'}:=I.kept (t':=s.toks) λb o e=>hx b o (fL (cC e)) e
  rw[e,cU];exact ajM p (pre:=[]) (σp:=[]) (by rw[hN];rfl) nd hl rfl (by lia) I1 (by simpa using rv) q
end
def turnOf(target iter:Expr)(ifs:List Expr)(it:Value)(env:Env)(emit:Sem Unit)(more:Sem PySem.Fin):Sem PySem.Fin:=do
 uU iter.pos
 match <-nG it with
 |none=>pure (.done .next)
 |some v=>
  zG target it v
  assign target env v
  let mut ok:=ao
  for c in ifs do
   if ok then ok <-isTrue c env (eval c env)
  if ok then emit
  more
theorem aiY(elt target iter:Expr)(ifs:List Expr)(scope:jT)(pos:Pos)(it acc:Value)(env:Env):
  GK (.ListComp elt [⟨target,iter,ifs,0⟩] scope pos) 0 it acc env=turnOf target iter ifs it env (do let _ <-call (.builtin "list.append") [acc,<-eval elt env]) (again (.compLoop (.ListComp elt [⟨target,iter,ifs,0⟩] scope pos) 0 it acc env)):=by rfl
theorem aiZ(kx vx target iter:Expr)(ifs:List Expr)(scope:jT)(pos:Pos)(it:Value)(D:aq)(env:Env):
  GK (.DictComp kx vx [⟨target,iter,ifs,0⟩] scope pos) 0 it (.ref D) env=turnOf target iter ifs it env (do
      let kv <-eval kx env
      let vv <-rP [kv] (eval vx env)
      uU {kx.pos with endLine:=vx.pos.endLine,endCol:=vx.pos.endCol}
      rP [kv,vv] (dictSet D kv vv)) (again (.compLoop (.DictComp kx vx [⟨target,iter,ifs,0⟩] scope pos) 0 it (.ref D) env)):=by rfl
theorem ajN(elt target iter:Expr)(ifs:List Expr)(scope:jT)(pos:Pos)(it acc:Value)(env:Env):
  GK (.SetComp elt [⟨target,iter,ifs,0⟩] scope pos) 0 it acc env=turnOf target iter ifs it env (do let v <-eval elt env;uU elt.pos;let _ <-call (.builtin "set.add") [acc,v]) (again (.compLoop (.SetComp elt [⟨target,iter,ifs,0⟩] scope pos) 0 it acc env)):=by rfl
def oU(X:Cx)(ifs:List Expr)(t:TT):Prop:=
 ∀(pins:List (aq×Obj))(s:aB)(σ:St)(H:Hp)(Q:Bool->Hp->Prop),Inv X pins σ H s->t σ H Q->
  aQ (model X.prog X.w) X.A (forIn ifs ao λc r=>if r=ao then do let ok <-isTrue c X.env (eval c X.env);pure (ahH ok) else pure (ahH r)) (TP X pins σ Q) X.xe s
def aqd:TT:=λ_ H Q=>Q ao H
theorem amf:oU X [] aqd:=λ_ _ _ H _ I h=>wpAny_tests_nil ⟨H,I,h⟩
theorem amg(h:PT X c t):oU X [c] t:=λpins s σ H Q I q=>wpAny_tests_one (h pins s σ H Q I q)
abbrev TM:=St->Hp->(Hp->Prop)->Prop
def PM(X:Cx)(emit:Sem Unit)(t:TM):Prop:=
 ∀(pins:List (aq×Obj))(s:aB)(σ:St)(H:Hp)(Q:Hp->Prop),Inv X pins σ H s->t σ H Q->
  aQ (model X.prog X.w) X.A emit (λ_ s'=>∃H',Inv X pins σ H' s'/\Q H') X.xe s
def U5(D:aq)(te:TE):TM:=λσ H Q=>te σ H λy H1=>∃xs,H1 D=aa (.lst xs)/\xs.length<bW/\Q (upd H1 D (.lst (xs++[y])))
theorem ajO(he:PE X elt te):PM X (do let _ <-call (.builtin "list.append") [.ref D,<-eval elt X.env]) (U5 D te):=by
 intro pins s σ H Q I h;refine aC (bH (he pins s σ H _ I h) λv s1 aN=>?_)
 obtain⟨y,H1,I1,r1,xs,hD,hz,q⟩:=aN
 refine aC (bH (Tc (X:=X) pins s1 σ H1 (.ref D) [y] (.ref D) [v] (λ_ H'=>Q H') I1 rfl (.cons r1 .nil) ⟨D,xs,y,rfl,rfl,hD,hz,q⟩) λ_ s2 ⟨_,H2,I2,_,q2⟩=>aZ ⟨H2,I2,q2⟩)
def yM(K:aJ)(T:gY)(ts:TT)(em:TM)(fs:St)(J:It)(H0:Hp)(done:Hp->Prop):Prop:=
 ∃W:Nat->Nat->Hp->Prop,(∃m,W 0 m H0)/\∀i m H,W i m H->
  (J.stop i H/\done H)\/(J.go i H/\∀x H',J.yS i H x H'->∃vs,yV K T x H' vs/\
   ts (vs.map aa++fs) H' λb H2=>if b=ao then em (vs.map aa++fs) H2 λH3=>∃m',m'<m/\W (i+1) m' H3 else ∃m',m'<m/\W (i+1) m' H2)
section
variable{X:Cx}{NT NF:List Str}{tg iter e:Expr}{ifs:List Expr}{T:gY}{ts:TT}{em:TM}{emit:Sem Unit}{acc:Value}{fp:List aq}{it:aq}{J:It}{tn:Nat->bz->Prop}
theorem akM{fs:St}{vs:List V}{pins:List (aq×Obj)}{H:Hp}{s:aB}(hv:vs.length=NT.length)(I:Inv X pins (vs.map aa++fs) H s):Inv X pins (dI NT.length aj++fs) H s:=
 I.weak (by simp[hv]) λi v h=>by
  by_cases hi:i<NT.length
  .rw[oh (by simpa using hi),XX] at h;split at h<;>cases h
  .rw[qD (by simp;lia)] at h⊢;simpa[hv] using h
theorem yV.len{tg:Expr}{K:aJ}{x:V}{H:Hp}{vs:List V}(tk:qm tg NT T)(h:yV K T x H vs):vs.length=NT.length:=by
 cases T with
 |one=>obtain⟨y,_,rfl⟩:=tk;rw[show vs=[x] from h];rfl
 |many n=>obtain⟨_,_,_,_,_,e⟩:=tk;obtain⟨_,_,_,e'⟩:=h;lia
theorem TY{R:tV->aB->Prop}{fs:St}{H:Hp}{s:aB}{done:Hp->Prop}(hx:X.xe=λ_ _=>False)(hT:GK e 0 (.ref it) acc X.env=turnOf tg iter ifs (.ref it) X.env emit (again (.compLoop e 0 (.ref it) acc X.env)))
  (hq:(Gi e 0 (.ref it) acc X.env).isFrame=aF)(hqu:(Gi e 0 (.ref it) acc X.env).quiet=ao)(hA:X.A.under (Gi e 0 (.ref it) acc X.env)=X.A)
  (tk:qm tg NT T)(hN:X.N=NT++NF)(nd:X.N.Nodup)(hc:X.calm=ao)(hl:∀x∈NT,X.env.scope.names.lookup x=aa .local)
  (hts:oU X ifs ts)(hem:PM X emit em)(TT:Turn X.prog X.w X.K tg J fp it tn)(hf:∀b∈fp,kO X [] H b)(I:Inv X [] (dI NT.length aj++fs) H s)(st:tn 0 s.heap)(hb:yM X.K T ts em fs J H done)
  (hR:∀H' s' σ',Inv X [] σ' H' s'->done H'->R (.ok .next) s'):
  mC (model X.prog X.w) X.A (.compLoop e 0 (.ref it) acc X.env) R s:=by
 obtain⟨W,⟨m0,w0⟩,turn⟩:=hb
 have stat:∀{H':Hp},(∀b∈fp,H' b=aj)->∀b∈fp,kO X [] H' b:=λhn b hb=>⟨hn b hb,(hf b hb).2⟩
 have noE:∀{α:Type}{t:Sem α}{Q:α->aB->Prop}{E:Value->aB->Prop}{s:aB},aQ (model X.prog X.w) X.A t Q (λ_ _=>False) s->aQ (model X.prog X.w) X.A t Q E s:=λh=>pW h (λ_ _ z=>z) λ_ _ z=>z.elim
 have noX:∀{α:Type}{t:Sem α}{Q:α->aB->Prop}{E:Value->aB->Prop}{s:aB},aQ (model X.prog X.w) X.A t Q X.xe s->aQ (model X.prog X.w) X.A t Q E s:=λh=>noE (by rw[hx] at h;exact h)
 refine codeAny_loop hqu (λn s'=>∃i H',Inv X [] (dI NT.length aj++fs) H' s'/\tn i s'.heap/\(∀b∈fp,H' b=aj)/\W i n H') ?_ m0 ⟨0,H,I,st,λb hb=>(hf b hb).1,w0⟩;rintro n s3 ⟨i,H3,I3,st3,Ja,w3⟩;rw[hA];show aQ _ X.A (if(Gi e 0 (.ref it) acc X.env).isFrame=ao then(GK e 0 (.ref it) acc X.env).onRaise (leaving X.env) else(GK e 0 (.ref it) acc X.env).onRaise (λx=>do noteFrame x X.env;theTreesLotGoes x)) _ _ s3;rw[hq,bf gw];refine wpAny_noted (noE ?_);rw[hT];unfold turnOf;refine aC (vD (aC ?_));rcases turn i n H3 w3 with⟨stop,qn⟩|⟨go,step⟩
 .refine bH (TT.done X rfl rfl rfl hc i [] s3 _ H3 _ I3 (stat Ja) st3 stop) λr s4 aN=>?_
  obtain⟨hr,I4⟩:=aN
  subst hr;exact aZ (hR H3 s4 _ I4 qn)
 .refine bH (TT.item X rfl rfl rfl hc i [] s3 _ H3 _ I3 (stat Ja) st3 go) λr s4 aN=>?_
  obtain⟨u,hr,h4⟩:=aN
  subst hr;refine aC (bH h4 λ_ s5 aN=>?_)
  obtain⟨x,H5,I5,r5,y5,BL,Xa⟩:=aN
  have Xb:=I5.pinned (stat Xa) (TT.obj _ _ BL)
  obtain⟨vs,hv,q5⟩:=step x H5 y5
  have hvl:=yV.len tk hv;refine aC (an7 tk hN nd hc hl Xb r5 hv λs6 I6=>?_);refine aC (noX (bH (hts _ s6 _ H5 _ I6 q5) λb s7 aN=>?_))
  obtain⟨H7,I7,q7⟩:=aN
  have adM:∀{s8:aB}{H8:Hp},Inv X ([]++Ht fp s5.heap) (vs.map aa++fs) H8 s8->(∃m',m'<n/\W (i+1) m' H8)->
    (Gi e 0 (.ref it) acc X.env=Gi e 0 (.ref it) acc X.env)/\∃m,m<n/\∃i H',Inv X [] (dI NT.length aj++fs) H' s8/\tn i s8.heap/\(∀b∈fp,H' b=aj)/\W i m H':=λ{s8 H8} I8 n8=>by
   obtain⟨m',hm,w8⟩:=n8
   refine⟨rfl,m',hm,i+1,H8,akM hvl I8.Lq,TT.keep _ _ _ BL λb hb o e=>(I8.pin (b,o) (fK _ (fK _ (K5 hb e)))).1,λb hb=>?_,w8⟩
   obtain⟨o,e,d⟩:=TT.obj _ _ BL b hb
   exact(I8.pin (b,o) (fK _ (fK _ (K5 hb e)))).2.1
  cases b with
  |false=>exact aZ (adM I7 q7)
  |true=>exact aC (noX (bH (hem _ s7 _ H7 _ I7 q7) λ_ s8 ⟨H8,I8,q8⟩=>aZ (adM I8 q8)))
end
structure Bk where
 cl:List (Str×aq)
 C:aq
 s:aB
 H:Hp
 fp:List aq
abbrev Cx.bk(X:Cx)(N:List Str)(scope:jT)(b:Bk):Cx:=X.blk N scope b.cl b.C b.s b.H b.fp
section
variable{X:Cx}{NT NF:List Str}{js:List Nat}{elt kx vx tg iter e:Expr}{ifs:List Expr}{T:gY}{wi:TI}{ts:Bk->TT}{te tk' tv:Bk->TE}{scope:jT}{pos:Pos}
def Xg(K:aJ)(wi:TI)(T:gY)(ts:Bk->TT)(te:Bk->TE)(js:List Nat):TE:=λσ H Q=>wi σ H λJ H1=>∀D,H1 D=aj->∀b,yM K T (ts b) (U5 D (te b)) (frees js σ) J (upd H1 D (.lst [])) (Q (.ref D))
theorem adN{pins:List (aq×Obj)}{σ:St}{s2:aB}{H2:Hp}{cl:List (Str×aq)}{it:aq}{fp:List aq}{tn:Nat->bz->Prop}{J:It}{Q:Hp->Prop}{RR:Value->aq->tV->aB->Prop}{E:Value->aB->Prop}
  (B:qR X NT NF js scope)(tk:qm tg NT T)(hc:X.calm=ao)
  (hin:∀b,oU (X.bk (NT++NF) scope b) ifs (ts b)/\PE (X.bk (NT++NF) scope b) elt (te b))
  (q2:∀n c,cl.lookup n=aa c->X.env.cells.lookup n=aa c)(q3:∀y∈scope.names,y.2=.free->∃c,cl.lookup y.1=aa c)
  (I2:Inv X pins σ H2 s2)(TT:Turn X.prog X.w X.K tg J fp it tn)(st2:tn 0 s2.heap)(f2:∀b∈fp,kO X pins H2 b)
  (q:∀b,yM X.K T (ts b) (U5 s2.heap.objs.size (te b)) (frees js σ) J (upd H2 s2.heap.objs.size (.lst [])) Q)
  (hR:∀C H' s' m,Inv X pins σ H' s'->kO X pins H' C->s'.heap.Ns C m->Q H'->RR (.ref s2.heap.objs.size) C (.ok .next) s'):
  aQ (model X.prog X.w) X.A (newList []) (λacc s₃=>aQ (model X.prog X.w) X.A (Zj scope X.env.globals cl [] X.env.qual aj .none (aa X.env)) (λcenv s₄=>
   mC (model X.prog X.w) X.A (.compStart (.ListComp elt [⟨tg,iter,ifs,0⟩] scope pos) 0 (.ref it) acc {cenv with scope:=relabel scope X.env}) (RR acc cenv.locals) s₄) E s₃) E s2:=by
 refine mQ ?_;have hD:H2 s2.heap.objs.size=aj:=I2.hok.fresh (bU _);have I3:Inv X pins σ (upd H2 s2.heap.objs.size (.lst [])) {s2 with heap:=s2.heap.push {cls:=.type "list",dict:=aj,data:=.seq ([]:List Value).toArray}}:=
  I2.laid (t':=s2.toks) (λb o e=>cJ _ e) (bU _) ⟨kI _,[],0,.nil,iI _ rfl⟩
 have hsz:(s2.heap.push {cls:=.type "list",dict:=aj,data:=.seq ([]:List Value).toArray}).objs.size=s2.heap.objs.size+1:=zJ ..;refine Yi B.cell (by intro y hy;simp at hy) (λh₁ hns₁ hsb₁=>?_) B.kind;have vo:∀b∈fp,b<s2.heap.objs.size:=λb hb=>by
  obtain⟨o,e,_⟩:=TT.obj 0 _ st2 b hb
  exact cC e
 have f3:∀b∈fp,kO X pins (upd H2 s2.heap.objs.size (.lst [])) b:=λb hb=>⟨by rw[cV (fL (vo b hb))];exact(f2 b hb).1,(f2 b hb).2⟩
 have keep:∀b o,(s2.heap.push {cls:=.type "list",dict:=aj,data:=.seq ([]:List Value).toArray}).get? b=aa o->h₁.get? b=aa o:=λb o e=>
  hsb₁.extBut b o (fL (cC e)) (cJ _ e)
 have yW:∀b∈fp,b<(s2.heap.push {cls:=.type "list",dict:=aj,data:=.seq ([]:List Value).toArray}).objs.size:=λb hb=>by have:=vo b hb;rw[hsz];exact zB this
 have I4:=I3.blk (s1:={s2 with heap:=h₁,toks:=s2.toks+([]:List (Str×Value)).length}) B q2 q3 f3 yW hns₁ keep rfl I2.bare;have yX:tn 0 h₁:=TT.keep 0 _ _ st2 λb _ o e=>keep b o (cJ _ e)
 obtain⟨i1,i2⟩:=hin ⟨cl,(s2.heap.push {cls:=.type "list",dict:=aj,data:=.seq ([]:List Value).toArray}).objs.size,{s2 with heap:=s2.heap.push {cls:=.type "list",dict:=aj,data:=.seq ([]:List Value).toArray}},upd H2 s2.heap.objs.size (.lst []),fp⟩
 have loop:mC (model X.prog X.w) X.A (.compLoop (.ListComp elt [⟨tg,iter,ifs,0⟩] scope pos) 0 (.ref it) (.ref s2.heap.objs.size) (TX scope cl (s2.heap.push {cls:=.type "list",dict:=aj,data:=.seq ([]:List Value).toArray}).objs.size X.env))
   (RR (.ref s2.heap.objs.size) (s2.heap.push {cls:=.type "list",dict:=aj,data:=.seq ([]:List Value).toArray}).objs.size) {s2 with heap:=h₁,toks:=s2.toks+([]:List (Str×Value)).length}:=by
  refine TY (X:=X.blk (NT++NF) scope cl (s2.heap.push {cls:=.type "list",dict:=aj,data:=.seq ([]:List Value).toArray}).objs.size {s2 with heap:=s2.heap.push {cls:=.type "list",dict:=aj,data:=.seq ([]:List Value).toArray}} (upd H2 s2.heap.objs.size (.lst [])) fp)
   (T:=T) (fs:=frees js σ) (done:=Q) rfl (aiY elt tg iter ifs scope pos _ _ _) rfl rfl rfl tk rfl B.nd hc (λx hx=>Yj (B.tg x hx)) i1 (ajO i2) TT (λb hb=>?_) I4 yX (q _) λH' s' σ' J' qd=>?_
  .exact⟨(f3 b hb).1,fL (yW b hb),λhb2=>by
    rcases bY.mp (I3.Dz b hb2) with z|z
    .exact(f3 b hb).2.1 z
    .exact(f3 b hb).2.2.1 z,.inl hb,λx c e=>(f3 b hb).2.2.2.2.1 x c (q2 x c e),λp hp=>(nomatch(show p∈([]:List (aq×Obj)) from hp))⟩
  .obtain⟨m,hn,_⟩:=J'.loc
   exact hR _ H' s' m (I3.Wk f3 J') (I3.yJ (bU _) J'.free) hn qd
 exact codeAny_compStart_list loop (TT.self _ 0 _ _ _ yX loop)
theorem apf(B:qR X NT NF js scope)(tk:qm tg NT T)(hc:X.calm=ao)(hi:PI X tg iter wi)
  (hin:∀b,oU (X.bk (NT++NF) scope b) ifs (ts b)/\PE (X.bk (NT++NF) scope b) elt (te b))
  (hs:∀x,vB iter X.env x=pure x:=by intro _;rfl):PE X (.ListComp elt [⟨tg,iter,ifs,0⟩] scope pos) (Xg X.K wi T ts te js):=by
 intro pins s σ H Q I h
 obtain⟨cl,hclos,q2,q3⟩:=K7 (env:=X.env) (scope:=scope) λy hy e=>I.ok.has y.1 (B.free y hy e)
 rw[eval_ListComp];refine PN (use:=aj) rfl hs hclos B.kind B.names (bH (hi pins s σ H _ I h) λv s1 h1=>bH h1 λitv s2 aN=>?_)
 obtain⟨it,fp,tn,J,H2,e,I2,TT,st2,f2,q⟩:=aN
 subst e;refine adN (Q:=λH'=>Q (.ref s2.heap.objs.size) H') (RR:=λacc C=>T3 (model X.prog X.w) X.A X.xe aj (EP X pins σ Q) acc C) B tk hc hin q2 q3 I2 TT st2 f2 (q _ (I2.hok.fresh (bU _))) λC H' s' m I' fC hn qd=>?_
 refine⟨m,hn,λh' sb=>⟨.ref s2.heap.objs.size,H',?_,rfl,qd⟩⟩
 exact I'.turned (t':=s'.toks) (λb o hb e=>(sb.2 b hb).trans e) fC.1 fC.2.1 fC.2.2.2.1 fC.2.2.2.2.1 fC.2.2.2.2.2
theorem akN(B:qR X NT NF js scope)(tk:qm tg NT T)(hc:X.calm=ao)(hi:PI X tg iter wi)
  (hin:∀b,oU (X.bk (NT++NF) scope b) ifs (ts b)/\PE (X.bk (NT++NF) scope b) elt (te b))
  (hsw:xV (.ListComp elt [⟨tg,iter,ifs,0⟩] scope pos) (aa (.Name y pos')) spos.line X.env=pure ao)
  (hN:X.N.Nodup)(hI:X.N[i]?=aa y)(hy:X.env.scope.names.lookup y=aa .local)
  (hs:∀x,vB iter X.env x=pure x:=by intro _;rfl):PS X (.Assign [.Name y pos'] (.ListComp elt [⟨tg,iter,ifs,0⟩] scope pos) spos) (Il (Xg X.K wi T ts te js) (Am i)):=by
 intro pins s σ H D I h
 obtain⟨cl,hclos,q2,q3⟩:=K7 (env:=X.env) (scope:=scope) λy hy e=>I.ok.has y.1 (B.free y hy e)
 rw[agw _ _ _ _ hsw];refine aC (vD (aC ?_));show aQ _ X.A (do let _ <-ZJ (.ListComp elt [⟨tg,iter,ifs,0⟩] scope pos) scope X.env _ (newList []) aF (eval iter X.env) (aa (assign (.Name y pos') X.env))) _ _ s;refine aC (pW (PN (use:=aa (assign (.Name y pos') X.env)) (Q:=λ_ s'=>SP X pins D .next s') rfl hs hclos B.kind B.names
  (bH (hi pins s σ H _ I h) λv s1 h1=>bH h1 λitv s2 ⟨it,fp,tn,J,H2,e,I2,TT,st2,f2,q⟩=>?_)) (λ_ s' hq=>aZ (aZ hq)) λ_ _ e=>e)
 subst e;refine adN (Q:=λH'=>D.nx (σ.set i (aa (.ref s2.heap.objs.size))) H') (RR:=λacc C=>T3 (model X.prog X.w) X.A X.xe (aa (assign (.Name y pos') X.env)) (λ_ s'=>SP X pins D .next s') acc C) B tk hc hin q2 q3 I2 TT st2 f2 (q _ (I2.hok.fresh (bU _))) λC H' s' m I' fC hn qd=>?_
 show aQ _ X.A (assign (.Name y pos') X.env (.ref s2.heap.objs.size)) _ _ _;refine JK (SQ I' hN hI (.inl hy) (v:=.ref s2.heap.objs.size) rfl (λs3 I3 aN=>?_) (.inr hy))
 obtain⟨a,sb,ha⟩:=aN
 have Xh:C≠a:=by
  rcases ha with z|z
  .rw[z];exact fC.2.1
  .exact λw=>fC.2.2.2.2.1 y a z w.symm
 refine⟨m,hn.sameBut sb Xh,λh' sb'=>⟨_,H',?_,qd⟩⟩
 exact I3.turned (t':=s3.toks) (λb o hb e=>(sb'.2 b hb).trans e) fC.1 fC.2.1 fC.2.2.2.1 fC.2.2.2.2.1 fC.2.2.2.2.2
end
def Xi(z:Str):It:=⟨λi _=>i<z.cps.size,λi H x H'=>H'=H/\∃c,z.cps[i]?=aa c/\x=.str ⟨#[c]⟩,λi _=>z.cps.size<=i⟩
theorem akO{P:bD}{w:bB}{K:aJ}{tg:Expr}{z:Str}{t:Tok}{ty:String}{it:aq}(hty:ty="str_ascii_iterator"\/ty="str_iterator")(hgo:∀i u,zG tg i u=pure ()):
  Turn P w K tg (Xi z) [it] it (λi h=>h.IsStrIter it ty z t i) where
 mem:=by simp
 obj:=λi h st b hb=>by
  have e:b=it:=by simpa using hb
  subst e
  obtain⟨o,e,c,d⟩:=st
  exact⟨o,e,λv q=>by rw[d] at q;cases q⟩
 keep:=λi h h' st k=>let ⟨o,ho,r⟩:=st;⟨o,k it (by simp) o ho,r⟩
 item:=by
  intro X hP hw hK hc i pins s σ H E I hf st hg;subst hP hw hK
  obtain⟨f0,f1,f2,f3,f4,f5⟩:=hf it (by simp)
  have hi:i<z.cps.size:=hg;have W:Ar X.prog X.w X.A it [it] [it] z.cps.size (SignAt z) (λi h=>h.IsStrIter it ty z t i):=by
   rcases hty with rfl|rfl
   .exact Walks.strAscii (I.ok.hd hc) it z t
   .exact Walks.strWide (I.ok.hd hc) it z t
  refine W.item i s _ _ hi st λv h' tk hv st' kk=>?_
  obtain⟨c,u,hc',rfl⟩:=hv
  have I1:Inv X pins σ H {s with heap:=h',toks:=tk}:=I.turned (λb o hb e=>kk b o (by simpa using hb) e) f0 f1 f3 f4 f5
  refine⟨_,rfl,?_⟩
  rw[hgo];exact aZ ⟨.str ⟨#[c]⟩,H,I1,⟨u,rfl⟩,⟨rfl,c,hc',rfl⟩,st',λb hb=>(hf b hb).1⟩
 done:=by
  intro X hP hw hK hc i pins s σ H E I hf st hg;subst hP hw hK
  obtain⟨f0,f1,f2,f3,f4,f5⟩:=hf it (by simp)
  have hi:z.cps.size<=i:=hg;rcases hty with rfl|rfl
  .exact wpAny_pyNext_ascii_end (I.ok.hd hc) st (by simpa using hi) λh' eb=>⟨rfl,I.turned (t':=s.toks) (λb o hb e=>eb b o hb e) f0 f1 f3 f4 f5⟩
  .exact wpAny_pyNext_wide_end (I.ok.hd hc) st (by simpa using hi) λh' eb=>⟨rfl,I.turned (t':=s.toks) (λb o hb e=>eb b o hb e) f0 f1 f3 f4 f5⟩
 self:=λ_ _ _ _ _ st h=>by
  rcases hty with rfl|rfl
  .exact wpAny_pyIter_striter_ascii st h
  .exact wpAny_pyIter_striter_wide st h
section
variable{X:Cx}{tg:Expr}
def aqe(tl:TE):TI:=λσ H R=>tl σ H λx H1=>∃z,x=.str z/\R (Xi z) H1
theorem adO{l:Expr}{tl:TE}(hl:PE X l tl)(hgo:∀i u,zG tg i u=pure ():=by intro _ _;rfl):PI X tg l (aqe tl):=by
 intro pins s σ H R I h;refine bH (hl pins s σ H _ I h) λv s1 aN=>?_
 obtain⟨x,H1,I1,r1,q1⟩:=aN
 obtain⟨z,e,q⟩:=q1
 subst e
 obtain⟨t,rfl⟩:=r1
 have fin:∀(o:Obj)(ty:String),(ty="str_ascii_iterator"\/ty="str_iterator")->Heap.IsStrIter (s1.heap.push o) s1.heap.objs.size ty z t 0->PIE X pins σ tg R (.ref s1.heap.objs.size) {s1 with heap:=s1.heap.push o}:=λo ty hty st=>by
  refine⟨s1.heap.objs.size,[s1.heap.objs.size],_,_,H1,rfl,I1.kept (t':=s1.toks) λb o e=>cJ _ e,akO hty hgo,st,λb hb=>?_,q⟩
  have e:b=s1.heap.objs.size:=by simpa using hb
  subst e;exact I1.yJ (bU _) (I1.hok.fresh (bU _))
 cases ha:z.cps.all (·<128)
 .exact wpAny_pyIter_wide ha (fin _ _ (.inr rfl) ⟨_,iI _ rfl,rfl,rfl⟩)
 .exact wpAny_pyIter_ascii ha (fin _ _ (.inl rfl) ⟨_,iI _ rfl,rfl,rfl⟩)
theorem ajP:cM X (fj .LtE) (λx y H Q=>∃i j,x=.str i/\y=.str j/\Q (.bl (!(decide (j.cps.toList<i.cps.toList)))) H):=by
 intro pins s σ H x y v u Q I rx ry h
 obtain⟨i,j,rfl,rfl,q⟩:=h
 obtain⟨t,rfl⟩:=rx
 obtain⟨t',rfl⟩:=ry
 exact PySem.P.le_str (gb I q rfl)
theorem K8:∀{ys:List Str}{us:List Value},Vals (ys.map V.str) us->StrsAre us ys
 |[],_,h=>by cases h;exact .nil
 |y::ys,_,h=>by
  cases h with
  |cons r rr=>
   obtain⟨t,rfl⟩:=r
   exact .cons y t (K8 rr)
theorem amh:wW X "str.join" (λx xs H Q=>∃z p ys,x=.str z/\xs=[.ref p]/\bO X.K H p (ys.map V.str)/\(ys.map (·.length)).sum+ys.length*z.length<=16777216/\Q (.str (Txt.join z ys)) H):=by
 intro pins s σ H x xs v us Q I rx r h
 obtain⟨z,p,ys,rfl,rfl,hp,hz,q⟩:=h
 obtain⟨t,rfl⟩:=rx
 obtain⟨u,rfl,ru⟩:=vals1 r
 cases ru
 obtain⟨its,rv,pl,_⟩:=I.list hp
 exact join_list pl.isList (by simpa using K8 rv) hz λt' k=>⟨.str _,H,I.tok _,⟨_,rfl⟩,q⟩
end
section
variable{X:Cx}
theorem part_of(h:uX v o):∃l:Option (Int×Tok),v=partValue l/\l.map (·.1)=o:=by
 cases h with
 |none=>exact⟨aj,rfl,rfl⟩
 |int i t=>exact⟨aa (i,t),rfl,rfl⟩
theorem an8:wV X (λx lo hi H Q=>∃z,x=.str z/\z.length<=bW/\Q (.str (Txt.slice z lo hi)) H):=by
 intro pins s σ H x v vl vu lo hi sl Q I rx hs pl pu h
 obtain⟨z,rfl,hz,q⟩:=h
 obtain⟨t,rfl⟩:=rx
 obtain⟨l,rfl,rfl⟩:=part_of pl
 obtain⟨u,rfl,rfl⟩:=part_of pu
 refine⟨"str",_,F.slot_str_getitem.lookup,aar s z t,?_⟩
 exact wpAny_getItem_str_slice (l:=l) (u:=u) (st:=aj) hs rfl (post_val_or_str ⟨jQ (Txt.slice_le z _ _) hz,λt' k=>⟨.str _,H,I.tok _,⟨t',rfl⟩,q⟩⟩)
theorem abA:∀{bs:List Bool}{us:List Value},Vals (bs.map V.bl) us->us=bs.map rJ
 |[],_,h=>by cases h;rfl
 |b::bs,_,h=>by
  cases h with
  |cons r rr=>
   cases r;rw[abA rr];rfl
theorem T4(hc:X.calm=ao):gQ X (.builtin "all") (λxs H Q=>∃(p:aq)(bs:List Bool),xs=[.ref p]/\bO X.K H p (bs.map V.bl)/\Q (.bl (bs.all id)) H):=by
 intro pins s σ H xs us Q I r h
 obtain⟨p,bs,rfl,hp,q⟩:=h
 obtain⟨u,rfl,ru⟩:=vals1 r
 cases ru
 obtain⟨its,rv,pl,_⟩:=I.list hp
 have hl:=pl.isList;have e0:=abA rv;subst e0;have hlt:p<s.heap.objs.size:=by obtain⟨_,e,_⟩:=hl;exact cC e
 refine call_all_walk (Yv hl ?_)
 refine⟨s.heap.objs.size,[s.heap.objs.size,p],[s.heap.objs.size],(bs.map rJ).toArray.size,_,_,λi=>(bs[i]?).getD ao,rfl,ai0 (A:=X.A.in1) (I.ok.hd hc) _ p (fL hlt) (bs.map rJ).toArray,
  ⟨⟨_,iI _ rfl,rfl,rfl⟩,hl.push _⟩,λi v s' Q' E' hP hQ=>?_,λh' tk hk=>?_⟩
 .have hP':(bs.map rJ)[i]?=aa v:=by simpa using hP
  rw[jm] at hP';cases e:bs[i]? with
  |none=>rw[e] at hP';cases hP'
  |some b=>
   rw[e] at hP';cases hP';simp only[e,zE] at hQ;exact xJ hQ
 .have e:((fP (bs.map rJ).toArray.size).all λi=>(bs[i]?).getD ao)=bs.all id:=by
   have:(bs.map rJ).toArray.size=bs.length:=by simp
   rw[this,pU,oX,oX];constructor
   .intro h b hb
    obtain⟨i,hi,rfl⟩:=zy hb
    have:=h i (uL.mpr hi);simpa[jX hi] using this
   .intro h i hi;have hi':=uL.mp hi;simp only[jX hi',zE];exact h _ (zF hi')
  rw[e]
  refine⟨.bl _,H,I.kept λb x e=>hk b x (λhm=>?_) (cJ _ e),rfl,q⟩
  rw[jb.mp hm] at e;exact xR _ (cC e)
end
mutual
def RD(K:aJ)(H:Hp):au->V->Prop
 |.none,v=>v=.non
 |.bool b,v=>v=.bl b
 |.int i,v=>v=.int i
 |.str x,v=>v=.str x
 |.tuple ds,v=>∃a vs,v=.ref a/\cW K H a vs/\pP K H ds vs
 |.list ds,v=>∃a vs,v=.ref a/\bO K H a vs/\pP K H ds vs
 |.dict _,_=>False
def pP(K:aJ)(H:Hp):List au->List V->Prop
 |[],vs=>vs=[]
 |d::ds,vs=>∃v r,vs=v::r/\RD K H d v/\pP K H ds r
end
theorem cW.same{K:aJ}{H H':Hp}{a:aq}{xs:List V}(e:∀b ys,H b=aa (.tup ys)->H' b=aa (.tup ys))(ef:∀b o u,H b=aa (.mZ o u)->H' b=aa (.mZ o u))(h:cW K H a xs):cW K H' a xs:=by
 rcases h with(h|⟨o,h⟩)|h
 .exact .inl (.inl (e _ _ h))
 .exact .inl (.inr ⟨o,ef _ _ _ h⟩)
 .exact .inr h
mutual
theorem RD.same{K:aJ}{H H':Hp}(e:bJ H H'):∀{d:au}{v:V},RD K H d v->RD K H' d v
 |.none,_,h=>h
 |.bool _,_,h=>h
 |.int _,_,h=>h
 |.str _,_,h=>h
 |.tuple ds,v,h=>by
  obtain⟨a,vs,e1,q,r⟩:=h
  exact⟨a,vs,e1,q.same (λb ys z=>e _ _ z) (λb o u z=>e _ _ z),pP.same e r⟩
 |.list ds,v,h=>by
  obtain⟨a,vs,e1,q,r⟩:=h
  exact⟨a,vs,e1,e.seq q,pP.same e r⟩
theorem pP.same{K:aJ}{H H':Hp}(e:bJ H H'):∀{ds:List au}{vs:List V},pP K H ds vs->pP K H' ds vs
 |[],_,h=>h
 |d::ds,vs,h=>by
  obtain⟨v,r,e1,q,t⟩:=h
  exact⟨v,r,e1,RD.same e q,pP.same e t⟩
end
section
variable{X:Cx}{pins:List (aq×Obj)}{σ:St}{H:Hp}{s:aB}
mutual
theorem RD.reads(I:Inv X pins σ H s):∀{d:au}{v:V}{u:Value},RD X.K H d v->RelV v u->∃as,Reads s.heap u d as
 |.none,_,_,h,r=>by
  cases(show _=V.non from h)
  cases r
  exact⟨_,.none⟩
 |.bool b,_,_,h,r=>by
  cases(show _=V.bl b from h)
  cases r
  exact⟨_,.bool b⟩
 |.int i,_,_,h,r=>by
  cases(show _=V.int i from h)
  obtain⟨t,rfl⟩:=r
  exact⟨_,.int i t⟩
 |.str x,_,_,h,r=>by
  cases(show _=V.str x from h)
  obtain⟨t,rfl⟩:=r
  exact⟨_,.str x t⟩
 |.tuple ds,v,u,h,r=>by
  obtain⟨a,vs,e1,q,t⟩:=h
  subst e1;cases r
  obtain⟨its,rv,⟨o,e,c,n,d⟩,_⟩:=I.tuple q
  obtain⟨as,R⟩:=pP.reads I t rv
  exact⟨_,.tuple e c d (by simpa using R)⟩
 |.list ds,v,u,h,r=>by
  obtain⟨a,vs,e1,q,t⟩:=h
  subst e1;cases r
  obtain⟨its,rv,⟨o,n,e,c,_,d⟩,_⟩:=I.list q
  obtain⟨as,R⟩:=pP.reads I t rv
  exact⟨_,.list e c d (by simpa using R)⟩
theorem pP.reads(I:Inv X pins σ H s):∀{ds:List au}{vs:List V}{us:List Value},pP X.K H ds vs->Vals vs us->∃as,ReadsAll s.heap us ds as
 |[],_,_,h,r=>by
  cases(show _=[] from h)
  cases r
  exact⟨_,.nil⟩
 |d::ds,vs,us,h,r=>by
  obtain⟨v,rr,e1,q,t⟩:=h
  subst e1;cases r with
  |cons r1 r2=>
   obtain⟨as,R⟩:=RD.reads I q r1
   obtain⟨bs,R2⟩:=pP.reads I t r2
   exact⟨_,.cons R R2⟩
end
end
section
variable{X:Cx}
end
def adP(lH:jT)(N0 NT NF:List Str)(js:List Nat)(scope:jT):Bool:=
 scope.kind==.function&&scope.names.all (λy=>!(y.2==.local)||scope.names.lookup y.1==some .local)&&scope.names.all (λy=>!(y.2==.cell))&&
  scope.names.all (λy=>!(y.2==.free)||(lH.names.lookup y.1==aa .cell||lH.names.lookup y.1==aa .free))&&js.length==NF.length&&
  (js.zip NF).all (λp=>N0[p.1]?==aa p.2&&scope.names.lookup p.2==aa .free)&&NT.all (λx=>scope.names.lookup x==aa .local)&&decide (NT++NF).Nodup
theorem nP.ok(h:adP lH N0 NT NF js scope=ao)(ho:X.env.scope=lH)(hN:X.N=N0):qR X NT NF js scope:=by
 unfold adP at h;simp only[jn] at h
 obtain⟨⟨⟨⟨⟨⟨⟨h1,h2⟩,h3⟩,h4⟩,h5⟩,h6⟩,h7⟩,h8⟩:=h
 refine⟨eq_of_beq h1,λy hy e=>?_,λy hy e=>?_,λy hy e=>?_,by simpa using h5,λk j x ej ex=>?_,λx hx=>?_,of_decide_eq_true h8⟩
 .have:=oX.mp h2 y hy;rw[e] at this;simpa using this
 .have:=oX.mp h3 y hy;rw[e] at this;simp at this
 .have:=oX.mp h4 y hy;rw[e] at this;rw[ho];simpa using this
 .have hm:(j,x)∈js.zip NF:=by
   have:(js.zip NF)[k]?=aa (j,x):=by
    rw[List.getElem?_zip_eq_some]
    exact⟨ej,ex⟩
   exact qF this
  have:=oX.mp h6 _ hm;simp only[jn] at this;rw[hN]
  exact⟨eq_of_beq this.1,eq_of_beq this.2⟩
 .exact eq_of_beq (oX.mp h7 x hx)
structure cZ(P:bD)(w:bB)(K:aJ)(mg:Str->Option Value)(base:bz)(x:Str)(k:Nat)(ps:List Str)(sp:Sp):Prop where
 ex:∃(f:aq)(fd:dF),mg x=aa (.ref f)/\xQ K (.ref f)=ao/\Binds K fd ps []/\dw P w K mg base eG k f fd ps sp
section
variable{X:Cx}{x:Str}{k:Nat}{ps:List Str}{sp:Sp}{p pos:Pos}{e:Expr}{es:List Expr}{t:TA}
theorem aey(F:cZ X.prog X.w X.K X.mg X.base x k ps sp)(hr:jh k X.A)(hg:Gl X x)(ha:PA X (e::es) t)(hdb:(x==("__debug__":Str))=aF:=by decide)
  (he:bC (e::es) X.env=(aF,eval e X.env)::bC es X.env:=by rfl)(hpl:(f9 pos (bC es X.env)).any (·.1)=aF:=by rfl):
  PE X (.Call (.Name x p) (e::es) [] pos) (NK sp [] E0 t):=by
 obtain⟨f,fd,h1,h2,h3,h4⟩:=F.ex
 exact al3 h4 hr hg h1 h2 h3 .nil ape ha hdb he hpl
theorem aiH:gQ X (.builtin "isinstance") (λxs H Q=>∃x n t b,xs=[x,.ty n]/\nM X.K H x t/\Cy X.K t (.type n)=aa b/\Q (.bl b) H):=by
 intro pins s σ H xs us Q I r h
 obtain⟨x,n,t,b,rfl,ty,e,q⟩:=h
 obtain⟨u,u2,rfl,r1,r2⟩:=vals2 r
 cases r2;exact ajE I r1 ty e λtk=>⟨.bl b,H,I.tok tk,rfl,q⟩
end
structure Fx(K:aJ)(T:gY)(J:It)(n:Nat)(vs:Nat->List V)(G:Hp->Prop):Prop where
 go:∀i H,i<n->G H->J.go i H
 yS:∀i H x H',i<n->G H->J.yS i H x H'->H'=H/\yV K T x H (vs i)
 stop:∀H,G H->J.stop n H
section
variable{K:aJ}{T:gY}{J:It}{n:Nat}{vs:Nat->List V}{G:Hp->Prop}{ts:TT}{te:TE}{fs:St}{H1:Hp}{D:aq}{done:Hp->Prop}
end
theorem ami(h:n<=m)(hm:m<=16777216:=by decide):n<=bW:=by rw[iM];lia
section
variable{K:aJ}{T:gY}{J:It}{n:Nat}{vs:Nat->List V}{G:Hp->Prop}{te:TE}{fs:St}{H1:Hp}{D:aq}{done:Hp->Prop}
end
section
variable{X:Cx}
theorem wW.r{id:String}{r:V->List V->Hp->VK->Prop}(h:wW X id r):Ew X id r:=h
theorem ahW:cM X (fj .IsNot) (λx y H Q=>∃a b,x=.bl a/\y=.bl b/\Q (.bl (a != b)) H):=by
 intro pins s σ H x y v u Q I rx ry h
 obtain⟨a,b,rfl,rfl,q⟩:=h
 cases rx;cases ry;exact isnot_bool (gb I q rfl)
end
def Ext(p:aq)(H H':Hp):Prop:=∀b o,H b=aa o->b≠p->H' b=aa o
theorem Ext.refl(p:aq)(H:Hp):Ext p H H:=λ_ _ h _=>h
theorem Ext.trans(a:Ext p H H1)(b:Ext p H1 H2):Ext p H H2:=λc o h hc=>b c o (a c o h hc) hc
theorem bJ.ext(s:bJ H H'):Ext p H H':=λb o h _=>s b o h
theorem Ext.upd:Ext p H (upd H p o):=λb u h hb=>by rw[cV hb];exact h
theorem bJ.upd(h:H p=aj):bJ H (L2.upd H p o):=λb u e=>by rw[cV (qL e h)];exact e
def WX(D:aq)(tk tv:TE):TM:=λσ H Q=>tk σ H λy H1=>tv σ H1 λz H2=>∃kvs k,H2 D=aa (.dK kvs)/\y=kV k/\kvs.length<bW/\Q (upd H2 D (.dK (putK kvs k z)))
theorem an9(hu:X.A.units+1<fV)(hk:PE X kx tk)(hv:PE X vx tv):PM X (do
      let kv <-eval kx X.env
      let vv <-rP [kv] (eval vx X.env)
      uU {kx.pos with endLine:=vx.pos.endLine,endCol:=vx.pos.endCol}
      rP [kv,vv] (dictSet D kv vv)) (WX D tk tv):=by
 intro pins s σ H Q I h;refine aC (bH (hk pins s σ H _ I h) λkv s1 aN=>?_)
 obtain⟨y,H1,I1,r1,q1⟩:=aN
 refine aC (nj (bH (hv pins s1 σ H1 _ I1 q1) λvv s2 aN=>?_))
 obtain⟨z,H2,I2,r2,kvs,k,hD,ey,hl,q2⟩:=aN
 subst ey;refine aC (vD (nj ?_))
 obtain⟨z1,hd,vs,rel,dd⟩:=NZ I2.hok hD
 have hz:vs.length<=bW:=by rw[<-rel.length];exact z1
 have hl2:(putK kvs k z).length<=bW:=by have:=Kw kvs k z;lia
 refine wpAny_dictSet_pairs (hsz:=hz) (yz r1) dd λh' vm hs=>⟨_,?_,q2⟩
 have he:∃q,h'.get? D=aa q:=let ⟨q,_,_,hq,_⟩:=vm;⟨q,hq⟩
 exact Ab I2 (by rw[hD];exact nu) hs he (Nb hl2 hd (rel.put k r2) vm)
section
variable{X:Cx}{NT NF:List Str}{js:List Nat}{elt kx vx tg iter e:Expr}{ifs:List Expr}{T:gY}{wi:TI}{ts:Bk->TT}{te tk' tv:Bk->TE}{scope:jT}{pos:Pos}
def tDC(K:aJ)(wi:TI)(T:gY)(ts:Bk->TT)(tk' tv:Bk->TE)(js:List Nat):TE:=λσ H Q=>wi σ H λJ H1=>∀D,H1 D=aj->∀b,yM K T (ts b) (WX D (tk' b) (tv b)) (frees js σ) J (upd H1 D (.dK [])) (Q (.ref D))
theorem aoa{pins:List (aq×Obj)}{σ:St}{s2:aB}{H2:Hp}{cl:List (Str×aq)}{it:aq}{fp:List aq}{tn:Nat->bz->Prop}{J:It}{Q:Hp->Prop}{RR:Value->aq->tV->aB->Prop}{E:Value->aB->Prop}
  (B:qR X NT NF js scope)(tk:qm tg NT T)(hc:X.calm=ao)(hu:X.A.units+1<fV)
  (hin:∀b,oU (X.bk (NT++NF) scope b) ifs (ts b)/\PE (X.bk (NT++NF) scope b) kx (tk' b)/\PE (X.bk (NT++NF) scope b) vx (tv b))
  (q2:∀n c,cl.lookup n=aa c->X.env.cells.lookup n=aa c)(q3:∀y∈scope.names,y.2=.free->∃c,cl.lookup y.1=aa c)
  (I2:Inv X pins σ H2 s2)(TT:Turn X.prog X.w X.K tg J fp it tn)(st2:tn 0 s2.heap)(f2:∀b∈fp,kO X pins H2 b)
  (q:∀b,yM X.K T (ts b) (WX s2.heap.objs.size (tk' b) (tv b)) (frees js σ) J (upd H2 s2.heap.objs.size (.dK [])) Q)
  (hR:∀C H' s' m,Inv X pins σ H' s'->kO X pins H' C->s'.heap.Ns C m->Q H'->RR (.ref s2.heap.objs.size) C (.ok .next) s'):
  aQ (model X.prog X.w) X.A (newDict) (λacc s₃=>aQ (model X.prog X.w) X.A (Zj scope X.env.globals cl [] X.env.qual aj .none (aa X.env)) (λcenv s₄=>
   mC (model X.prog X.w) X.A (.compStart (.DictComp kx vx [⟨tg,iter,ifs,0⟩] scope pos) 0 (.ref it) acc {cenv with scope:=relabel scope X.env}) (RR acc cenv.locals) s₄) E s₃) E s2:=by
 refine mQ ?_;have hD:H2 s2.heap.objs.size=aj:=I2.hok.fresh (bU _);have I3:Inv X pins σ (upd H2 s2.heap.objs.size (.dK [])) {s2 with heap:=s2.heap.push {cls:=.type "dict",dict:=aj,data:=.dict #[]}}:=
  I2.laid (t':=s2.toks) (λb o e=>cJ _ e) (bU _) (TV s2.heap I2.big)
 have hsz:(s2.heap.push {cls:=.type "dict",dict:=aj,data:=.dict #[]}).objs.size=s2.heap.objs.size+1:=zJ ..;refine Yi B.cell (by intro y hy;simp at hy) (λh₁ hns₁ hsb₁=>?_) B.kind;have vo:∀b∈fp,b<s2.heap.objs.size:=λb hb=>by
  obtain⟨o,e,_⟩:=TT.obj 0 _ st2 b hb
  exact cC e
 have f3:∀b∈fp,kO X pins (upd H2 s2.heap.objs.size (.dK [])) b:=λb hb=>⟨by rw[cV (fL (vo b hb))];exact(f2 b hb).1,(f2 b hb).2⟩
 have keep:∀b o,(s2.heap.push {cls:=.type "dict",dict:=aj,data:=.dict #[]}).get? b=aa o->h₁.get? b=aa o:=λb o e=>
  hsb₁.extBut b o (fL (cC e)) (cJ _ e)
 have yW:∀b∈fp,b<(s2.heap.push {cls:=.type "dict",dict:=aj,data:=.dict #[]}).objs.size:=λb hb=>by have:=vo b hb;rw[hsz];exact zB this
 have I4:=I3.blk (s1:={s2 with heap:=h₁,toks:=s2.toks+([]:List (Str×Value)).length}) B q2 q3 f3 yW hns₁ keep rfl I2.bare;have yX:tn 0 h₁:=TT.keep 0 _ _ st2 λb _ o e=>keep b o (cJ _ e)
 obtain⟨i1,i2,i3⟩:=hin ⟨cl,(s2.heap.push {cls:=.type "dict",dict:=aj,data:=.dict #[]}).objs.size,{s2 with heap:=s2.heap.push {cls:=.type "dict",dict:=aj,data:=.dict #[]}},upd H2 s2.heap.objs.size (.dK []),fp⟩
 have loop:mC (model X.prog X.w) X.A (.compLoop (.DictComp kx vx [⟨tg,iter,ifs,0⟩] scope pos) 0 (.ref it) (.ref s2.heap.objs.size) (TX scope cl (s2.heap.push {cls:=.type "dict",dict:=aj,data:=.dict #[]}).objs.size X.env))
   (RR (.ref s2.heap.objs.size) (s2.heap.push {cls:=.type "dict",dict:=aj,data:=.dict #[]}).objs.size) {s2 with heap:=h₁,toks:=s2.toks+([]:List (Str×Value)).length}:=by
  refine TY (X:=X.blk (NT++NF) scope cl (s2.heap.push {cls:=.type "dict",dict:=aj,data:=.dict #[]}).objs.size {s2 with heap:=s2.heap.push {cls:=.type "dict",dict:=aj,data:=.dict #[]}} (upd H2 s2.heap.objs.size (.dK [])) fp)
   (T:=T) (fs:=frees js σ) (done:=Q) rfl (aiZ kx vx tg iter ifs scope pos _ _ _) rfl rfl rfl tk rfl B.nd hc (λx hx=>Yj (B.tg x hx)) i1 (an9 hu i2 i3) TT (λb hb=>?_) I4 yX (q _) λH' s' σ' J' qd=>?_
  .exact⟨(f3 b hb).1,fL (yW b hb),λhb2=>by
    rcases bY.mp (I3.Dz b hb2) with z|z
    .exact(f3 b hb).2.1 z
    .exact(f3 b hb).2.2.1 z,.inl hb,λx c e=>(f3 b hb).2.2.2.2.1 x c (q2 x c e),λp hp=>(nomatch(show p∈([]:List (aq×Obj)) from hp))⟩
  .obtain⟨m,hn,_⟩:=J'.loc
   exact hR _ H' s' m (I3.Wk f3 J') (I3.yJ (bU _) J'.free) hn qd
 exact codeAny_compStart_dict loop (TT.self _ 0 _ _ _ yX loop)
theorem akP(B:qR X NT NF js scope)(tk:qm tg NT T)(hc:X.calm=ao)(hu:X.A.units+1<fV)(hi:PI X tg iter wi)
  (hin:∀b,oU (X.bk (NT++NF) scope b) ifs (ts b)/\PE (X.bk (NT++NF) scope b) kx (tk' b)/\PE (X.bk (NT++NF) scope b) vx (tv b))
  (hsw:xV (.DictComp kx vx [⟨tg,iter,ifs,0⟩] scope pos) (aa (.Name y pos')) spos.line X.env=pure ao)
  (hN:X.N.Nodup)(hI:X.N[i]?=aa y)(hy:X.env.scope.names.lookup y=aa .local)
  (hs:∀x,vB iter X.env x=pure x:=by intro _;rfl):PS X (.Assign [.Name y pos'] (.DictComp kx vx [⟨tg,iter,ifs,0⟩] scope pos) spos) (Il (tDC X.K wi T ts tk' tv js) (Am i)):=by
 intro pins s σ H D I h
 obtain⟨cl,hclos,q2,q3⟩:=K7 (env:=X.env) (scope:=scope) λy hy e=>I.ok.has y.1 (B.free y hy e)
 rw[agw _ _ _ _ hsw];refine aC (vD (aC ?_));show aQ _ X.A (do let _ <-ZJ (.DictComp kx vx [⟨tg,iter,ifs,0⟩] scope pos) scope X.env _ (newDict) aF (eval iter X.env) (aa (assign (.Name y pos') X.env))) _ _ s;refine aC (pW (PN (use:=aa (assign (.Name y pos') X.env)) (Q:=λ_ s'=>SP X pins D .next s') rfl hs hclos B.kind B.names
  (bH (hi pins s σ H _ I h) λv s1 h1=>bH h1 λitv s2 ⟨it,fp,tn,J,H2,e,I2,TT,st2,f2,q⟩=>?_)) (λ_ s' hq=>aZ (aZ hq)) λ_ _ e=>e)
 subst e;refine aoa (hu:=hu) (Q:=λH'=>D.nx (σ.set i (aa (.ref s2.heap.objs.size))) H') (RR:=λacc C=>T3 (model X.prog X.w) X.A X.xe (aa (assign (.Name y pos') X.env)) (λ_ s'=>SP X pins D .next s') acc C) B tk hc (hin:=hin) q2 q3 I2 TT st2 f2 (q _ (I2.hok.fresh (bU _))) λC H' s' m I' fC hn qd=>?_
 show aQ _ X.A (assign (.Name y pos') X.env (.ref s2.heap.objs.size)) _ _ _;refine JK (SQ I' hN hI (.inl hy) (v:=.ref s2.heap.objs.size) rfl (λs3 I3 aN=>?_) (.inr hy))
 obtain⟨a,sb,ha⟩:=aN
 have Xh:C≠a:=by
  rcases ha with z|z
  .rw[z];exact fC.2.1
  .exact λw=>fC.2.2.2.2.1 y a z w.symm
 refine⟨m,hn.sameBut sb Xh,λh' sb'=>⟨_,H',?_,qd⟩⟩
 exact I3.turned (t':=s3.toks) (λb o hb e=>(sb'.2 b hb).trans e) fC.1 fC.2.1 fC.2.2.2.1 fC.2.2.2.2.1 fC.2.2.2.2.2
end
section
variable{X:Cx}
theorem amj{K:aJ}{t:Value}{c d:Value}{p q:Bool}(e1:Cy K t c=aa p)(e2:Cy K t d=aa q):QS K t [c,d]=aa (p||q):=by
 unfold QS;rw[e1];cases p with
 |true=>rfl
 |false=>
  unfold QS;rw[e2];cases q with
  |true=>rfl
  |false=>rfl
end
structure Fy(K:aJ)(T:gY)(J:It)(n:Nat)(vs:Nat->List V)(G:Hp->Prop):Prop where
 go:∀i H,i<n->G H->J.go i H
 yS:∀i H x H',i<n->G H->J.yS i H x H'->bJ H H'/\yV K T x H' (vs i)
 stop:∀H,G H->J.stop n H
section
variable{K:aJ}{T:gY}{J:It}{n:Nat}{vs:Nat->List V}{G:Hp->Prop}{ts:TT}{te:TE}{fs:St}{H1:Hp}{D:aq}{done:Hp->Prop}
end
theorem Inv.U6{X:Cx}{pins:List (aq×Obj)}{σ:St}{H H':Hp}{s:aB}{h':bz}{t':Nat}{ch:List aq}(I:Inv X pins σ H s)(k:∀b o,b∉ch->s.heap.get? b=aa o->h'.get? b=aa o)(hf:∀b∈ch,kO X pins H b)
  (hs:bJ H H')(hfr:∀b o,s.heap.get? b=aa o->H b=aj->H' b=aj)(hn:∀b u,H' b=aa u->H b=aa u\/fB X.prog X.w H' h' b u):Inv X pins σ H' {s with heap:=h',toks:=t'}:=by
 have I9:∀b u,H b=aa u->b∉ch:=λb u e z=>by rw[(hf b z).1] at e;cases e
 refine I.step (g':=s.gens) (d':=s.drawn) (ch:=ch) (λb hb=>⟨(hf b hb).2.2.2.1,(hf b hb).2.1,(hf b hb).2.2.2.2.1,(hf b hb).2.2.2.2.2⟩) (λb o _ _ hc e _=>k b o hc e) (λb o _ _ hc e _=>⟨o.slots,k b o hc e⟩) (λb o _ e n=>hfr b o e n)
  (λb o hc e=>⟨o,k b o hc e⟩) (λ_ _ e=>hs _ _ e) (λ_ _ _ e=>hs _ _ e) (λb ps e=>⟨#[],by rw[hs _ _ e];simp⟩) (λm hm=>?_) (λb u e=>?_) I.bare
 .obtain⟨o,es,ep,ho,r⟩:=hm
  exact⟨o,es,ep,k _ o (λz=>(hf _ z).2.1 rfl) ho,r⟩
 .rcases hn b u e with z|z
  .refine(I.hok b u z).stay (λc v hc q=>k c v ?_ q) (λ_ q=>hs _ _ q) λ_ _ q=>hs _ _ q
   rcases hc with y|y
   .rw[y];exact I9 b u z
   .exact I9 c _ y
  .exact z
def Xj(K:aJ)(a b:aq):It:=⟨λi H=>∃xs ys,bO K H a xs/\bO K H b ys/\i<min xs.length ys.length,
 λi H v H'=>∃p x y,H p=aj/\v=.ref p/\H'=upd H p (.tup [x,y])/\∀xs ys,bO K H a xs->bO K H b ys->xs[i]?=aa x/\ys[i]?=aa y,
 λi H=>∃xs ys,bO K H a xs/\bO K H b ys/\i=min xs.length ys.length⟩
theorem akQ{P:bD}{w:bB}{K:aJ}{es:List Expr}{k:Nat}{ps:Pos}{a b z TI TO i1 i2:aq}(D:ZipApart z TI TO i1 i2 a b):
  Turn P w K (.Tuple es k ps) (Xj K a b) [z,TI,TO,i1,i2] z (λi h=>IsZip h z TI TO .none/\IsPair h TI (.ref i1) (.ref i2)/\(∃c d,IsPair h TO c d)/\h.IsListIter i1 a i/\h.IsListIter i2 b i) where
 mem:=by simp
 obj:=λi h st c hc=>by
  obtain⟨h1,h2,⟨_,_,h3⟩,⟨o4,e4,_,d4⟩,⟨o5,e5,_,d5⟩⟩:=st
  simp only[bY,oA,or_false] at hc;rcases hc with rfl|rfl|rfl|rfl|rfl
  .exact⟨_,h1,λv q=>by cases q⟩
  .exact⟨_,h2,λv q=>by cases q⟩
  .exact⟨_,h3,λv q=>by cases q⟩
  .exact⟨_,e4,λv q=>by rw[d4] at q;cases q⟩
  .exact⟨_,e5,λv q=>by rw[d5] at q;cases q⟩
 keep:=λi h h' st kk=>by
  obtain⟨h1,h2,⟨c,d,h3⟩,h4,h5⟩:=st
  exact⟨kk z (by simp) _ h1,kk TI (by simp) _ h2,⟨c,d,kk TO (by simp) _ h3⟩,h4.at λo e=>kk i1 (by simp) o e,h5.at λo e=>kk i2 (by simp) o e⟩
 item:=by
  intro X hP hw hK hc i pins s σ H E I hf st hg;subst hP hw hK
  obtain⟨xs,ys,ha,hb,hi⟩:=hg
  obtain⟨its,r1,p1,_⟩:=I.list ha
  obtain⟨its2,r2,p2,_⟩:=I.list hb
  have l1:=r1.length;have l2:=r2.length;have W:=aiI (prog:=X.prog) (w:=X.w) (A:=X.A) (I.ok.hd hc) z TI TO i1 i2 a b D its.toArray its2.toArray
  obtain⟨s1,s2,s3,s4,s5⟩:=st
  refine W.item i s _ E (by simp;lia) ⟨s1,s2,s3,s4,s5,p1.isList,p2.isList⟩ λT vals h' tk hv hT ht hm kk=>?_
  obtain⟨x,y,hx,hy,rfl⟩:=hv
  refine⟨_,rfl,W.go es k ps i T _ _ E hm λh2 st2 uw=>?_⟩
  have gx:xs[i]?=aa (xs.getD i .non):=by
   have:i<xs.length:=by lia
   simp[uQ,this]
  have gy:ys[i]?=aa (ys.getD i .non):=by
   have:i<ys.length:=by lia
   simp[uQ,this]
  obtain⟨u1,hu1,q1⟩:=r1.get gx
  obtain⟨u2,hu2,q2⟩:=r2.get gy
  have ex:u1=x:=by
   have:its[i]?=aa x:=by simpa using hx
   rw[hu1] at this;exact gP this
  have ey:u2=y:=by
   have:its2[i]?=aa y:=by simpa using hy
   rw[hu2] at this;exact gP this
  subst ex ey;have wf:∀c,c∈[z,TO,i1,i2]->kO X pins H c:=λc hc=>hf c (by simp at hc⊢;rcases hc with rfl|rfl|rfl|rfl<;>simp)
  have hTn:H T=aj:=I.hok.fresh hT;have nT:T∉[z,TO,i1,i2]:=W.apart i T _ hm;have kT:h2.get? T=h'.get? T:=by
   obtain⟨o,e,_⟩:=id ht
   rw[uw T o nT e];exact e.symm
  obtain⟨oT,eT,cT,nT',dT⟩:=id ht
  refine⟨.ref T,upd H T (.tup [xs.getD i .non,ys.getD i .non]),I.U6 (λc o hc e=>uw c o hc (kk c o hc e)) wf (bJ.upd hTn) (λc o e n=>?_) (λc u e=>?_),rfl,⟨T,_,_,hTn,rfl,rfl,λxs' ys' h1 h2=>?_⟩,?_,λc hc=>?_⟩
  .rw[cV]
   .exact n
   .intro z;subst z;exact absurd (cC e) (Sh.mpr hT)
  .by_cases hcT:c=T
   .subst hcT;rw[eN] at e;cases e;refine .inr ⟨by show 2<=bW;decide,[u1,u2],.cons q1 (.cons q2 .nil),oT,kT.trans eT,cT,nT',by simpa using dT⟩
   .rw[cV hcT] at e;exact .inl e
  .rw[I.TQ h1 ha,I.TQ h2 hb]
   exact⟨gx,gy⟩
  .exact⟨st2.1,st2.2.1,st2.2.2.1,st2.2.2.2.1,st2.2.2.2.2.1⟩
  .rw[cV]
   .exact(hf c hc).1
   .intro z;subst z
    obtain⟨o,e,_⟩:∃o,s.heap.get? c=aa o/\True:=by
     simp only[bY,oA,or_false] at hc
     obtain⟨c1,d1,s3⟩:=s3
     obtain⟨o4,e4,_⟩:=s4
     obtain⟨o5,e5,_⟩:=s5
     rcases hc with rfl|rfl|rfl|rfl|rfl
     .exact⟨_,s1,trivial⟩
     .exact⟨_,s2,trivial⟩
     .exact⟨_,s3,trivial⟩
     .exact⟨_,e4,trivial⟩
     .exact⟨_,e5,trivial⟩
    exact absurd (cC e) (Sh.mpr hT)
 done:=by
  intro X hP hw hK hc i pins s σ H E I hf st hg;subst hP hw hK
  obtain⟨xs,ys,ha,hb,hi⟩:=hg
  obtain⟨its,r1,p1,_⟩:=I.list ha
  obtain⟨its2,r2,p2,_⟩:=I.list hb
  have l1:=r1.length;have l2:=r2.length;have W:=aiI (prog:=X.prog) (w:=X.w) (A:=X.A) (I.ok.hd hc) z TI TO i1 i2 a b D its.toArray its2.toArray
  obtain⟨s1,s2,s3,s4,s5⟩:=st
  have e:i=min its.toArray.size its2.toArray.size:=by simp;lia
  subst e;refine W.done s _ E ⟨s1,s2,s3,s4,s5,p1.isList,p2.isList⟩ λh' tk kk=>⟨rfl,?_⟩
  have wf:∀c,c∈[z,TO,i1,i2]->kO X pins H c:=λc hc=>hf c (by simp at hc⊢;rcases hc with rfl|rfl|rfl|rfl<;>simp)
  exact I.U6 kk wf (bJ.refl H) (λ_ _ _ n=>n) λ_ _ e=>.inl e
 self:=λ_ _ _ _ _ st h=>aho st.1 h
def aqf(K:aJ)(t:TA):TI:=λσ H R=>t σ H λvs H1=>∃a b xs ys,vs=[.ref a,.ref b]/\bO K H1 a xs/\bO K H1 b ys/\R (Xj K a b) H1
theorem aob{X:Cx}{es:List Expr}{k:Nat}{ps:Pos}{x y:Expr}{t:TA}{p pos:Pos}(hg:Gl X "zip")(hm:X.mg "zip"=aj)(ha:PA X [x,y] t)(hs:bC [x,y] X.env=[(aF,eval x X.env),(aF,eval y X.env)]:=by rfl)(hs2:bC [y] X.env=[(aF,eval y X.env)]:=by rfl):
  PI X (.Tuple es k ps) (.Call (.Name "zip" p) [x,y] [] pos) (aqf X.K t):=by
 intro pins s σ H R I h;refine Call_ (yp I hg hm asy (XH (bH (ha pos pins s σ H _ I h) λus s1 aN=>?_) (by rw[hs,hs2]) (by rw[hs2];rfl)))
 obtain⟨vs,H1,I1,r1,q1⟩:=aN
 obtain⟨a,b,xs,ys,e,h1,h2,q⟩:=q1
 subst e;cases r1 with
 |cons r rr=>
  cases rr with
  |cons r' rr=>
   cases rr;cases r;cases r'
   obtain⟨its,v1,p1,_⟩:=I1.list h1
   obtain⟨its2,v2,p2,_⟩:=I1.list h2
   have lt1:a<s1.heap.objs.size:=by obtain⟨_,e,_⟩:=p1.isList;exact cC e
   have vo:b<s1.heap.objs.size:=by obtain⟨_,e,_⟩:=p2.isList;exact cC e
   refine call_zip_2 p1.isList p2.isList λh' g1 g2 g3 g4 g5 hsz kk=>?_
   refine aho g1 ?_;have I2:Inv X pins σ H1 {s1 with heap:=h'}:=I1.kept (t':=s1.toks) kk
   refine⟨s1.heap.objs.size+4,[s1.heap.objs.size+4,s1.heap.objs.size+2,s1.heap.objs.size+3,s1.heap.objs.size,s1.heap.objs.size+1],_,_,H1,rfl,I2,akQ (zipApart_new lt1 vo),⟨g1,g2,⟨_,_,g3⟩,g4,g5⟩,λc hc=>?_,q⟩
   refine I1.yJ ?_ (I1.hok.fresh ?_)
   all_goals
    simp only[bY,oA,or_false] at hc;rcases hc with rfl|rfl|rfl|rfl|rfl<;>lia
theorem ai1(I:Inv X pins σ H s)(rx:RelV x u)(ty:nM X.K H x t)(e:QS X.K t its=aa b)
  (hc:s.heap.IsTuple c its.toArray)(h:∀tk,Q (.bool b) {s with toks:=tk}):aQ (model X.prog X.w) A (call (.builtin "isinstance") [u,.ref c]) Q E s:=by
 obtain⟨⟨oc,od,oda,osl⟩,g1,g2,g3,g4⟩:=hc
 simp only at g2 g4;subst g2 g4;cases ty with
 |non=>cases(show u=mU from rx);exact uK ag2 I.jk nu g1 e (λz=>nomatch z) h
 |bl y=>cases(show u=rJ y from rx);exact uK ag3 I.jk nu g1 e (λz=>nomatch z) h
 |int i=>obtain⟨t,q⟩:=(show ∃t,u=Ld i t from rx);cases q;exact uK ahl I.jk nu g1 e (λz=>nomatch z) h
 |str y=>obtain⟨t,q⟩:=(show ∃t,u=Le y t from rx);cases q;exact uK ahm I.jk nu g1 e (λz=>nomatch z) h
 |flt y=>obtain⟨t,q⟩:=(show ∃t,u=aaf y t from rx);cases q;exact uK agT I.jk nu g1 e (λz=>nomatch z) h
 |@lst a xs ea=>
  cases(show u=di a from rx)
  obtain⟨_,_,n,_,h1⟩:=(show fB X.prog X.w H s.heap a (.lst xs) from I.hok a _ ea)
  exact uK Qj I.jk ⟨_,h1,rfl⟩ g1 e (λz=>nomatch z) h
 |@mZ a ob xs ea=>
  cases(show u=di a from rx)
  obtain⟨_,_,_,n,_,h1⟩:=(show fB X.prog X.w H s.heap a (.mZ ob (.lst xs)) from I.hok a _ ea)
  exact uK Qj I.jk ⟨_,h1,rfl⟩ g1 e (λz=>nomatch z) h
 |@tup a xs ea=>
  cases(show u=di a from rx)
  obtain⟨_,_,_,p⟩:=(show fB X.prog X.w H s.heap a (.tup xs) from I.hok a _ ea)
  obtain⟨o,h1,h2,_⟩:=p
  exact uK agU I.jk ⟨o,h1,h2⟩ g1 e (λz=>nomatch z) h
 |@dK a kvs ea=>
  cases(show u=di a from rx)
  obtain⟨_,_,vs,_,p⟩:=(show fB X.prog X.w H s.heap a (.dK kvs) from I.hok a _ ea)
  obtain⟨o,es,ep,h1,h2,_⟩:=p
  exact uK Qk I.jk ⟨o,h1,h2.1⟩ g1 e (λz=>nomatch z) h
 |@dT a kvs ea=>
  cases(show u=di a from rx)
  obtain⟨_,_,xs,_,o,es,ep,h1,h2,_⟩:=(show fB X.prog X.w H s.heap a (.dT kvs) from I.hok a _ ea)
  exact uK Qk I.jk ⟨o,h1,h2.1⟩ g1 e (λz=>nomatch z) h
 |@ins a C dx fs ea cl ha hn htk hm=>
  cases(show u=di a from rx)
  obtain⟨mA,O,_⟩:=acD I.hok ea
  obtain⟨od,J,_⟩:=O.look
  exact uK (ahn (cl.get _) cl.hd ha hn htk hm) I.jk J g1 e (λz=>nomatch z) h
theorem aij:gQ X (.builtin "isinstance") (λxs H Q=>∃x c m n t p q,xs=[x,.ref c]/\H c=aa (.tup [.ty m,.ty n])/\nM X.K H x t/\Cy X.K t (.type m)=aa p/\Cy X.K t (.type n)=aa q/\Q (.bl (p||q)) H):=by
 intro pins s σ H xs us Q I r h
 obtain⟨x,c,m,n,t,p,q,rfl,hc,ty,e1,e2,k⟩:=h
 obtain⟨u,u2,rfl,r1,r2⟩:=vals2 r
 cases r2
 obtain⟨_,its,rv,ob,g1,g2,g3⟩:=(show fB X.prog X.w H s.heap c (.tup [.ty m,.ty n]) from I.hok c _ hc)
 cases rv with
 |cons a1 rv=>
  cases rv with
  |cons a2 rv=>
   cases rv;cases a1;cases a2;exact ai1 I r1 ty (amj e1 e2) ⟨ob,g1,g2,g3⟩ λtk=>⟨.bl (p||q),H,I.tok tk,rfl,k⟩
end L2
namespace L2
open PySem PySem.Spec PyProof.Rows PySem.W
section
variable{N:Nat}{lt:Nat->Nat->Bool}{α β:Type}
def fD(N:Nat)(lt:Nat->Nat->Bool):KasT α->(α->Prop)->Prop
 |.ret a,R=>R a
 |.ask i j k,R=>i<N/\j<N/\fD N lt (k (lt i j)) R
theorem fD.mono:∀{t:KasT α},fD N lt t R->(∀a,R a->S a)->fD N lt t S
 |.ret a,h,f=>f a h
 |.ask i j k,h,f=>⟨h.1,h.2.1,fD.mono h.2.2 f⟩
theorem fD.bind:∀{t:KasT α},fD N lt t (λa=>fD N lt (f a) R)->fD N lt (t.bind f) R
 |.ret a,h=>h
 |.ask i j k,h=>⟨h.1,h.2.1,fD.bind h.2.2⟩
theorem fD.wp(ask:∀i j,i<N->j<N->∀C:Bool->aB->Prop,C (lt i j) s->cmp i j C s)(q:∀a,R a->Q a s):∀{t:KasT α},fD N lt t R->t.kasWp cmp Q s
 |.ret a,h=>q a h
 |.ask i j k,h=>ask i j h.1 h.2.1 _ (fD.wp ask q h.2.2)
def KP(N:Nat)(p:Array Nat):Prop:=p.toList.Perm (fP N)
theorem KP.ix(h:KP N p)(h0:0<N)(i:Nat):p.getD i 0<N:=by
 by_cases hi:i<p.size
 .have:p.getD i 0∈p.toList:=by simp[ai2,hi]
  exact uL.mp (h.mem_iff.mp this)
 .simpa[ai2,hi] using h0
theorem KP.rev(h:KP N p)(i j:Nat):KP N (kas_rev p i j):=((mirror_perm p i j _).toList).trans h
theorem KP.bub(h:KP N p)(i j:Nat):KP N (bubble p i j):=((bubble_perm p i j).toList).trans h
theorem VJ(h:KP N p)(h0:0<N):∀f n,fD N lt (kas_asc p f n) λ_=>True
 |0,n=>trivial
 |f+1,n=>by
  refine⟨h.ix h0 _,h.ix h0 _,?_⟩
  dsimp only;split
  .exact trivial
  .exact VJ h h0 f (n+1)
theorem Mu(h0:0<N):∀f (p:Array Nat) n q,KP N p->fD N lt (kas_desc f p n q) λr=>KP N r.1
 |0,p,n,q,h=>h
 |f+1,p,n,q,h=>by
  refine⟨h.ix h0 _,h.ix h0 _,?_⟩
  dsimp only;split
  .split
   .exact Mu h0 f _ _ _ (h.rev _ _)
   .exact Mu h0 f _ _ _ h
  .refine⟨h.ix h0 _,h.ix h0 _,?_⟩
   dsimp only;split
   .exact h
   .exact Mu h0 f _ _ _ h
theorem abB(h0:0<N)(h:KP N p)(n nrem:Nat):fD N lt (kas_tail3 n nrem p) λr=>KP N r.2:=
 fD.bind (fD.mono (VJ (h.rev 0 n) h0 _ _) λ_ _=>h.rev 0 n)
theorem aak(h0:0<N)(h:KP N p)(n nrem:Nat):fD N lt (kas_descPart n nrem p) λr=>KP N r.2:=by
 refine fD.bind (fD.mono (Mu h0 _ p _ _ h) λr hr=>?_);split
 .exact abB h0 (KP.rev hr _ _) _ _
 .exact abB h0 hr _ _
theorem akR(h0:0<N)(h:KP N p)(nrem:Nat):fD N lt (kas_count nrem p) λr=>KP N r.2:=by
 refine fD.bind (fD.mono (VJ h h0 _ _) λn _=>?_);split
 .exact h
 .split
  .refine⟨h.ix h0 _,h.ix h0 _,?_⟩
   dsimp only;split
   .exact h
   .exact aak h0 (h.rev _ _) _ _
  .exact aak h0 h _ _
theorem T5(h0:0<N)(h:KP N p)(k:Nat):∀f l r,fD N lt (kas_place p k f l r) λ_=>True
 |0,l,r=>trivial
 |f+1,l,r=>by
  unfold kas_place;split
  .exact trivial
  .refine⟨h.ix h0 _,h.ix h0 _,?_⟩
   dsimp only;split
   .exact T5 h0 h k f _ _
   .exact T5 h0 h k f _ _
theorem adQ(h0:0<N):∀f (p:Array Nat) k,KP N p->fD N lt (kas_bin f p k) (KP N)
 |0,p,k,h=>h
 |f+1,p,k,h=>fD.bind (fD.mono (T5 h0 h k _ _ _) λl _=>adQ h0 f _ _ (h.bub _ _))
theorem acJ(h0:0<N):fD N lt (kas_sort N) (KP N):=by
 refine fD.bind (fD.mono (akR h0 (p:=List.toArray (fP N)) (zK _) N) λr hr=>?_);split
 .exact adQ h0 _ _ _ hr
 .exact hr
end
def kLt:Key->Key->Bool
 |.inl i,.inl j=>decide (i<j)
 |.inr x,.inr y=>decide (x.cps.toList<y.cps.toList)
 |_,_=>aF
def eO:List Key->List Key->Bool
 |a::r,b::t=>if a=b then eO r t else kLt a b
 |_,_=>aF
def bM:Key->Bool
 |.inl _=>ao
 |.inr _=>aF
section
variable{prog:bD}{w:bB}{A:cD}{E:Value->aB->Prop}{s:aB}{Q:Bool->aB->Prop}
theorem akS(ra:RelV (kV a) u)(rb:RelV (kV b) v)(ht:bM a=bM b)(h:Q (kLt a b) s):aQ (model prog w) A (oneLt' f u v) Q E s:=by
 cases a with
 |inl i=>
  cases b with
  |inr y=>cases ht
  |inl j=>
   obtain⟨t,rfl⟩:=ra
   obtain⟨t',rfl⟩:=rb
   cases f with
   |true=>exact oneLt_int h
   |false=>exact kat_one _ _ (lt_int h)
 |inr x=>
  cases b with
  |inl y=>cases ht
  |inr y=>
   obtain⟨t,rfl⟩:=ra
   obtain⟨t',rfl⟩:=rb
   cases f with
   |true=>exact oneLt_str h
   |false=>exact kat_one _ _ (lt_str h)
theorem acK(ht:bM a=bM b):uv (kV a) (kV b)=decide (a=b):=by
 cases a with
 |inl i=>
  cases b with
  |inr y=>cases ht
  |inl j=>show(i==j)=_;rw[pU];simp
 |inr x=>
  cases b with
  |inl y=>cases ht
  |inr y=>show(x==y)=_;rw[pU];simp
theorem Lx(a:Key):qQ (kV a)=ao:=by cases a<;>rfl
theorem abC:∀{ks js:List Key}{us vs:List Value}{i:Nat},Vals (ks.map kV) us->Vals (js.map kV) vs->ks.map bM=js.map bM->Q (eO ks js) s->KatLex prog w A ao aF Q (us.zip vs) i s
 |[],[],_,_,_,ra,rb,_,h=>by
  cases ra;cases rb;exact kat_nil h
 |[],_::_,_,_,_,_,_,e,_=>by cases e
 |_::_,[],_,_,_,_,_,e,_=>by cases e
 |a::ks,b::js,us,vs,i,ra,rb,e,h=>by
  cases ra with
  |cons r1 ra=>
   cases rb with
   |cons r2 rb=>
    have e1:bM a=bM b:=(CJ e).1;have e2:=(CJ e).2;refine kat_cons (VF r1 r2 (Lx a) (Lx b) prog w _ _ ?_);rw[acK e1];unfold eO at h;by_cases hab:a=b
    .rw[aV hab] at h;rw[cY hab];exact kat_yes (abC ra rb e2 h)
    .rw[bf hab] at h;rw[dW hab];exact kat_no (akS r1 r2 e1 h)
end
section
variable{prog:bD}{w:bB}{A:cD}{E:Value->aB->Prop}{s:aB}{vs:List Value}{κ:SortKind}{lt:Nat->Nat->Bool}{Rl:List Nat->Prop}
def Kp(a:aq)(h h':bz):Prop:=∀b o,b≠a->h.get? b=aa o->h'.get? b=aa o
theorem aaw(ho:s.heap.get? a=aa (seqObj "list" vs.toArray n))(h64:vs.length<64)(hg:2<=vs.length->fD vs.length lt (kas_sort vs.length) λp=>KP vs.length p/\Rl p.toList)(hsm:vs.length<2->Rl (fP vs.length))
  (hk:2<=vs.length->∀s':aB,Kp a s.heap s'.heap->∀Q:SortKind->aB->Prop,Q κ s'->aQ (model prog w) A (keyKind' vs.toArray) Q (λ_ _=>False) s')
  (hl:2<=vs.length->∀s':aB,Kp a s.heap s'.heap->∀i j,i<vs.length->j<vs.length->∀C:Bool->aB->Prop,C (lt i j) s'->kas_ask prog w A κ vs i j C s')
  (h:∀(p:List Nat)(h':bz)(c:Nat),p.Perm (fP vs.length)->Rl p->Kp a s.heap h'->h'.get? a=aa (seqObj "list" (p.map λi=>vs.getD i mU).toArray c)->P (.done (.ret .none)) {s with heap:=h'}):
  aQ (model prog w) A (j5.«list.sort» ⟨[.ref a],[]⟩) P E s:=by
 have lta:a<s.heap.objs.size:=cC ho
 obtain⟨e1,ho1⟩:∃e1,(s.heap.update a (nA λ_=>(#[]:Array Value))).get? a=aa (seqObj "list" #[] e1):=⟨_,get?_update_seq ho λ_=>#[]⟩
 have sz:vs.length<=bW:=by rw[iM];lia
 have kp:Kp a s.heap (((s.heap.update a (nA λ_=>(#[]:Array Value))).push (seqObj "tuple" vs.toArray 0)).push (seqObj "list" #[] 0)):=λb o hb e=>
  cJ _ (cJ _ (((tB s.heap a _).2 b hb).trans e))
 have Je:(((s.heap.update a (nA λ_=>(#[]:Array Value))).push (seqObj "tuple" vs.toArray 0)).push (seqObj "list" #[] 0)).get? a=aa (seqObj "list" #[] e1):=cJ _ (cJ _ ho1);rw[list_sort_plain];refine aC (listItems_at ho rfl (aC (listUpdate_at ho rfl (aC (seqEpoch_at ho1 rfl (aC (wpAny_newTuple (aC (J2 (nj ?_) (kI _))) (by show vs.length<=_;exact sz))))) (by rw[gH];exact sz) (kI _))));show aQ (model prog w) A _ P E {s with heap:=((s.heap.update a (nA λ_=>(#[]:Array Value))).push (seqObj "tuple" vs.toArray 0)).push (seqObj "list" #[] 0)};dsimp only;have fin:∀(p:List Nat),p.Perm (fP vs.length)->Rl p->∀out:Array Value,out=(p.map λi=>vs.getD i mU).toArray->
   P (.done (.ret .none)) {s with heap:=(((s.heap.update a (nA λ_=>(#[]:Array Value))).push (seqObj "tuple" vs.toArray 0)).push (seqObj "list" #[] 0)).update a (nA λ_=>out)}:=λp hp hrl out eo=>by
  subst eo;refine h p _ _ hp hrl (λb o hb e=>((tB _ a _).2 b hb).trans (kp b o hb e)) (get?_update_seq Je _)
 by_cases h2:vs.toArray.size<2
 .rw[aV h2,aV h2];refine aC (aZ ?_);rw[StateT.run_pure];refine aC (aZ ?_);dsimp only;have hz:(pairsOf vs).size<=bW:=by rw[pairsOf_size];exact sz
  refine aC (seqEpoch_at Je rfl (aC (listUpdate_at Je rfl ?_ (hsz2:=by rw[Array.size_map];show(pairsOf vs).size<=_;lia))));simp only[bne_self_eq_false,pR,if_false];refine aZ (fin (fP vs.length) (zK _) (hsm (by simpa using h2)) _ ?_);apply Array.toList_inj.mp
  show((vs.toArray.zip vs.toArray).map (·.2)).toList=_
  rw[Array.toList_map,Array.toList_zip,List.map_snd_zip (bU _)];show vs=_;refine Cu (by simp) λi h1 h3=>?_
  simp[uQ,h1]
 .have h2':2<=vs.length:=by simpa using h2
  rw[bf h2,bf h2];refine aC (pW (hk h2' _ kp (λk s'=>k=κ/\s'={s with heap:=((s.heap.update a (nA λ_=>(#[]:Array Value))).push (seqObj "tuple" vs.toArray 0)).push (seqObj "list" #[] 0)}) ⟨rfl,rfl⟩) (λk s0 hk0=>?_) λ_ _ x=>x.elim)
  obtain⟨rfl,rfl⟩:=hk0
  refine aC (pW (kat_run (ks:=vs) (vs:=vs) (Q:=λst' s'=>∃p:Array Nat,(KP vs.length p/\Rl p.toList)/\arrOf st'=p.map (kas_item (vs.toArray.zip vs.toArray))/\failedOf st'=aj/\s'={s with heap:=((s.heap.update a (nA λ_=>(#[]:Array Value))).push (seqObj "tuple" vs.toArray 0)).push (seqObj "list" #[] 0)})
   rfl h2' h64 (G:=λp s'=>(KP vs.length p/\Rl p.toList)/\s'={s with heap:=((s.heap.update a (nA λ_=>(#[]:Array Value))).push (seqObj "tuple" vs.toArray 0)).push (seqObj "list" #[] 0)}) (λp st' s' a1 a2 a3 a4=>⟨p,a4.1,a2,a3,a4.2⟩) (fD.wp (lt:=lt) (hl h2' _ kp) (λp hp=>⟨hp,rfl⟩) (hg h2'))) ?_ λ_ _ e=>e)
  rintro⟨⟨⟩,st'⟩ s' ⟨p,⟨hp,hrl⟩,har,hf,rfl⟩
  dsimp only;have hout:=kat_snds (ks:=vs) (vs:=vs) rfl har;have hps:p.toList.length=vs.length:=by rw[hp.length_eq,ou]
  rw[hout];refine aC (seqEpoch_at Je rfl (aC (listUpdate_at Je rfl ?_ (kI _) (by rw[gH,bw,hps];lia))));rw[hf];simp only[bne_self_eq_false,pR,if_false];exact aZ (fin p.toList hp hrl _ rfl)
theorem aal(h64:vs.length<64)(hg:2<=vs.length->fD vs.length lt (kas_sort vs.length) λp=>KP vs.length p/\Rl p.toList)(hsm:vs.length<2->Rl (fP vs.length))
  (hc:∀R:List Value->aB->Prop,(∀us h1 tk,s.heap.objs.size<=h1.objs.size->(∀b o,s.heap.get? b=aa o->h1.get? b=aa o)->us=vs->R us {s with heap:=h1,toks:=tk})->aQ (model prog w) A.in1 (collect (.ref r)) R E s)
  (hk:2<=vs.length->∀s':aB,(∀b o,s.heap.get? b=aa o->s'.heap.get? b=aa o)->∀Q:SortKind->aB->Prop,Q κ s'->aQ (model prog w) A.in1.in1 (keyKind' vs.toArray) Q (λ_ _=>False) s')
  (hl:2<=vs.length->∀s':aB,(∀b o,s.heap.get? b=aa o->s'.heap.get? b=aa o)->∀i j,i<vs.length->j<vs.length->∀C:Bool->aB->Prop,C (lt i j) s'->kas_ask prog w A.in1.in1 κ vs i j C s')
  (h:∀(p:List Nat)(D:aq)(h':bz)(c tk:Nat),p.Perm (fP vs.length)->Rl p->s.heap.objs.size<=D->(∀b o,s.heap.get? b=aa o->h'.get? b=aa o)->h'.get? D=aa (seqObj "list" (p.map λi=>vs.getD i mU).toArray c)->Q (.ref D) {s with heap:=h',toks:=tk}):
  aQ (model prog w) A (call (.builtin "sorted") [.ref r]) Q E s:=by
 refine PK kind_sorted plain_sorted entry_sorted (args_sorted1 _) ?_;unfold j5.«sorted»;refine aC (m:=Sq "sorted" 1 1 _) (aZ (aC (hc _ λus h1 tk hsz kk eu=>?_)));subst eu;refine aC (J2 ?_ (by rw[iM];lia));have hoL:(h1.push (seqObj "list" us.toArray 0)).get? h1.objs.size=aa (seqObj "list" us.toArray 0):=iI _ rfl;have ltD:∀b o,s.heap.get? b=aa o->b≠h1.objs.size:=λb o e=>fL (cC (kk b o e))
 have up:∀s':aB,Kp h1.objs.size (h1.push (seqObj "list" us.toArray 0)) s'.heap->∀b o,s.heap.get? b=aa o->s'.heap.get? b=aa o:=λs' k b o e=>k b o (ltD b o e) (cJ _ (kk b o e))
 refine aC (nj (oW slot_list_sort ⟨_,hoL,rfl⟩ entry_list_sort (aaw (κ:=κ) (lt:=lt) (s:={s with heap:=h1.push (seqObj "list" us.toArray 0),toks:=tk}) hoL h64 hg hsm (λh2 s' k=>hk h2 s' (up s' k)) (λh2 s' k=>hl h2 s' (up s' k)) λp h' c hp hrl k e=>⟨_,rfl,?_⟩) (args_list_sort _)));exact aZ ⟨_,rfl,h p h1.objs.size h' c tk hp hrl hsz (up {s with heap:=h'} k) e⟩
end
def yN(h:bz)(d:aq)(es:Array DictEntry)(ep:Nat):Prop:=∃o,h.get? d=aa o/\o.ExactDict/\o.data=.dict es ep
section
variable{prog:bD}{w:bB}{A:cD}{E:Value->aB->Prop}{s:aB}{d it:aq}{es:Array DictEntry}{ep i:Nat}
theorem yN.ty(h:yN s.heap d es ep):s.TypeIs (.ref d) "dict":=let ⟨o,ho,hc,_⟩:=h;⟨o,ho,hc.1⟩
theorem akT(hd:(d==rK)=aF)(hm:yN s.heap d es ep)
  (hQ:Q (.ref s.heap.objs.size) {s with heap:=s.heap.push {cls:=.type "dict_keyiterator",data:=.fields #[.ref d,.int 0 0,.int es.size 0,.int ep 0]}}):aQ (model prog w) A (DG (.ref d)) Q E s:=by
 obtain⟨o,ho,hc,hdat⟩:=id hm
 have hT:=hm.ty;refine Yy hT ahp (oW ahp hT F.entry_dict_iter ?_ (F.args_dict_iter_1 _));unfold j5.«dict.__iter__»;refine aC ?_;unfold asa;refine aC (wpAny_notOrdered_dict hT ?_);show aQ _ _ (pure (di d)) _ _ s
 refine aZ ?_;show aQ _ _ (agx d >>= _) _ _ s
 unfold agx;rw[bf (by rw[hd];exact gw)];refine aC (aZ (aC (Yz ho hdat (aC (Y7 ho hdat ?_)))));refine aC (mQ (aZ ⟨_,rfl,"dict_keyiterator",_,⟨_,iI _ rfl,rfl⟩,F.slot_dict_keyiterator_next.lookup,?_⟩));simpa[jg] using hQ
theorem akU(hit:s.heap.IsKeyIter it d i es.size ep)(hm:yN s.heap d es ep)(hlt:i<es.size)
  (hQ:∀h',h'.IsKeyIter it d (i+1) es.size ep->zQ it s.heap h'->Q (aa es[i].key) {s with heap:=h'}):aQ (model prog w) A (nG (.ref it)) Q E s:=by
 obtain⟨o,ho,hc,hd⟩:=id hit;obtain⟨od,hod,hcd,hdd⟩:=id hm
 unfold nG;refine aC (Gj (zu (name:=dO "__next__") hit.typeIs Py (oW Py hit.typeIs af4 ?_ (af3 _))));refine aC (aZ ?_);refine aC ?_;refine aC ?_
 first|refine aC (Px hit.typeIs (aZ (aC (zL ho hd ?_))))|refine aC (PX hit.typeIs (aZ (aC (zL ho hd ?_))))
 have own:af5 "dict_keyiterator"=aF:=by decide
 simp only[own,pR,if_false];show aQ _ _ (if(di d==mU)=ao then _ else _) _ _ s
 rw[bf (show ¬((di d==mU)=ao) from gw)];refine aC (aZ (aC (Yz hod hdd ?_)));rw[bf (by simp)];refine aC (aZ (aC (Y7 hod hdd ?_)));rw[bf (by simp)];refine aZ ?_;simp only[show ¬((i:Int)<0) from by lia,if_false,zA,m6 hlt];refine aC ?_
 first|refine aC (Px hit.typeIs (aZ (aC (Yh hit.typeIs ?_))))|refine aC (PX hit.typeIs (aZ (aC (Yh hit.typeIs ?_))))
 show aQ _ _ (setField (.ref it) 1 (jg ((i:Int)+1)) >>= _) _ _ s;refine aC (zM ho hd (by simp) ?_);have hit':(s.heap.update it (ZK (·.setIfInBounds 1 (jg ((i:Int)+1))))).IsKeyIter it d (i+1) es.size ep:=⟨_,zx _ ho (agy (Qh hd _)),(ag6 ..).trans hc,by rw[Qh hd];simp[jg]⟩
 refine aC (nj ?_);refine aC (Yh (s:={s with heap:=s.heap.update it (ZK (·.setIfInBounds 1 (jg ((i:Int)+1))))}) hit'.typeIs ?_);show aQ _ _ (pure es[i].key) _ _ _;exact aZ (aZ ⟨_,rfl,aZ (hQ _ hit' (tB ..))⟩)
theorem amk(hh:A.handled=aj)(hit:s.heap.IsKeyIter it d i es.size ep)(hm:yN s.heap d es ep)(hge:es.size<=i)
  (hQ:∀h',Heap.ExtBut it s.heap h'->Q aj {s with heap:=h'}):aQ (model prog w) A (nG (.ref it)) Q E s:=by
 obtain⟨o,ho,hc,hd⟩:=id hit;obtain⟨od,hod,hcd,hdd⟩:=id hm
 unfold nG;refine aC (Gj (zu (name:=dO "__next__") hit.typeIs Py (oW Py hit.typeIs af4 ?_ (af3 _))));refine aC (aZ ?_);refine aC ?_;refine aC ?_
 first|refine aC (Px hit.typeIs (aZ (aC (zL ho hd ?_))))|refine aC (PX hit.typeIs (aZ (aC (zL ho hd ?_))))
 have own:af5 "dict_keyiterator"=aF:=by decide
 simp only[own,pR,if_false];show aQ _ _ (if(di d==mU)=ao then _ else _) _ _ s
 rw[bf (show ¬((di d==mU)=ao) from gw)];refine aC (aZ (aC (Yz hod hdd ?_)));rw[bf (by simp)];refine aC (aZ (aC (Y7 hod hdd ?_)));rw[bf (by simp)];refine aZ ?_;simp only[show ¬((i:Int)<0) from by lia,if_false,zA,X7 hge];refine aC ?_
 first|refine aC (Px hit.typeIs (aZ ?_))|refine aC (PX hit.typeIs (aZ ?_))
 show aQ _ _ (setField (.ref it) 0 .none >>= _) _ _ s;refine aC (zM ho hd (by simp) ?_);show aQ _ _ (newExc (.type "StopIteration") [] >>= _) _ _ _;refine aC ?_;simp only[newExc,newTuple];refine aC (mQ ?_ (by size_fits));refine aC (m:=QT _ _) (aam (a:=mU) (by first|rfl|(simp only[QT];rfl)) ?_);refine mQ ?_ (by size_fits);simp only[raiseNew];refine aC (wpAny_handled ?_);rw[show A.in1.handled=aj from hh];refine aC (aZ (wpAny_throw ?_));refine aC (YM (T:="StopIteration") (b:=ao) ⟨_,iI _ rfl,rfl⟩ isSubtype_stop ?_);exact aZ (hQ _ (((tB ..).extBut.push _).push _))
theorem ajQ(hh:A.handled=aj)(hne:d≠it):Ar prog w A it [it,d] [it] es.size (λi v=>(es[i]?).map (·.key)=aa v) (λi h=>h.IsKeyIter it d i es.size ep/\yN h d es ep) where
 sub:=λb hb=>by simp at hb;simp[hb]
 frame:=λ_ _ _ st hk=>⟨st.1.at λo e=>hk it (by simp) o e,let ⟨o,ho,r⟩:=st.2;⟨o,hk d (by simp) o ho,r⟩⟩
 item:=λi s Q E hi st hQ=>akU st.1 st.2 hi λh' hit' hs'=>hQ _ h' s.toks (by simp[hi]) ⟨hit',let ⟨o,ho,r⟩:=st.2;⟨o,(hs'.2 d hne).trans ho,r⟩⟩ λb o hb e=>(hs'.2 b λz=>hb (by simp[z])).trans e
 done:=λs Q E st hQ=>amk hh st.1 st.2 (bU _) λh' he'=>hQ h' s.toks λb o hb e=>he' b o (λz=>hb (by simp[z])) e
 self:=λ_ _ _ _ st hQ=>wpAny_pyIter_keyiter st.1 hQ
theorem aml(lo:(d==rK)=aF):KdlSrc prog w "dict" d d es.size (λi v=>(es[i]?).map (·.key)=aa v) (λh=>yN h d es ep) where
 type:=λ_ hm=>hm.ty
 there:=λ_ hm=>let ⟨_,ho,_⟩:=hm;⟨cC ho,cC ho⟩
 keep:=λ_ _ hm hk=>let ⟨o,ho,r⟩:=hm;⟨o,hk d (.inl rfl) o ho,r⟩
 notList:=by decide
 notTuple:=by decide
 hint:=λ_ _ _ _ hm hq=>kdl_hint_dict hm.ty hq
 iter:=λ_ _ hh hm=>⟨_,_,(λ_ _ hq=>akT lo hm hq),ajQ hh (let ⟨_,ho,_⟩:=hm;fL (cC ho)),⟨⟨_,iI _ rfl,rfl,rfl⟩,let ⟨o,ho,r⟩:=hm;⟨o,cJ _ ho,r⟩⟩⟩
theorem aan(K:KdlSrc prog w T r d n P OK)(hh:A.handled=aj)(hok:OK s.heap)(hn:n<=bW)
  (h:∀(h':bz)(tk:Nat)(acc:Array Value),s.heap.objs.size<=h'.objs.size->(∀b o,s.heap.get? b=aa o->h'.get? b=aa o)->ItemsOf P acc n->R acc.toList {s with heap:=h',toks:=tk}):
  aQ (model prog w) A (collect (.ref r)) R E s:=by
 have hlt:=K.there _ hok;unfold collect;refine aC (wpAny_runValue (xO entry_proto_collect' ?_));rw[xF af7 _];show aQ _ A.in1 (newList [] >>= λl=>again (.builtin "list.__iadd__" ⟨[l,.ref r],[]⟩)) _ _ s;refine aC (mQ ?_);refine aZ ⟨vG P0 _,xO entry_list_iadd' ?_⟩;rw[xF P0 _];have hS:(s.heap.push {cls:=.type "list",data:=.seq ([]:List Value).toArray}).get? s.heap.objs.size=aa {cls:=.type "list",data:=.seq #[]}:=iI _ rfl;show aQ _ A.in1 (Pz (.ref s.heap.objs.size) (.ref r) (.ref s.heap.objs.size)) _ _ _;have key:=kdl_extend (A:=A) (s:={s with heap:=s.heap.push {cls:=.type "list",data:=.seq ([]:List Value).toArray}}) (R:=λ(q:tV)(s':aB)=>∃(h':bz)(tk:Nat)(acc':Array Value)(c':Nat),q=.ok (.ret (.ref s.heap.objs.size))/\s'={s with heap:=h',toks:=tk}/\(∀b o,s.heap.get? b=aa o->h'.get? b=aa o)/\h'.get? s.heap.objs.size=aa {cls:=.type "list",dict:=aj,data:=.seq acc' c',slots:=#[]}/\ItemsOf P acc' n)
  K hh (K.keep _ _ hok λb _ o e=>cJ _ e) s.heap.objs.size (Gp hlt.1) (Gp hlt.2) (.ref s.heap.objs.size) 0 hS (λh' tk acc' c' hk hS' hacc=>⟨h',tk,acc',c',rfl,rfl,λb o e=>hk b o (fL (cC e)) (cJ _ e),hS',hacc⟩) hn
 refine pW key (λfin s' x=>?_) λe s' x=>?_
 .cases fin with
  |done f=>
   obtain⟨h',tk,acc',c',e,rfl,hk,hS',hacc⟩:=x
   cases e;show aQ _ A (load s.heap.objs.size >>= _) _ _ _
   exact aC (K4 hS' (aZ (h h' tk acc' (xU (cC hS')) hk hacc)))
  |again c₁=>
   refine⟨x.1,Kc x.2 λq s₂ y=>?_⟩
   obtain⟨h',tk,acc',c',rfl,rfl,hk,hS',hacc⟩:=y
   show aQ _ A (load s.heap.objs.size >>= _) _ _ _;exact aC (K4 hS' (aZ (h h' tk acc' (xU (cC hS')) hk hacc)))
 .obtain⟨_,_,_,_,e',_⟩:=x;cases e'
end
theorem Lg:∀{us:List Value}{ns:List Str},StrsAre us ns->Vals (ns.map V.str) us
 |_,_,.nil=>.nil
 |_,_,.cons _ t r=>.cons ⟨t,rfl⟩ (Lg r)
section
variable{X:Cx}
theorem ahq:gQ X (.builtin "sorted") (λxs H Q=>∃(p:aq)(ns:List Int),xs=[.ref p]/\bO X.K H p (ns.map V.int)/\ns.length<64/\∀(l:aq)(ns':List Int),H l=aj->ns'.Perm ns->ns'.Pairwise (·<=·)->Q (.ref l) (upd H l (.lst (ns'.map V.int)))):=by
 intro pins s σ H xs us Q I r h
 obtain⟨p,ns,rfl,hp,h64,q⟩:=h
 obtain⟨u,rfl,ru⟩:=vals1 r
 cases ru
 obtain⟨its,rv,pl,_⟩:=I.list hp
 have hi:IntsAre its ns:=intsAre_of rv;have hl:=rv.length;rw[bw] at hl;refine sorted_ints pl.isList hi (by lia) λout ns' a1 a2 a3=>?_
 obtain⟨e,he⟩:=sortedAll_at s.heap its out
 have hz:ns'.length<=bW:=by rw[a2.length_eq,iM];lia
 exact⟨.ref (s.heap.objs.size+1),_,I.laid (o:=.lst (ns'.map V.int)) (t':=s.toks) (λ_ _=>sortedAll_old) (qK _) ⟨by rw[bw];exact hz,out.toList,e,Lf a1,by simpa[seqObj] using he⟩,rfl,q _ ns' (I.hok.fresh (qK _)) a2 a3⟩
theorem ahr:gQ X (.builtin "sorted") (λxs H Q=>∃(p:aq)(ns:List Str),xs=[.ref p]/\bO X.K H p (ns.map V.str)/\ns.length<64/\∀(l:aq)(ns':List Str),H l=aj->ns'.Perm ns->sortedS ns'=ao->Q (.ref l) (upd H l (.lst (ns'.map V.str)))):=by
 intro pins s σ H xs us Q I r h
 obtain⟨p,ns,rfl,hp,h64,q⟩:=h
 obtain⟨u,rfl,ru⟩:=vals1 r
 cases ru
 obtain⟨its,rv,pl,_⟩:=I.list hp
 have hi:StrsAre its ns:=K8 rv;have hl:=rv.length;rw[bw] at hl;refine sorted_strs pl.isList hi (by lia) λout ns' a1 a2 a3=>?_
 obtain⟨e,he⟩:=sortedAll_at s.heap its out
 have hz:ns'.length<=bW:=by rw[a2.length_eq,iM];lia
 exact⟨.ref (s.heap.objs.size+1),_,I.laid (o:=.lst (ns'.map V.str)) (t':=s.toks) (λ_ _=>sortedAll_old) (qK _) ⟨by rw[bw];exact hz,out.toList,e,Lg a1,by simpa[seqObj] using he⟩,rfl,q _ ns' (I.hok.fresh (qK _)) a2 a3⟩
theorem jh.bL(r:jh k A):A.units+1<fV:=by have:=r.un;lia
abbrev Row:=aq×List Key
def TupAt(h:bz)(r:Row):Prop:=∃its,Vals (r.2.map kV) its/\IsTup h r.1 its.toArray
theorem TupAt.keep(t:TupAt h r)(k:∀b o,h.get? b=aa o->h'.get? b=aa o):TupAt h' r:=by
 obtain⟨its,v,o,e,c⟩:=t
 exact⟨its,v,o,k _ _ e,c⟩
theorem acL:∀{rows:List Row},(∀r∈rows,TupAt h r/\r.2.map bM=b::sh)->∃fs,KatTups h (rows.map λr=>di r.1) fs/\fs.length=rows.length/\∀f∈fs,∃k,RelV (kV k) f/\bM k=b
 |[],_=>⟨[],KatTups.nil,rfl,by simp⟩
 |r::rows,ha=>by
  obtain⟨fs,t,l,g⟩:=acL (rows:=rows) λq hq=>ha q (dZ _ hq)
  obtain⟨⟨its,v,o,e,c,n,d⟩,s⟩:=ha r dg
  obtain⟨a,ks⟩:=r
  cases ks with
  |nil=>cases s
  |cons k ks=>
   cases v with
   |@cons _ u _ us v1 v2=>
    refine⟨u::fs,KatTups.cons e c d (by simp) t,by simp[l],λf hf=>?_⟩
    rcases bY.mp hf with rfl|hf
    .exact⟨k,v1,(CJ s).1⟩
    .exact g f hf
theorem ajR(r:RelV (kV k) f)(e:bM k=b):Looks M h (typeOf f) (if b=ao then .type "int" else .type "str"):=by
 subst e;cases k with
 |inl i=>obtain⟨t,rfl⟩:=r;exact Looks.of_pure rfl
 |inr i=>obtain⟨t,rfl⟩:=r;exact Looks.of_pure rfl
theorem T6(rows:List Row)(hi:i<rows.length):(rows.map λr=>di r.1).getD i mU=.ref rows[i].1:=by simp[uQ,hi]
def rowAt(rows:List Row)(i:Nat):List Key:=((rows[i]?).map (·.2)).getD []
theorem Td{prog:bD}{w:bB}{A:cD}{s':aB}{rows:List Row}{b:Bool}{sh:List Bool}(ha:∀r∈rows,TupAt s'.heap r/\r.2.map bM=b::sh)(h0:0<rows.length)(Q:SortKind->aB->Prop)(q:Q (tuples' ao) s'):
  aQ (model prog w) A (keyKind' (rows.map λr=>di r.1).toArray) Q (λ_ _=>False) s':=by
 obtain⟨fs,t,l,g⟩:=acL ha
 refine kat_kind (T:=if b=ao then .type "int" else .type "str") t (by lia) (λv hv=>?_) (by cases b<;>rfl) (by cases b<;>exact q)
 obtain⟨k,r,e⟩:=g v hv
 exact ajR r e
theorem amm(ha:∀r∈rows,TupAt s'.heap r/\r.2.map bM=sh)(hi:i<rows.length)(hj:j<rows.length)(C:Bool->aB->Prop)(q:C (eO (rowAt rows i) (rowAt rows j)) s'):
  kas_ask prog w A (tuples' ao) (rows.map λr=>di r.1) i j C s':=by
 obtain⟨⟨its,v,o,e,c,n,d⟩,s1⟩:=ha rows[i] (zF hi)
 obtain⟨⟨its2,v2,o2,e2,c2,n2,d2⟩,s2⟩:=ha rows[j] (zF hj)
 unfold kas_ask;rw[T6 rows hi,T6 rows hj];have l1:=v.length;have l2:=v2.length;have l3:rows[i].2.length=rows[j].2.length:=by
  have:=congrArg rG (s1.trans s2.symm);simpa using this
 refine kat_lt e d e2 d2 ?_;have ez:decide (its.toArray.size<its2.toArray.size)=aF:=by
  rw[dW];simp only[gH];rw[bw] at l1 l2;lia
 rw[ez];have q':C (eO rows[i].2 rows[j].2) s':=by
  unfold rowAt at q;rw[jX hi,jX hj] at q;exact q
 exact abC (by simpa using v) (by simpa using v2) (s1.trans s2.symm) q'
theorem Lh{rows:List Row}{p:List Nat}(h:p.Perm (fP rows.length)):(p.map λi=>rows.getD i (0,[])).Perm rows:=by
 have e:(fP rows.length).map (λi=>rows.getD i (0,[]))=rows:=Cu (by simp) λi h1 h2=>by simp[uQ,h2]
 exact(h.map _).trans (by rw[e])
theorem Te{rows:List Row}{p:List Nat}(h:p.Perm (fP rows.length)):(p.map λi=>(rows.map λr=>di r.1).getD i mU)=(p.map λi=>rows.getD i (0,[])).map λr=>di r.1:=by
 rw[cU];refine uI λi hi=>?_
 have hlt:=uL.mp (h.mem_iff.mp hi);rw[T6 rows hlt];simp[uQ,hlt]
theorem acM:∀{rows:List Row}{us:List Value},Vals (rows.map λr=>V.ref r.1) us->us=rows.map λr=>di r.1
 |[],_,h=>by cases h;rfl
 |r::rows,_,h=>by
  cases h with
  |cons a b=>
   cases a;rw[acM b];rfl
theorem Li:∀(rows:List Row),Vals (rows.map λr=>V.ref r.1) (rows.map λr=>di r.1)
 |[]=>.nil
 |r::rows=>.cons rfl (Li rows)
end
section
variable{K:aJ}{T:gY}{J:It}{n:Nat}{vs:Nat->List V}{G:Hp->Prop}{ts:TT}{em:TM}{fs:St}{H0 H1:Hp}{D:aq}{done:Hp->Prop}
end
theorem T7(A:cD)(s:aB)(ra:RelV (kV a) u)(rb:RelV (kV b) v)(ht:bM a=bM b):K6 A s u v (decide (a=b)):=by
 rw[<-acK ht];exact VF ra rb (Lx a) (Lx b)
theorem Ly(A:cD)(s:aB)(ra:RelV (kV a) u)(rb:RelV (kV b) v)(ht:bM a=bM b)(prog:bD)(w:bB)(E:Value->aB->Prop)(Q:Value->aB->Prop)(h:Q (.bool (kLt a b)) s):
  aQ (model prog w) A (Gv .Lt u v) Q E s:=by
 cases a with
 |inl i=>
  cases b with
  |inr y=>cases ht
  |inl j=>
   obtain⟨t,rfl⟩:=ra
   obtain⟨t',rfl⟩:=rb
   exact(lt_int h:aQ (model prog w) A (fj .Lt _ _) Q E s)
 |inr x=>
  cases b with
  |inl y=>cases ht
  |inr y=>
   obtain⟨t,rfl⟩:=ra
   obtain⟨t',rfl⟩:=rb
   exact(lt_str h:aQ (model prog w) A (fj .Lt _ _) Q E s)
section
open PySem.SeqAt
open PySem.AutoSeq1 (wpAny_loadPart')
open PySem.MeetsSeq PySem.MeetsSeq2 PySem.MeetsSeq3
theorem ahX(l b:aq)(items items2:Array Value)(n n2:Nat)(dd dd2:Option aq)(sl sl2:Array (Option Value))(ns ms:List Key)(hi:Vals (ns.map kV) items.toList)(hj:Vals (ms.map kV) items2.toList)(hty:ns.map bM=ms.map bM):
  Meets (j5.«tuple.__lt__» ⟨[.ref l,.ref b],[]⟩)
   (λ_ R s=>s.heap.get? l=aa {cls:=.type "tuple",dict:=dd,data:=.seq items n,slots:=sl}/\s.heap.get? b=aa {cls:=.type "tuple",dict:=dd2,data:=.seq items2 n2,slots:=sl2}/\R (.ok (.ret (.bool (eO ns ms)))) s):=
 .of_wp λprog w A R s h=>by
  obtain⟨hp,g,d,tk,os⟩:=s;obtain⟨hl,hb,h⟩:=h
  have f2:=agh;have z0:ns.length=ms.length:=by have:=congrArg rG hty;simpa using this
  have z1:items.size=ns.length:=by have:=hi.length;rw[bw] at this;simpa using this.symm
  have z2:items2.size=ms.length:=by have:=hj.length;rw[bw] at this;simpa using this.symm
  wp_walk using qI hl,qI hb,ahs _ (λrest b s'=>b.1=aj/\s'=⟨hp,g,d,tk,os⟩/\∃(vs ws:List Value)(ns' ms':List Key),rest=vs.zip ws/\
   Vals (ns'.map kV) vs/\Vals (ms'.map kV) ws/\ns'.map bM=ms'.map bM/\R (.ok (.ret (.bool (eO ns' ms')))) ⟨hp,g,d,tk,os⟩) _
  case turn=>
   rintro⟨y,x⟩ rest b s' ⟨hb',rfl,vs,ws,ns',ms',hz,Pa,hwi,hlen,hR⟩
   cases ns' with
   |nil=>cases Pa;rw[List.zip_nil_left] at hz;cases hz
   |cons a ns'=>
    cases ms' with
    |nil=>cases hlen
    |cons c ms'=>
     cases Pa with
     |cons r1 ae4=>
      cases hwi with
      |cons r2 ae5=>
       rw[JH] at hz;injection hz with hyx hrest
       injection hyx with hy hx
       subst hy hx;have t1:bM a=bM c:=(CJ hlen).1;have t2:=(CJ hlen).2;unfold eO at hR;refine aC (T7 A.in1 ⟨hp,g,d,tk,os⟩ r1 r2 t1 prog w _ _ ?_);by_cases hac:a=c
       .rw[aV hac] at hR;rw[cY hac];wp_walk
        exact⟨rfl,rfl,_,_,_,_,hrest,ae4,ae5,t2,hR⟩
       .rw[bf hac] at hR;rw[dW hac];have hri:=Ly A.in1 ⟨hp,g,d,tk,os⟩ r1 r2 t1 prog w;wp_walk using hri
        exact⟨_,rfl,by simpa using hR⟩
  case fin=>
   rintro⟨b1,b2⟩ s' ⟨hb',rfl,vs,ws,ns',ms',hz,Pa,hwi,hlen,hR⟩
   simp only at hb';subst hb';have hv:eO ns' ms'=decide (items.size<items2.size):=by
    rw[dW (by lia)];cases ns' with
    |nil=>unfold eO;rfl
    |cons a ns'=>
     cases ms' with
     |nil=>cases hlen
     |cons c ms'=>
      cases Pa with
      |cons r1 ae4=>
       cases hwi with
       |cons r2 ae5=>
        rw[JH] at hz;cases hz
   rw[hv] at hR;wp_walk
   exact⟨_,rfl,by simpa[af2] using hR⟩
  case h=>
   exact⟨rfl,rfl,items.toList,items2.toList,ns,ms,rfl,hi,hj,hty,h⟩
end
theorem aax(hl:IsTup s.heap l items)(hb:IsTup s.heap b items2)(hi:Vals (ns.map kV) items.toList)(hj:Vals (ms.map kV) items2.toList)(hty:ns.map bM=ms.map bM)
  (hu:A.units<fV)(h:Q (.bool (eO ns ms)) s):aQ (model prog w) A (fj .Lt (.ref l) (.ref b)) Q E s:=by
 obtain⟨⟨cls,dd,data,sl⟩,ho,hc,n,hd⟩:=id hl
 obtain⟨⟨cls2,dd2,data2,sl2⟩,ho2,hc2,n2,hd2⟩:=id hb
 simp only at hc hd hc2 hd2;subst hc hd hc2 hd2;exact X8 (op:=.Lt) ⟨_,ho,rfl⟩ ⟨_,ho2,rfl⟩ agz ags (agk _ _) (ahX l b items items2 n n2 dd dd2 sl sl2 ns ms hi hj hty)
  ⟨ho,ho2,show rJ (eO ns ms)≠Qc/\Q (.bool (eO ns ms)) s from⟨(λx=>nomatch x),h⟩⟩ hu
mutual
def RX(H:Hp):au->V->Prop
 |.none,v=>v=.non
 |.bool b,v=>v=.bl b
 |.int i,v=>v=.int i
 |.str x,v=>v=.str x
 |.list ds,v=>∃a vs,v=.ref a/\H a=aa (.lst vs)/\nU H ds vs
 |.tuple ds,v=>∃a vs,v=.ref a/\H a=aa (.tup vs)/\nU H ds vs
 |.dict _,_=>False
def nU(H:Hp):List au->List V->Prop
 |[],vs=>vs=[]
 |d::ds,vs=>∃v r,vs=v::r/\RX H d v/\nU H ds r
end
mutual
theorem RX.same(s:bJ H H'):∀{d:au}{v:V},RX H d v->RX H' d v
 |.none,_,h=>h
 |.bool _,_,h=>h
 |.int _,_,h=>h
 |.str _,_,h=>h
 |.list ds,_,h=>by
  obtain⟨a,vs,e,q,r⟩:=h
  exact⟨a,vs,e,s _ _ q,nU.same s r⟩
 |.tuple ds,_,h=>by
  obtain⟨a,vs,e,q,r⟩:=h
  exact⟨a,vs,e,s _ _ q,nU.same s r⟩
theorem nU.same(s:bJ H H'):∀{ds:List au}{vs:List V},nU H ds vs->nU H' ds vs
 |[],_,h=>h
 |d::ds,vs,h=>by
  obtain⟨v,r,e,q,t⟩:=h
  exact⟨v,r,e,RX.same s q,nU.same s t⟩
end
mutual
theorem RX.rd{K:aJ}{H:Hp}:∀{d:au}{v:V},RX H d v->RD K H d v
 |.none,_,h=>h
 |.bool _,_,h=>h
 |.int _,_,h=>h
 |.str _,_,h=>h
 |.list ds,_,h=>by
  obtain⟨a,vs,e,q,r⟩:=h
  exact⟨a,vs,e,bO.of q,nU.rd r⟩
 |.tuple ds,_,h=>by
  obtain⟨a,vs,e,q,r⟩:=h
  exact⟨a,vs,e,cW.of q,nU.rd r⟩
theorem nU.rd{K:aJ}{H:Hp}:∀{ds:List au}{vs:List V},nU H ds vs->pP K H ds vs
 |[],_,h=>h
 |d::ds,vs,h=>by
  obtain⟨v,r,e,q,t⟩:=h
  exact⟨v,r,e,RX.rd q,nU.rd t⟩
end
def Jf:au->Value
 |.none=>.type "NoneType"
 |.bool _=>.type "bool"
 |.int _=>.type "int"
 |.str _=>.type "str"
 |.list _=>.type "list"
 |.tuple _=>.type "tuple"
 |.dict _=>.type "dict"
theorem RX.ty{K:aJ}{H:Hp}{d:au}{v:V}(h:RX H d v):nM K H v (Jf d):=by
 cases d with
 |none=>cases(show v=.non from h);exact .non
 |bool b=>cases(show v=.bl b from h);exact .bl b
 |int i=>cases(show v=.int i from h);exact .int i
 |str x=>cases(show v=.str x from h);exact .str x
 |list ds=>obtain⟨a,vs,rfl,e,_⟩:=h;exact .lst e
 |tuple ds=>obtain⟨a,vs,rfl,e,_⟩:=h;exact .tup e
 |dict ds=>exact(show False from h).elim
section
variable{X:Cx}
theorem ai3(hu:X.A.units<fV):cM X (fj .Lt) (λx y H Q=>∃a b ks js,x=.ref a/\y=.ref b/\H a=aa (.tup (ks.map kV))/\H b=aa (.tup (js.map kV))/\ks.map bM=js.map bM/\Q (.bl (eO ks js)) H):=by
 intro pins s σ H x y v u Q I rx ry h
 obtain⟨a,b,ks,js,rfl,rfl,ha,hb,ht,q⟩:=h
 cases rx;cases ry
 obtain⟨_,its,r1,p1⟩:=(show fB X.prog X.w H s.heap a (.tup (ks.map kV)) from I.hok a _ ha)
 obtain⟨_,its2,r2,p2⟩:=(show fB X.prog X.w H s.heap b (.tup (js.map kV)) from I.hok b _ hb)
 exact aax p1 p2 (by simpa using r1) (by simpa using r2) ht hu (gb I q rfl)
theorem Ss(hu:X.A.units<fV):cM X (fj .Lt) (λx y H Q=>(∃a b,x=kV a/\y=kV b/\bM a=bM b/\Q (.bl (kLt a b)) H)\/∃a b ks js,x=.ref a/\y=.ref b/\H a=aa (.tup (ks.map kV))/\H b=aa (.tup (js.map kV))/\ks.map bM=js.map bM/\Q (.bl (eO ks js)) H):=by
 refine cM.or ?_ (ai3 hu);intro pins s σ H x y v u Q I rx ry h
 obtain⟨a,b,rfl,rfl,ht,q⟩:=h
 exact Ly X.A s rx ry ht _ _ _ _ (gb I q rfl)
end
structure Ord(lt:Nat->Nat->Bool):Prop where
 ae6:∀a b,lt a b=ao->lt b a=aF
 trans:∀a b c,lt b a=aF->lt c b=aF->lt c a=aF
section
variable{N:Nat}{lt:Nat->Nat->Bool}(O:Ord lt)
abbrev at0(p:Array Nat)(i:Nat):Nat:=p.getD i 0
def Up(lt:Nat->Nat->Bool)(p:Array Nat)(n:Nat):Prop:=∀i j,i<j->j<n->lt (at0 p j) (at0 p i)=aF
def Dn(lt:Nat->Nat->Bool)(p:Array Nat)(n:Nat):Prop:=∀i j,i<j->j<n->lt (at0 p i) (at0 p j)=aF
theorem VL(p:Array Nat)(i:Nat):at0 p i=(p[i]?).getD 0:=uF
theorem adR(hj:j<=p.size)(k:Nat):at0 (kas_rev p i j) k=if i<=k/\k<j then at0 p (i+j-1-k) else at0 p k:=by
 rw[VL,VL,VL];unfold kas_rev;rw[getElem?_mirror_all hj];split<;>rfl
theorem KP.size(h:KP N p):p.size=N:=by
 have:=h.length_eq;rw[ou] at this;simpa using this
include O
theorem Up.succ(h:Up lt p n)(hn:1<=n)(hs:lt (at0 p n) (at0 p (n-1))=aF):Up lt p (n+1):=λi j hij hj=>by
 by_cases e:j<n
 .exact h i j hij e
 .have ej:j=n:=by lia
  subst ej;by_cases ei:i=j-1
  .rw[ei];exact hs
  .exact O.trans _ _ _ (h i (j-1) (by lia) (by lia)) hs
theorem Dn.succ(h:Dn lt p n)(hn:1<=n)(hs:lt (at0 p (n-1)) (at0 p n)=aF):Dn lt p (n+1):=λi j hij hj=>by
 by_cases e:j<n
 .exact h i j hij e
 .have ej:j=n:=by lia
  subst ej;by_cases ei:i=j-1
  .rw[ei];exact hs
  .exact O.trans _ _ _ hs (h i (j-1) (by lia) (by lia))
theorem Dn.turn(h:Dn lt p n)(hn:n<=p.size):Up lt (kas_rev p 0 n) n:=λa b hab hb=>by
 rw[adR hn,adR hn,aV ⟨by lia,by lia⟩,aV ⟨by lia,by lia⟩];exact h _ _ (by lia) (by lia)
end
theorem amn(h:kLt a b=ao):kLt b a=aF:=by
 cases a with
 |inl i=>
  cases b with
  |inr y=>cases h
  |inl j=>have:=of_decide_eq_true h;exact dW (by lia)
 |inr x=>
  cases b with
  |inl y=>cases h
  |inr y=>exact KeyOrd.klt_asymm (O:=strKind.toKeyOrd) (a:=x.cps.toList) (b:=y.cps.toList) h
theorem aoc(t1:bM a=bM b)(t2:bM b=bM c)(h:kLt a c=ao):kLt a b=ao\/kLt b c=ao:=by
 cases a with
 |inl i=>
  cases b with
  |inr y=>cases t1
  |inl j=>
   cases c with
   |inr y=>cases t2
   |inl k=>
    have h1:=of_decide_eq_true h;by_cases h2:i<j
    .exact .inl (cY h2)
    .exact .inr (cY (by lia))
 |inr x=>
  cases b with
  |inl y=>cases t1
  |inr y=>
   cases c with
   |inl k=>cases t2
   |inr z=>exact strKind.negTrans x.cps.toList y.cps.toList z.cps.toList h
theorem str_of_list{x y:Str}(h:x.cps.toList=y.cps.toList):x=y:=by
 cases x;cases y;simp at h;simp[h]
theorem aod(t:bM a=bM b)(h1:kLt a b=aF)(h2:kLt b a=aF):a=b:=by
 cases a with
 |inl i=>
  cases b with
  |inr y=>cases t
  |inl j=>
   have g1:=of_decide_eq_false h1;have g2:=of_decide_eq_false h2;have:i=j:=by lia
   rw[this]
 |inr x=>
  cases b with
  |inl y=>cases t
  |inr y=>
   have:=strKind.total x.cps.toList y.cps.toList h1 h2;rw[str_of_list this]
def wu(rows:List Row)(i:Nat):List Key:=(rows.getD i (rows.headD (0,[]))).2
def mD(rows:List Row)(i j:Nat):Bool:=eO (wu rows i) (wu rows j)
def runK{α:Type}(lt:Nat->Nat->Bool):KasT α->α
 |.ret a=>a
 |.ask i j k=>runK lt (k (lt i j))
theorem fD.run:∀{t:KasT α},fD N lt t R->fD N lt t (λa=>R a/\a=runK lt t)/\R (runK lt t)
 |.ret a,h=>⟨⟨h,rfl⟩,h⟩
 |.ask i j k,h=>let r:=fD.run h.2.2;⟨⟨h.1,h.2.1,r.1⟩,r.2⟩
def sI(ks:List (List Key)):List Nat:=if ks.length<2 then fP ks.length else(runK (λi j=>eO (ks.getD i (ks.headD [])) (ks.getD j (ks.headD []))) (kas_sort ks.length)).toList
def ug(ks:List (List Key)):List (List Key):=(sI ks).map λi=>ks.getD i (ks.headD [])
theorem ajS(ks:List (List Key)):(sI ks).Perm (fP ks.length):=by
 unfold sI;split
 .exact zK _
 .exact(fD.run (acJ (lt:=λi j=>eO (ks.getD i (ks.headD [])) (ks.getD j (ks.headD []))) (by lia))).2
theorem ajT(ks:List (List Key)):(ug ks).Perm ks:=by
 have:=(ajS ks).map λi=>ks.getD i (ks.headD [])
 refine this.trans (ahI ?_);refine Cu (by simp) λi h1 h2=>?_
 simp[h2]
theorem Lz(rows:List Row)(i:Nat):wu rows i=(rows.map (·.2)).getD i ((rows.map (·.2)).headD []):=by
 unfold wu;cases h:rows[i]? with
 |none=>cases rows<;>simp_all [uQ]
 |some r=>simp[uQ,h]
theorem Tf(hn:n=rows.length)(h2:2<=n):fD n (mD rows) (kas_sort n) λp=>KP n p/\p.toList=sI (rows.map (·.2)):=by
 subst hn;have e:mD rows=λi j=>eO ((rows.map (·.2)).getD i ((rows.map (·.2)).headD [])) ((rows.map (·.2)).getD j ((rows.map (·.2)).headD [])):=by
  funext i j;rw[mD,Lz,Lz]
 refine(fD.run (acJ (lt:=mD rows) (N:=rows.length) (by lia))).1.mono λp hp=>⟨hp.1,?_⟩
 unfold sI;rw[bf (by rw[bw];lia),hp.2,e,bw]
theorem Su{rows:List Row}{n:Nat}(hn:n=rows.length)(h:n<2):fP n=sI (rows.map (·.2)):=by
 subst hn;unfold sI;rw[aV (by rw[bw];exact h),bw]
theorem U7{rows:List Row}{p:List Nat}(h:p.Perm (fP rows.length))(hr:p=sI (rows.map (·.2))):(p.map λi=>rows.getD i (0,[])).map (·.2)=ug (rows.map (·.2)):=by
 unfold ug;rw[<-hr,cU];refine uI λi hi=>?_
 have hlt:=uL.mp (h.mem_iff.mp hi);simp[uQ,hlt]
section
variable{X:Cx}
theorem T8(ha:∀r∈rows,TupAt s'.heap r/\r.2.map bM=sh)(hi:i<rows.length)(hj:j<rows.length)(C:Bool->aB->Prop)(q:C (mD rows i j) s'):
  kas_ask prog w A (tuples' ao) (rows.map λr=>di r.1) i j C s':=by
 refine amm ha hi hj C ?_;have e1:wu rows i=rowAt rows i:=by simp[wu,rowAt,uQ,hi]
 have e2:wu rows j=rowAt rows j:=by simp[wu,rowAt,uQ,hj]
 unfold mD at q;rw[e1,e2] at q;exact q
theorem ag7:gQ X (.builtin "sorted") (λxs H Q=>∃(p:aq)(rows:List Row)(b:Bool)(sh:List Bool),xs=[.ref p]/\bO X.K H p (rows.map λr=>V.ref r.1)/\rows.length<64/\(∀r∈rows,H r.1=aa (.tup (r.2.map kV))/\r.2.map bM=b::sh)/\
  ∀(l:aq)(rows':List Row),H l=aj->rows'.Perm rows->rows'.map (·.2)=ug (rows.map (·.2))->Q (.ref l) (upd H l (.lst (rows'.map λr=>V.ref r.1)))):=by
 intro pins s σ H xs us Q I r h
 obtain⟨p,rows,b,sh,rfl,hp,h64,ha,q⟩:=h
 obtain⟨u,rfl,ru⟩:=vals1 r
 cases ru
 obtain⟨its,rv,pl,_⟩:=I.list hp
 have e0:=acM rv;subst e0;have tu:∀r∈rows,TupAt s.heap r/\r.2.map bM=b::sh:=λr hr=>by
  obtain⟨_,its,v,t⟩:=(show fB X.prog X.w H s.heap r.1 (.tup (r.2.map kV)) from I.hok r.1 _ (ha r hr).1)
  exact⟨⟨its,v,t⟩,(ha r hr).2⟩
 refine aal (κ:=tuples' ao) (lt:=mD rows) (vs:=rows.map λr=>di r.1) (Rl:=λp=>p=sI (rows.map (·.2))) (by simpa using h64) (λh2=>Tf (by rw[bw]) h2) (λh2=>Su (by rw[bw]) h2) (λR hR=>?_) (λh2 s' k Q' q'=>Td (λr hr=>⟨(tu r hr).1.keep k,(tu r hr).2⟩) (by rw[bw] at h2;lia) Q' q')
  (λh2 s' k i j hi hj C q'=>T8 (sh:=b::sh) (λr hr=>⟨(tu r hr).1.keep k,(tu r hr).2⟩) (by simpa using hi) (by simpa using hj) C q') λp D h' c tk hp' hrl hD k e=>?_
 .refine collect_list pl.isList (hR _ _ s.toks ?_ (λb o e=>?_) rfl)
  .rw[Heap.size_update,size_push'];lia
  .have hlt:b≠s.heap.objs.size:=fL (cC e);rw[Heap.get?_update_ne _ _ _ _ hlt];exact cJ _ e
 .rw[bw] at hp';rw[Te hp'] at e
  refine⟨.ref D,_,I.laid (o:=.lst ((p.map λi=>rows.getD i (0,[])).map λr=>V.ref r.1)) k hD ⟨?_,_,c,Li _,by simpa[seqObj] using e⟩,rfl,q D _ (I.hok.fresh hD) (Lh hp') (U7 hp' hrl)⟩
  rw[bw,bw,hp'.length_eq,ou,iM];lia
theorem Y8(hc:X.calm=ao):gQ X (.builtin "sorted") (λxs H Q=>∃(d:aq)(kvs:List (List Key×V))(b:Bool)(sh:List Bool),xs=[.ref d]/\H d=aa (.dT kvs)/\kvs.length<64/\(∀kv∈kvs,kv.1.map bM=b::sh)/\
  ∀(l:aq)(rows:List Row),H l=aj->(rows.map (·.2)).Perm (kvs.map (·.1))->rows.map (·.2)=ug (kvs.map (·.1))->(∀r∈rows,H r.1=aa (.tup (r.2.map kV)))->Q (.ref l) (upd H l (.lst (rows.map λr=>V.ref r.1)))):=by
 intro pins s σ H xs us Q I r h
 obtain⟨d,kvs,b,sh,rfl,hd,h64,ha,q⟩:=h
 obtain⟨u,rfl,ru⟩:=vals1 r
 cases ru
 obtain⟨z,lo,ys,rel,o,es,ep,g1,g2,g3,g4,g5,g6⟩:=aex I.hok hd
 have raw:yN s.heap d es ep:=⟨o,g1,g2,g3⟩
 obtain⟨rows,r1,r2,r3⟩:∃rows:List Row,rows.map (·.2)=kvs.map (·.1)/\(∀r∈rows,H r.1=aa (.tup (r.2.map kV)))/\es.toList.map (·.key)=rows.map λr=>di r.1:=by
  clear g5 g6 h64 ha q z hd;rw[g4];clear g4 raw g3;induction rel with
  |nil=>exact⟨[],rfl,by simp,rfl⟩
  |@cons p q ps qs h t ih=>
   obtain⟨rows,a1,a2,a3⟩:=ih
   refine⟨(q.2.1,p.1)::rows,by simp[a1],λr hr=>?_,?_⟩
   .rcases bY.mp hr with rfl|hr
    .exact h.2.1
    .exact a2 r hr
   .rw[cj,cj,a3];rfl
 have hlen:rows.length=kvs.length:=by
  have:=congrArg rG r1;simpa using this
 have hes:es.size=rows.length:=by
  have:=congrArg rG r3;simpa using this
 have tu:∀r∈rows,TupAt s.heap r/\r.2.map bM=b::sh:=λr hr=>by
  obtain⟨_,its,v,t⟩:=(show fB X.prog X.w H s.heap r.1 (.tup (r.2.map kV)) from I.hok r.1 _ (r2 r hr))
  have:r.2∈kvs.map (·.1):=by rw[<-r1];exact cN.mpr ⟨r,hr,rfl⟩
  obtain⟨kv,hk,e⟩:=cN.mp this
  exact⟨⟨its,v,t⟩,by rw[<-e];exact ha kv hk⟩
 refine aal (κ:=tuples' ao) (lt:=mD rows) (vs:=rows.map λr=>di r.1) (Rl:=λp=>p=sI (rows.map (·.2))) (by rw[bw];lia) (λh2=>Tf (by rw[bw]) h2) (λh2=>Su (by rw[bw]) h2) (λR hR=>?_) (λh2 s' k Q' q'=>Td (λr hr=>⟨(tu r hr).1.keep k,(tu r hr).2⟩) (by rw[bw] at h2;lia) Q' q')
  (λh2 s' k i j hi hj C q'=>T8 (sh:=b::sh) (λr hr=>⟨(tu r hr).1.keep k,(tu r hr).2⟩) (by simpa using hi) (by simpa using hj) C q') λp D h' c tk hp' hrl hD k e=>?_
 .refine aan (aml (es:=es) (ep:=ep) lo) (I.ok.hd hc) raw (by rw[iM];lia) λh' tk acc hsz kk hacc=>hR _ h' tk hsz kk ?_
  refine YB λi=>?_
  by_cases hi:i<es.size
  .have e1:acc.size=es.size:=hacc.1;have:=hacc.2 i (acc[i]'(by lia)) (by simp[e1,hi]);rw[Fe,m6 (by lia)];rw[<-this,<-r3,jm,Fe]
  .have e1:acc.size=es.size:=hacc.1;rw[Cj (by simp;lia),Cj (by simp;lia)]
 .rw[bw] at hp';rw[Te hp'] at e
  refine⟨.ref D,_,I.laid (o:=.lst ((p.map λi=>rows.getD i (0,[])).map λr=>V.ref r.1)) k hD ⟨?_,_,c,Li _,by simpa[seqObj] using e⟩,rfl,q D _ (I.hok.fresh hD) (((Lh hp').map _).trans (by rw[r1])) ((U7 hp' hrl).trans (by rw[r1])) λr hr=>r2 r ((Lh hp').mem_iff.mp hr)⟩
  rw[bw,bw,hp'.length_eq,ou,iM];lia
end
abbrev wN:=List (Option au)
def uc(H:Hp)(Γ:wN)(σ:St):Prop:=σ.length=Γ.length/\∀(i:Nat)(d:au),Γ[i]?=aa (aa d)->∃v,σ[i]?=aa (aa v)/\RX H d v
theorem uc.same(h:uc H Γ σ)(s:bJ H H'):uc H' Γ σ:=⟨h.1,λi d e=>let ⟨v,a,b⟩:=h.2 i d e;⟨v,a,b.same s⟩⟩
theorem uc.set(h:uc H Γ σ)(hv:RX H d v):uc H (Γ.set i (aa d)) (σ.set i (aa v)):=by
 refine⟨by rw[xN,xN];exact h.1,λj e he=>?_⟩
 by_cases hj:i=j
 .subst hj;rw[Fv] at he;simp only[if_true] at he;split at he
  .rename_i hl;cases he
   refine⟨v,?_,hv⟩
   rw[Fv];simp only[if_true];rw[aV (by rw[h.1];exact hl)]
  .cases he
 .rw[xx hj] at he;rw[xx hj];exact h.2 j e he
def er(Z:List aq)(H:Hp):Hp:=λb=>if b∈Z then aj else H b
theorem jJ(h:er Z H b=aa o):H b=aa o:=by
 unfold er at h;split at h
 .cases h
 .exact h
theorem Ed(Z:List aq)(H:Hp):bJ (er Z H) H:=λb o h=>jJ h
theorem acN(s:bJ H H'):bJ (er Z H) (er Z H'):=λb o h=>by
 unfold er at h⊢;split at h
 .cases h
 .rename_i n;rw[bf n];exact s _ _ h
theorem Hv(H:Hp):er [] H=H:=by
 funext b;simp[er]
def Nf(t:TE)(Γ:wN)(d:au):Prop:=∀Z σ H (Q:VK),(∀b,b∈Z->H b≠aj)->uc (er Z H) Γ σ->(∀v H',bJ H H'->RX (er Z H') d v->Q v H')->t σ H Q
def acO(t:TA)(Γ:wN)(ds:List au):Prop:=∀Z σ H (Q:List V->Hp->Prop),(∀b,b∈Z->H b≠aj)->uc (er Z H) Γ σ->(∀vs H',bJ H H'->nU (er Z H') ds vs->Q vs H')->t σ H Q
section
variable{Γ:wN}{K:aJ}
theorem Nf.run(h:Nf t Γ d)(e:uc H Γ σ)(q:∀v H',bJ H H'->RX H' d v->Q v H'):t σ H Q:=
 h [] σ H Q (λ_ m=>by cases m) (by rw[Hv];exact e) λv H' s r=>q v H' s (by rw[Hv] at r;exact r)
end
end L2
namespace HT
open PySem PySem.Spec PyProof.Rows
section
variable{prog:bD}{w:bB}{A:cD}{E:Value->aB->Prop}{s:aB}
theorem agM{t sl:aq}{items:Array Value}{vl vu:Value}{lo hi:Option Int}{Q:Value->aB->Prop}(ht:IsTup s.heap t items)(hs:s.heap.IsSliceOf sl vl vu .none)(pl:uX vl lo)(pu:uX vu hi)
  (hw:cz items.size 0 lo=0/\cz items.size items.size hi=items.size)(h:Q (.ref t) s):aQ (model prog w) A (ye (.ref t) (.ref sl)) Q E s:=by
 obtain⟨os,hos,hcs,hds⟩:=id hs
 have hTs:s.TypeIs (.ref sl) "slice":=⟨os,hos,hcs⟩
 unfold ye
 try with_reducible refine nj ?_
 first|refine aC (aZ ?_)|skip
 refine aC (ag5 ht.typeIs (by decide) ?_);refine aC (zu (name:=dO "__getitem__") ht.typeIs Pu
  (oW Pu ht.typeIs entry_tuple_getitem ?_ (args_tuple_getitem _ _)))
 show aQ _ _ (agc (.ref t) >>= _) _ _ s;refine aC (tupleItemsOf_ ht ?_);refine aC (Kd hTs ?_);rw[aV (by decide)];refine aC (YJ hs pl pu ?_);have hyes:((((cz items.size 0 lo:Nat):Int)==0&&(1:Int)==1&&(cz items.size items.size hi-cz items.size 0 lo)==items.size)=ao):=by
  rw[hw.1,hw.2];simp
 show aQ _ _ (if(((cz items.size 0 lo:Nat):Int)==0&&(1:Int)==1&&(cz items.size items.size hi-cz items.size 0 lo)==items.size)=ao then _ else _) _ _ s;rw[aV hyes];unfold arT;refine aC (aC (Kd ht.typeIs (aZ ?_)));rw[aV (by decide)];refine aC (zW ?_);exact aZ ⟨_,rfl,aZ h⟩
end
end HT
namespace L2
open PySem PySem.Spec PyProof.Rows PySem.W
section
variable{X:Cx}
def aqg(K:aJ):V->Option Int->Option Int->Hp->VK->Prop:=λx lo hi H Q=>∃a xs,x=.ref a/\cW K H a xs/\(ue xs lo hi=xs->Q (.ref a) H)/\∀p,H p=aj->Q (.ref p) (upd H p (.tup (ue xs lo hi)))
theorem amo:wV X (aqg X.K):=by
 intro pins s σ H x v vl vu lo hi sl Q I rx hs pl pu h
 obtain⟨a,xs,rfl,hx,q1,q2⟩:=h
 by_cases hw:HT.cz xs.length 0 lo=0/\HT.cz xs.length xs.length hi=xs.length
 .cases rx
  obtain⟨its,r,ht,hz⟩:=I.tuple hx
  have hlen:its.toArray.size=xs.length:=by rw[gH];exact r.length.symm
  refine⟨"tuple",_,PyProof.Rows.slot_tuple_getitem.lookup,ht.typeIs,?_⟩
  refine HT.agM ht hs pl pu (by rw[hlen];exact hw) ?_
  refine⟨.ref a,H,I,rfl,q1 ?_⟩
  unfold ue;rw[hw.1,hw.2];simp
 .exact anT pins s σ H _ v vl vu lo hi sl Q I rx hs pl pu ⟨a,xs,rfl,hx,hw,q2⟩
end
end L2
namespace HT
open PySem PySem.Spec PyProof.Rows
open Sem (wp)
open Builtin
theorem YQ:fillsNumberSlot (.type "tuple") "mul"=pure aF:=
 PySem.fillsNumberSlot_seq (id:="tuple.__mul__") (r:=aa (.builtin "tuple.__rmul__")) F.slot_tuple_mul.lookup (by decide +kernel) F.slot_tuple_rmul.lookup (by decide +kernel)
theorem Z3:seqRepeat? (.type "tuple")=pure (aa (.builtin "tuple.__mul__")):=by
 unfold seqRepeat?;rw[aht (T:="tuple") (name:="__mul__") (id:="tuple.__mul__") F.slot_tuple_mul.lookup (by decide +kernel),aht (T:="tuple") (name:="__rmul__") (id:="tuple.__rmul__") F.slot_tuple_rmul.lookup (by decide +kernel)];rfl
theorem Yb(a:Int)(t:Tok)(l:aq)(dd:Option aq)(items:Array Value)(n:Nat)(ss:Array (Option Value)):
  Meets (j5.«int.__rmul__» ⟨[.int a t,.ref l],[]⟩) (λ_ R s=>s.heap.get? l=aa {cls:=.type "tuple",dict:=dd,data:=.seq items n,slots:=ss}/\R (.ok (.ret Qc)) s):=
 .of_wp λprog w A R s h=>by obtain⟨hp,g,d,tk,os⟩:=s;obtain⟨hl,h⟩:=h;wp_walk;exact⟨_,rfl,h⟩
end HT
namespace L2
open PySem PySem.Spec PyProof.Rows PySem.W
section
variable{X:Cx}
end
section
variable{Γ:wN}{K:aJ}
end
section
variable{Γ:wN}{K:aJ}
end
section
variable{Γ:wN}{K:aJ}
end
section
variable{X:Cx}
theorem ai4(hu:X.A.units+64<fV):cM X (fj .NotEq) (λx y H Q=>∃d e,RX H d x/\RX H e y/\jc d=ao/\jc e=ao/\Q (.bl (!PyData.eqv d e)) H):=by
 intro pins s σ H x y v u Q I rx ry h
 obtain⟨d,e,hd,he,h1,h2,q⟩:=h
 obtain⟨as,ra⟩:=RD.reads I (hd.rd (K:=X.K)) rx
 obtain⟨bs,rb⟩:=RD.reads I (he.rd (K:=X.K)) ry
 exact ne_dataH ra rb h1 h2 hu ⟨.bl _,H,I,rfl,q⟩
end
section
variable{Γ:wN}{K:aJ}
def aoe(t:TE)(Γ:wN)(d:au):Prop:=∀σ H (Q:VK),uc H Γ σ->(∀v H',bJ H H'->RX H' d v->Q v H')->t σ H Q
theorem Nf.r(h:Nf t Γ d):aoe t Γ d:=λσ H Q e q=>h.run e q
theorem acO.run(h:acO t Γ ds)(e:uc H Γ σ)(q:∀vs H',bJ H H'->nU H' ds vs->Q vs H'):t σ H Q:=
 h [] σ H Q (λ_ m=>by cases m) (by rw[Hv];exact e) λv H' s r=>q v H' s (by rw[Hv] at r;exact r)
end
theorem Mv{xs:Array Nat}(h:xs.toList.Pairwise (·<·)){i k d:Nat}(hik:i<k)(hk:k<xs.size):xs.getD i d<xs.getD k d:=by
 have h1:=Jx.mp h i k (by simpa using Ke hik hk) (by simpa using hk) hik;have hi:i<xs.size:=Ke hik hk;rw[uF,uF,m6 hk,m6 hi];simpa using h1
theorem T9{xs:Array Nat}{j:Nat}(h:xs.toList.Pairwise (·<·)):∀f lo hi,lo<=hi->hi<=xs.size->hi-lo<=f->(∀i,i<lo->xs.getD i j<j)->(∀i,hi<=i->i<xs.size->j<=xs.getD i j)->
  JM xs j f lo hi<=xs.size/\(∀i,i<JM xs j f lo hi->xs.getD i j<j)/\∀i,JM xs j f lo hi<=i->i<xs.size->j<=xs.getD i j
 |0,lo,hi,h1,h2,h3,h4,h5=>by
  unfold JM
  exact⟨by lia,h4,λi a b=>h5 i (by lia) b⟩
 |f+1,lo,hi,h1,h2,h3,h4,h5=>by
  unfold JM;by_cases hlt:lo<hi
  .rw[aV hlt];dsimp only;by_cases hm:xs.getD ((lo+hi) / 2) j<j
   .rw[aV hm];refine T9 h f _ _ (by lia) h2 (by lia) (λi hi'=>?_) h5;by_cases e:i=(lo+hi) / 2
    .rw[e];exact hm
    .exact Ke (Mv h (by lia) (by lia)) hm
   .rw[bf hm];refine T9 h f _ _ (by lia) (by lia) (by lia) h4 (λi hi' hs=>?_);by_cases e:i=(lo+hi) / 2
    .rw[e];lia
    .have:=Mv (d:=j) h (show(lo+hi) / 2<i by lia) hs;lia
  .rw[bf hlt]
   exact⟨by lia,h4,λi a b=>h5 i (by lia) b⟩
theorem Tg(j:Nat)(h:xs.toList.Pairwise (·<·)):jP xs j<=xs.size/\(∀i,i<jP xs j->xs.getD i j<j)/\∀i,jP xs j<=i->i<xs.size->j<=xs.getD i j:=
 T9 h xs.size 0 xs.size (kI _) (bU _) (by lia) (λi hi=>by lia) (λi a b=>by lia)
theorem acP(h:xs.toList.Pairwise (·<·)):jP xs 0=0:=by
 obtain⟨_,b,_⟩:=Tg 0 h
 cases e:jP xs 0 with
 |zero=>rfl
 |succ n=>have:=b 0 (by lia);lia
theorem aay{xs:Array Nat}(h:xs.toList.Pairwise (·<·)){i:Nat}(hi:i<xs.size):jP xs (xs[i]+1)=i+1:=by
 obtain⟨a,b,c⟩:=Tg (xs[i]+1) h
 have e:∀k d,(hk:k<xs.size)->xs.getD k d=xs[k]:=λk d hk=>by rw[uF,m6 hk];rfl
 have mono:∀p q,(hp:p<xs.size)->(hq:q<xs.size)->p<q->xs[p]<xs[q]:=λp q hp hq pq=>by
  have:=Mv (d:=0) h pq hq
  rwa [e p 0 hp,e q 0 hq] at this
 by_cases h1:jP xs (xs[i]+1)<=i
 .have:=c i h1 hi;rw[e i _ hi] at this;lia
 .by_cases h2:jP xs (xs[i]+1)=i+1
  .exact h2
  .have hs:i+1<xs.size:=by lia
   have:=b (i+1) (by lia);rw[e _ _ hs] at this;have:=mono i (i+1) hi hs (by lia);lia
structure gU(b:Bool)(t:vK):Prop where
 led:t.led=b
 Xk:t.dummies=#[]
 Xl:t.place.toList.Pairwise (·<·)
theorem gU.standIn(h:gU b t)(n:Nat):gU b (t.standIn n):=⟨h.led,rfl,by simpa[SetTable.standIn] using Yc⟩
theorem gU.orStandIn(h:gU b t)(n:Nat):gU b (t.orStandIn n):=by
 unfold SetTable.orStandIn;split
 .exact h
 .exact h.standIn n
theorem has_none(j:Nat):aik #[] j=aF:=rfl
theorem aaz(hd:t.dummies=#[])(f:Nat->Int)(h:Int):∀fuel (p:SetTable.Probe) j d,p.dummy=aj->YC t f h fuel p=aa (.empty j d)->d=aj/\t.slot j=.empty
 |0,p,j,d,_,e=>by simp[YC] at e
 |fuel+1,p,j,d,hp,e=>by
  unfold YC at e;have adv:(t.advance p).dummy=aj:=by
   unfold SetTable.advance;split<;>exact hp
  cases hs:t.slot p.j with
  |empty=>
   rw[hs] at e;simp only[Qm,asq] at e
   exact⟨by rw[<-e.2];exact hp,by rw[<-e.1];exact hs⟩
  |dummy=>
   unfold ahY at hs;rw[hd] at hs;simp only[has_none] at hs;split at hs
   .cases hs
   .simp at hs
  |live i=>
   rw[hs] at e;simp only at e;split at e
   .cases e
   .exact aaz hd f h fuel _ j d adv e
theorem ai5{xs:Array Nat}{j:Nat}(h:xs.toList.Pairwise (·<·))(hn:xs[jP xs j]?≠aa j):(SetTable.insertAt xs (jP xs j) j).toList.Pairwise (·<·):=by
 obtain⟨a,b,c⟩:=Tg j h
 rw[SetTable.toList_insertAt];have h':=h;rw[<-List.take_append_drop (jP xs j) xs.toList,Qd] at h'
 obtain⟨h1,h2,h3⟩:=h'
 have e:∀k d,(hk:k<xs.size)->xs.getD k d=xs.toList[k]'(by simpa using hk):=λk d hk=>by rw[uF,m6 hk];simp
 have lo:∀x,x∈xs.toList.take (jP xs j)->x<j:=λx hx=>by
  obtain⟨i,hi,rfl⟩:=zy hx
  have hi':i<jP xs j:=by simp at hi;lia
  have:=b i hi';rw[e i j (by lia)] at this;rw[List.getElem_take];exact this
 have hi:∀x,x∈xs.toList.drop (jP xs j)->j<x:=λx hx=>by
  obtain⟨i,hi,rfl⟩:=zy hx
  have hs:jP xs j+i<xs.size:=by simp at hi;lia
  have h0:=c (jP xs j) (bU _) (by lia);have ne:xs.getD (jP xs j) j≠j:=λz=>hn (by
   have hb:jP xs j<xs.size:=by lia
   rw[uF,m6 hb] at z;rw[m6 hb];simpa using z)
  rw[List.getElem_drop,<-e _ j hs];by_cases z:i=0
  .subst z;simp only[Nat.add_zero];lia
  .have:=Mv (d:=j) h (show jP xs j<jP xs j+i by lia) hs;lia
 rw[Qd]
 refine⟨h1,qG.mpr ⟨hi,h2⟩,λx hx y hy=>?_⟩
 rcases bY.mp hy with rfl|hy
 .exact lo x hx
 .exact h3 x hx y hy
theorem gU.layNew(h:gU b t)(es:Array (Int×Value))(hs:Int)(x:Value):gU b (layNew t es hs x).2.1:=by
 unfold PySem.layNew;cases hf:t.freeSlot hs with
 |none=>exact h.standIn _
 |some q=>
  obtain⟨slot,wd⟩:=q
  have free:t.slot slot=.empty:=by
   unfold SetTable.freeSlot at hf;split at hf
   .rename_i j d hp
    obtain⟨rfl,hj⟩:=aaz h.Xk _ _ _ _ _ _ rfl hp
    simp only[Qm,ahZ] at hf;rw[<-hf.1];exact hj
   .cases hf
  have hn:t.place[jP t.place slot]?≠aa slot:=λz=>by
   unfold ahY at free;simp[z] at free
  show gU b ((t.put slot).1.orStandIn _);refine gU.orStandIn (t:=(t.put slot).1) ⟨h.led,?_,ai5 h.Xl hn⟩ _
  show(if aik t.dummies slot then _ else t.dummies)=#[]
  rw[h.Xk];rfl
theorem gU.relayAll(h:gU b t)(es:Array (Int×Value))(n:Nat):gU b (relayAll t es n).2.1:=by
 unfold JW;split
 .rename_i t' order hr;dsimp only;split
  .unfold SetTable.relaid SetTable.laid at hr;cases ho:SetTable.layClean (SetTable.sizeAbove n-1) (es.map (·.1)) with
   |none=>simp[ho] at hr
   |some owner=>
    simp only[ho,Option.bind_eq_bind,iJ,Option.pure_def,Qm,ahZ] at hr;rw[<-hr.1]
    refine⟨h.led,rfl,?_⟩
    simp only[List.map_filterMap];refine asw _ (λx y hxy=>?_) Yc;intro u hu v hv;simp only[Jy] at hu hv
    obtain⟨p,⟨_,_,rfl⟩,rfl⟩:=hu
    obtain⟨q,⟨_,_,rfl⟩,rfl⟩:=hv
    exact hxy
  .exact h.standIn _
 .exact h.standIn _
theorem gU.plain(h:gU b t)(v:Bool):gU b {t with plain:=v}:=⟨h.led,h.Xk,h.Xl⟩
theorem gU.fresh(b:Bool):gU b (.fresh 0 0 b):=⟨rfl,rfl,.nil⟩
end L2
namespace L2
open PySem PySem.Spec PySem.W
section
variable{prog:bD}{w:bB}{T:Type}[DecidableEq T](knd:zN prog w T)
def bt(w:bB):Bool:=!(w.params.followText "set-order")
inductive lJ:List (Int×Value)->List T->Prop
 |nil:lJ [] []
 |cons {e:Int×Value} {k:T} {es:List (Int×Value)} {ks:List T}:(knd.is k e.2=ao/\e.1=knd.hash k/\e.2.scannable=ao)->lJ es ks->lJ (e::es) (k::ks)
def pL(h:bz)(a:aq)(ks:List T):Prop:=∃o es ep t,h.get? a=aa o/\o.ExactSet/\o.data=.set es ep t/\(∃ks',lJ knd es.toList ks'/\ks'.Perm ks)/\es.size<rM/\t.fits es.size=ao/\gU (bt w) t
def mJ(ks:List T)(k:T):List T:=if k∈ks then ks else ks++[k]
variable{knd}
theorem lJ.elems(h:lJ knd es ks):ElemsOf knd es:=by
 induction h with
 |nil=>intro e he;cases he
 |cons a _ ih=>
  intro e he;rcases bY.mp he with rfl|he
  .exact⟨⟨_,a.1,a.2.1⟩,a.2.2⟩
  .exact ih e he
theorem lJ.len(h:lJ knd es ks):es.length=ks.length:=by
 induction h with
 |nil=>rfl
 |cons _ _ ih=>simp[ih]
theorem lJ.perm(p:es'.Perm es):∀{ks:List T},lJ knd es ks->∃ks',lJ knd es' ks'/\ks'.Perm ks:=by
 induction p with
 |nil=>intro ks h;exact⟨ks,h,.refl _⟩
 |cons x _ ih=>
  intro ks h;cases h with
  |cons a r=>
   obtain⟨ks',h1,h2⟩:=ih r
   exact⟨_::ks',.cons a h1,h2.cons _⟩
 |swap x y l=>
  intro ks h;cases h with
  |cons a r=>
   cases r with
   |cons b r=>exact⟨_::_::_,.cons b (.cons a r),.swap ..⟩
 |trans _ _ ih1 ih2=>
  intro ks h
  obtain⟨k2,h1,p1⟩:=ih2 h
  obtain⟨k3,h2,p2⟩:=ih1 h1
  exact⟨k3,h2,p2.trans p1⟩
theorem lJ.push(h:lJ knd es ks)(hk:knd.is k x=ao)(hx:x.scannable=ao):lJ knd (es++[(knd.hash k,x)]) (ks++[k]):=by
 induction h with
 |nil=>exact .cons ⟨hk,rfl,hx⟩ .nil
 |cons a _ ih=>exact .cons a ih
theorem lJ.mem(h:lJ knd es ks)(hm:x∈es)(hp:knd.is k x.2=ao):k∈ks:=by
 induction h with
 |nil=>cases hm
 |cons a _ ih=>
  rcases bY.mp hm with rfl|hm
  .cases knd.inj _ _ _ hp a.1;exact dg ..
  .exact dZ _ (ih hm)
theorem lJ.none(h:lJ knd es ks)(e:es.findIdx? (λe=>knd.is k e.2)=.none):k∉ks:=by
 have e':=List.findIdx?_eq_none_iff.mp e;clear e;induction h with
 |nil=>intro h;cases h
 |cons a _ ih=>
  intro hm;rcases bY.mp hm with rfl|hm
  .have:=e' _ (dg ..);rw[a.1] at this;cases this
  .exact ih (λx hx=>e' x (dZ _ hx)) hm
variable{A:cD}{E:Value->aB->Prop}{s:aB}
theorem acQ{h:bz}{a:aq}{o:Obj}{es es':Array (Int×Value)}{ep:Nat}{t t':vK}{ks:List T}(ho:h.get? a=aa o)(ex:o.ExactSet)(hd:o.data=.set es ep t)(e:∃ks',lJ knd es'.toList ks'/\ks'.Perm ks)
  (hb:es'.size<rM)(hf:t'.fits es'.size=ao)(tb:gU (bt w) t'):
  ∃o',(h.update a (Sv es' t')).get? a=aa o'/\o'.ExactSet/\o'.data=.set es' (ep+1) t'/\pL knd (h.update a (Sv es' t')) a ks:=by
 have g:=zx (Sv es' t') ho (by rw[putSet_of es' t' hd];rfl);rw[putSet_of es' t' hd] at g
 exact⟨_,g,ex,rfl,_,es',ep+1,t',g,ex,rfl,e,hb,hf,tb⟩
theorem amq{a:aq}{k:T}{x:Value}{ks:List T}{Q:Bool->aB->Prop}(hk:knd.is k x=ao)(hx:x.scannable=ao)(hS:pL knd s.heap a ks)(room:ks.length+1<rM)
  (h:∀b h',zQ a s.heap h'->pL knd h' a (mJ ks k)->Q b {s with heap:=h'}):aQ (model prog w) A (setAddHashed a x (knd.hash k)) Q E s:=by
 obtain⟨o,es,ep,t,ho,ex,hd,⟨k0,ek,pk⟩,hb,hf,tb⟩:=hS
 have sz:es.size=ks.length:=by rw[<-jF,ek.len,pk.length_eq]
 have el:=ek.elems;have mono:∀{u:Unit->aB->Prop}{s1:aB}(g:Bool),u () s1->∀r:Sem Unit,(r=rule "set.scan.the-table-gave-way"\/r=pure ())->aQ (model prog w) A r u E s1:=λg hu r hr=>by
  rcases hr with rfl|rfl
  .exact zW hu
  .exact aZ hu
 unfold setAddHashed setAddHashedIn;refine nj (aC (Fw ho hd hf ?_));simp only[byScan_of hx hb el,if_true];unfold setAddByScan;refine aC (aC (zW (aC (wpAny_setScan_of hk ho hd hf el ?_))));cases hr:es.toList.findIdx? (λe=>knd.is k e.2) with
 |some j=>
  obtain⟨hj,hp,_⟩:=List.findIdx?_eq_some_iff_getElem.mp hr
  have hm:k∈ks:=pk.mem_iff.mp (ek.mem (zF hj) hp);refine aZ (aZ (h _ s.heap (YD a s.heap) ?_));rw[mJ,aV hm]
  exact⟨o,es,ep,t,ho,ex,hd,⟨k0,ek,pk⟩,hb,hf,tb⟩
 |none=>
  have hm:k∉ks:=λz=>ek.none hr (pk.mem_iff.mpr z)
  have pn:=layNew_perm t es (knd.hash k) x;have fn:=layNew_fits t es (knd.hash k) x;have tn:=tb.layNew es (knd.hash k) x;dsimp only;generalize layNew t es (knd.hash k) x=L at pn fn tn⊢
  obtain⟨es1,t1,wd,gv⟩:=L
  dsimp only at pn fn tn⊢;rw[ag8] at pn
  obtain⟨k1,e1,p1⟩:=(ek.push hk hx).perm pn
  have ak:mJ ks k=ks++[k]:=by rw[mJ,bf hm]
  have q1:∃ks',lJ knd es1.toList ks'/\ks'.Perm (mJ ks k):=⟨k1,e1,by rw[ak];exact p1.trans (pk.append_right _)⟩
  have yZ:es1.size=es.size+1:=by rw[<-jF,pn.length_eq,fU,jF];rfl
  have b1:es1.size<rM:=by lia
  refine aC (mono gv ?_ _ (by cases gv<;>first|exact .inl rfl|exact .inr rfl));have tail:∀t2:vK,t2.fits es1.size=ao->gU (bt w) t2->aQ (model prog w) A (do
    storeSet a es1 t2
    if(!wd&&t2.tooFull)=ao then do
      (match(JW t2 es1 (Cz es1.size)).2.2 with|true=>rule "set.scan.the-table-gave-way" |false=>pure ())
      storeSet a (JW t2 es1 (Cz es1.size)).1 (JW t2 es1 (Cz es1.size)).2.1
      pure (aa ao)
     else pure (aa ao)) (λr s'=>aQ (model prog w) A (match r with|some added=>pure added|none=>setAddHashedIn a x (knd.hash k) 99999) Q E s') E s:=λt2 f2 tb2=>by
   obtain⟨o1,g1,ex1,d1,S1⟩:=acQ (knd:=knd) ho ex hd q1 b1 f2 tb2
   refine aC (ag9 ho hd ?_ (YF b1));have Av:=tB s.heap a (Sv es1 t2);split
   .have pr:=relayAll_perm t2 es1 (Cz es1.size);have fr:=relayAll_fits t2 es1 (Cz es1.size);have tr:=tb2.relayAll es1 (Cz es1.size);generalize JW t2 es1 (Cz es1.size)=L2 at pr fr tr⊢
    obtain⟨es2,t3,gv2⟩:=L2
    dsimp only at pr fr tr⊢
    obtain⟨k2,e2,p2⟩:=q1
    obtain⟨k3,e3,p3⟩:=e2.perm pr
    have sz2:es2.size=es1.size:=by rw[<-jF,pr.length_eq,jF]
    have b2:es2.size<rM:=by lia
    refine aC (mono gv2 ?_ _ (by cases gv2<;>first|exact .inl rfl|exact .inr rfl));refine aC (ag9 g1 d1 ?_ (YF b2))
    obtain⟨_,_,_,_,S2⟩:=acQ (knd:=knd) g1 ex1 d1 ⟨k3,e3,p3.trans p2⟩ b2 fr tr
    exact aZ (aZ (h _ _ (Av.trans (tB ..)) S2))
   .exact aZ (aZ (h _ _ Av S1))
  split
  .refine aC ?_;rw[hashByValue_scannable 8 hx];refine aZ ?_;by_cases hv:plainKind x=ao
   .simp only[hv,if_true];exact tail t1 fn tn
   .simp only[hv,pR,if_false];exact tail _ (SetTable.fits_plain_off fn) (tn.plain aF)
  .refine aC (aZ ?_);simp only[if_true];exact tail t1 fn tn
end
section
variable{T:Type}[DecidableEq T]
def dedup(ks:List T):List T:=ks.foldl mJ []
theorem ai6(ks:List T)(k:T):dedup (ks++[k])=mJ (dedup ks) k:=by simp[dedup,List.foldl_append]
theorem akV{ks:List T}{k x:T}:x∈mJ ks k↔x∈ks\/x=k:=by
 unfold mJ;split
 .rename_i h
  exact⟨.inl,λz=>z.elim id λe=>e▸h⟩
 .simp
theorem Zk{x:T}:∀(ks as:List T),x∈ks.foldl mJ as↔x∈as\/x∈ks
 |[],as=>by simp
 |k::ks,as=>by rw[vC,Zk,akV,bY,or_assoc]
theorem ajU{ks:List T}{x:T}:x∈dedup ks↔x∈ks:=by
 rw[dedup,Zk];simp
theorem ai7{ks:List T}{k:T}(h:ks.Nodup):(mJ ks k).Nodup:=by
 unfold mJ;split
 .exact h
 .rename_i hk;exact kE.mpr ⟨h,by simp,λa ha b hb=>by rw[jb] at hb;rintro rfl;exact hk (hb▸ha)⟩
theorem YS:∀(ks as:List T),as.Nodup->(ks.foldl mJ as).Nodup
 |[],_,h=>h
 |k::ks,_,h=>YS ks _ (ai7 h)
theorem aiJ(ks:List T):(dedup ks).Nodup:=YS ks [] .nil
theorem akW(ks:List T)(k:T):(mJ ks k).length<=ks.length+1:=by
 unfold mJ;split<;>simp
theorem Zm:∀(ks as:List T),(ks.foldl mJ as).length<=as.length+ks.length
 |[],_=>by simp
 |k::ks,as=>by
  have h1:=Zm ks (mJ as k);have h2:=akW as k;simp only[vC,cA];lia
theorem aa0(ks:List T):(dedup ks).length<=ks.length:=by simpa[dedup] using Zm ks []
end
section
variable{prog:bD}{w:bB}{T:Type}[DecidableEq T]{knd:zN prog w T}{A:cD}{E:Value->aB->Prop}{s:aB}
theorem pL.at(H:pL knd h a ks)(e:∀o,h.get? a=aa o->h'.get? a=aa o):pL knd h' a ks:=
 let ⟨o,es,ep,t,ho,r⟩:=H
 ⟨o,es,ep,t,e o ho,r⟩
theorem pL.lt(H:pL knd h a ks):a<h.objs.size:=let ⟨_,_,_,_,ho,_⟩:=H;cC ho
theorem pL.ty(H:pL knd s.heap a ks):s.TypeIs (.ref a) "set":=let ⟨o,_,_,_,ho,ex,_⟩:=H;⟨o,ho,ex.1⟩
end
section
variable{prog:bD}{w:bB}{T:Type}[DecidableEq T]{knd:zN prog w T}{A:cD}{E:Value->aB->Prop}{s:aB}
def sJ(w:bB):Obj:={cls:=.type "set",dict:=aj,data:=.set #[] 0 (.fresh 0 0 (bt w))}
theorem aof(g:h.get? a=aa (sJ w)):pL knd h a []:=⟨_,#[],0,_,g,⟨rfl,rfl,rfl⟩,rfl,⟨[],.nil,.refl _⟩,by decide,rfl,gU.fresh _⟩
end
theorem abD:Manifest.owners.lookup (String.ofList "rotareti_tes".toList.reverse)=aa Manifest.sig_set_iterator:=by kernel_rfl
theorem tO:Slot "set_iterator" "__next__" "set_iterator.__next__":=.of (owner:="set_iterator") (n:="__next__") (by rw[typeLookup_type,agA];kernel_rfl) (by decide +kernel) (by decide +kernel) (by decide +kernel) (by first|exact .inl (by decide +kernel)|exact .inr (by decide +kernel)) (by rw[Zn];kernel_rfl)
theorem acR:Slot "set_iterator" "__iter__" "set_iterator.__iter__":=.of (owner:="set_iterator") (n:="__iter__") (by rw[typeLookup_type,agA];kernel_rfl) (by decide +kernel) (by decide +kernel) (by decide +kernel) (by first|exact .inl (by decide +kernel)|exact .inr (by decide +kernel)) (by rw[Zn];kernel_rfl)
theorem Lj:Ua table "set_iterator.__next__"=aa j5.«set_iterator.__next__»:=entryFor_of_tree (by kernel_rfl)
theorem ajV:Ua table "set_iterator.__iter__"=aa j5.«dict_keyiterator.__iter__»:=entryFor_alias (id':="dict_keyiterator.__iter__") (by kernel_rfl) rfl (by decide +kernel) (by kernel_rfl)
theorem ai8:Ua table "set.__iter__"=aa j5.«frozenset.__iter__»:=entryFor_alias (id':="frozenset.__iter__") (by kernel_rfl) rfl (by decide +kernel) (by kernel_rfl)
theorem Lk(a:Value):Hw "set_iterator.__next__" ⟨[a],[]⟩:=by
 unfold Hw;rw[signature?_of (id:="set_iterator.__next__") (n:="__txen__".toList) (o:="rotareti_tes".toList) (by kernel_rfl) abD];kernel_rfl
theorem ajW(a:Value):Hw "set_iterator.__iter__" ⟨[a],[]⟩:=by
 unfold Hw;rw[signature?_of (id:="set_iterator.__iter__") (n:="__reti__".toList) (o:="rotareti_tes".toList) (by kernel_rfl) abD];kernel_rfl
section
variable{prog:bD}{w:bB}{A:cD}{E:Value->aB->Prop}{s:aB}{it S:aq}{es:Array (Int×Value)}{ep i n:Nat}{t:vK}{first:Value}
def nQ(b:Bool)(h:bz)(a:aq)(es:Array (Int×Value))(ep:Nat)(t:vK):Prop:=∃o,h.get? a=aa o/\o.ExactSet/\o.data=.set es ep t/\t.fits es.size=ao/\gU b t
theorem nQ.at(H:nQ b h a es ep t)(e:∀o,h.get? a=aa o->h'.get? a=aa o):nQ b h' a es ep t:=let ⟨o,ho,r⟩:=H;⟨o,e o ho,r⟩
def lW(h:bz)(it S:aq)(first:Value)(i n ep:Nat):Prop:=∃o,h.get? it=aa o/\o.cls=.type "set_iterator"/\o.data=.fields #[first,jg i,.ref S,jg n,jg ep]
theorem lW.at(H:lW h it S first i n ep)(e:∀o,h.get? it=aa o->h'.get? it=aa o):lW h' it S first i n ep:=let ⟨o,ho,r⟩:=H;⟨o,e o ho,r⟩
theorem lW.ty(H:lW s.heap it S first i n ep):s.TypeIs (.ref it) "set_iterator":=let ⟨o,ho,c,_⟩:=H;⟨o,ho,c⟩
theorem lW.set{h:bz}{j:Nat}{x:Value}{vs:Array Value}{o:Obj}(ho:h.get? it=aa o)(hc:o.cls=.type "set_iterator")(hd:o.data=.fields vs):
  ∃o',(h.update it (ZK (·.setIfInBounds j x))).get? it=aa o'/\o'.cls=.type "set_iterator"/\o'.data=.fields (vs.setIfInBounds j x):=
 ⟨_,zx _ ho (agy (Qh hd _)),(ag6 ..).trans hc,by rw[Qh hd]⟩
theorem U8(hit:lW s.heap it S first i n ep)(h:Q (.ref it) s):aQ (model prog w) A (DG (.ref it)) Q E s:=by
 refine Yy hit.ty acR (oW acR hit.ty ajV (show aQ _ _ (ret (.ref it)) _ _ s from ?_) (ajW _));exact aZ ⟨_,rfl,"set_iterator",_,hit.ty,tO.lookup,h⟩
theorem acS{Q:Option Value->aB->Prop}{slot:Nat}{R:Option (Value×Nat)}(hit:lW s.heap it S (jg slot) i n ep)(hs:nQ (bt w) s.heap S es ep t)(hn:n=es.size)(ne:S≠it)
  (nx:∀{B:cD}{E':Value->aB->Prop}{C:Option (Value×Nat)->aB->Prop},C R s->aQ (model prog w) B (Hg S slot i ep) C E' s){x:Value}{nxt:Nat}(hR:R=aa (x,nxt))
  (h:∀h',lW h' it S (jg nxt) (i+1) n ep->zQ it s.heap h'->Q (aa x) {s with heap:=h'}):aQ (model prog w) A (nG (.ref it)) Q E s:=by
 obtain⟨o,ho,hc,hd⟩:=id hit
 obtain⟨os,hos,exs,hds,hf,tb⟩:=id hs
 unfold nG;refine aC (Gj (zu (name:=dO "__next__") hit.ty tO (oW tO hit.ty Lj ?_ (Lk _))));unfold j5.«set_iterator.__next__»;refine aC (aZ (aC (zL ho hd ?_)));dsimp only[jg];refine aC (JC hos hds hf ?_);subst hn;subst hR;rw[bf (by simp)];refine aC (nx ?_);dsimp only;refine aC (zM ho hd (by simp) ?_)
 obtain⟨o1,g1,c1,d1⟩:=lW.set (j:=0) (x:=.int nxt 0) ho hc hd
 refine aC (zM g1 d1 (by simp) ?_)
 obtain⟨o2,g2,c2,d2⟩:=lW.set (j:=1) (x:=.int (i+1) 0) g1 c1 d1
 refine aZ ⟨_,rfl,aZ (h _ ⟨o2,g2,c2,?_⟩ ((tB ..).trans (tB ..)))⟩;rw[d2];simp[jg]
theorem acT(hh:A.handled=aj)(h:∀h',(∀b o,s'.heap.get? b=aa o->h'.get? b=aa o)->Q aj {s' with heap:=h'}):
  aQ (model prog w) A.in1 (do let e <-newExc (.type "StopIteration") [];(raiseNew e:Sem Fin)) (λfin s1=>∃v,fin=Fin.done (Flow.ret v)/\aQ (model prog w) A (pure (aa v)) Q E s1)
   (λe s1=>aQ (model prog w) A (do if(<-isInstance e (Dc "StopIteration"))=ao then pure aj else throw e) Q E s1) s':=by
 refine aC ?_;simp only[newExc,newTuple];refine aC (mQ ?_ (by size_fits));refine aC (m:=QT _ _) (aam (a:=mU) (by first|rfl|(simp only[QT];rfl)) ?_);refine mQ ?_ (by size_fits);simp only[raiseNew];refine aC (wpAny_handled ?_);rw[show A.in1.handled=aj from hh];refine aC (aZ (wpAny_throw ?_));refine aC (YM (T:="StopIteration") (b:=ao) ⟨_,iI _ rfl,rfl⟩ isSubtype_stop ?_);exact aZ (h _ λb o e=>cJ _ (cJ _ e))
theorem adS{Q:Option Value->aB->Prop}{slot:Nat}(hh:A.handled=aj)(hit:lW s.heap it S (jg slot) i n ep)(hs:nQ (bt w) s.heap S es ep t)(hn:n=es.size)
  (nx:∀{B:cD}{E':Value->aB->Prop}{C:Option (Value×Nat)->aB->Prop},C aj s->aQ (model prog w) B (Hg S slot i ep) C E' s)
  (h:∀h',(∀b o,b≠it->s.heap.get? b=aa o->h'.get? b=aa o)->Q aj {s with heap:=h'}):aQ (model prog w) A (nG (.ref it)) Q E s:=by
 obtain⟨o,ho,hc,hd⟩:=id hit
 obtain⟨os,hos,exs,hds,hf,tb⟩:=id hs
 unfold nG;refine aC (Gj (zu (name:=dO "__next__") hit.ty tO (oW tO hit.ty Lj ?_ (Lk _))));unfold j5.«set_iterator.__next__»;refine aC (aZ (aC (zL ho hd ?_)));dsimp only[jg];refine aC (JC hos hds hf ?_);subst hn;rw[bf (by simp)];refine aC (nx ?_);dsimp only;refine aC (zM ho hd (by simp) ?_);exact acT hh λh' kk=>h h' λb o hb e=>kk b o (((tB ..).2 b hb).trans e)
end
section
variable{prog:bD}{w:bB}{A:cD}{E:Value->aB->Prop}{s:aB}{it S:aq}{es:Array (Int×Value)}{ep i n:Nat}{t:vK}{first:Value}
theorem Mw(h:Q (!bt w) s):aQ (model prog w) A aaA Q E s:=by
 unfold aaA;refine aC (Qs (aZ ?_));have h':Q (w.params.followText "set-order") s:=by simpa[bt] using h
 exact h'
theorem Sw:∀{l:List α}{j:Nat}(h:j<l.length),(l[j]::l.eraseIdx j).Perm l
 |[],j,h=>by cases h
 |a::l,0,h=>.refl _
 |a::l,j+1,h=>by
  have:=Sw (l:=l) (j:=j) (by simpa using h);simp only[List.getElem_cons_succ,List.eraseIdx_cons_succ]
  exact(QV ..).trans (this.cons a)
theorem aa1(hs:nQ (bt w) s.heap S es ep t)(hb:bt w=ao)(nd:(!t.plain&&decide (es.size>1))=aF)
  (h:C (match es[jP t.place slot]?,t.place[jP t.place slot]? with|some (_,x),some j=>aa (x,j+1)|_,_=>aj) s):aQ (model prog w) A (Hg S slot i ep) C E s:=by
 obtain⟨o,ho,ex,hd,hf,tb⟩:=hs
 unfold Hg;refine aC (Fw ho hd hf ?_);refine aC (Mw ?_);rw[hb];simp only[Q9,pR,if_false];refine QG (λz=>?_) (λ_=>?_)
 .have z':(!t.plain&&decide (es.size>1))=ao:=z;rw[nd] at z';cases z'
 refine aC (show aQ _ _ (if(!t.led&&!es.isEmpty)=ao then _ else _) _ _ _ from ?_);rw[tb.led,hb];simp only[Q9,Gb,pR,if_false];exact aZ (aZ h)
theorem aa2(hs:nQ (bt w) s.heap S es ep t)(hb:bt w=aF)
  (h:C (((zZ (w.params.setOrder S ep) es)[i]?).map λe=>(e.2,slot)) s):aQ (model prog w) A (Hg S slot i ep) C E s:=by
 obtain⟨o,ho,ex,hd,hf,tb⟩:=hs
 unfold Hg;refine aC (Fw ho hd hf ?_);refine aC (Mw ?_);rw[hb];simp only[Gd,if_true,bne_self_eq_false,pR,if_false];refine aC ?_;unfold setWalk;refine aC (Fw ho hd hf ?_);refine aC (Mw ?_);rw[hb];simp only[Gd,if_true];refine aC (Qs (aZ ?_));exact aZ h
theorem acU(f:Nat->Nat):∀(m k:Nat)(left:List α)(out:Array α),left.length=m->(Z4 f m k left out).toList.Perm (out.toList++left)
 |0,k,left,out,h=>by
  unfold Z4;rw[agl.mp h];simp
 |m+1,k,left,out,h=>by
  unfold Z4;have hl:f k%left.length<left.length:=Nat.mod_lt _ (by lia);rw[jX hl];dsimp only
  refine(acU f m (k+1) _ _ (by rw[agH];simp[hl];lia)).trans ?_
  rw[ag8,lA];refine agB _ ?_;exact Sw hl
theorem Th(f:Nat->Nat)(xs:Array α):(zZ f xs).toList.Perm xs.toList:=by
 have:=acU f xs.size 0 xs.toList #[] (by simp);simpa[zZ] using this
theorem akX(hm:m≠0)(h:∀j d,j<m->Q j {s with drawn:=d}):aQ (model prog w) A (choose src m) Q E s:=λΓ p _=>⟨hm,h _ _ (Nat.mod_lt _ (Nat.pos_of_ne_zero hm))⟩
theorem abE:∀(m:Nat)(xs:List α)(s:aB)(Q:List α->aB->Prop),xs.length=m->(∀ys d,ys.Perm xs->Q ys {s with drawn:=d})->aQ (model prog w) A (drawOrder m xs) Q E s
 |0,xs,s,Q,hl,h=>by
  unfold drawOrder;rw[agl.mp hl] at h;exact aZ (h [] s.drawn (.refl _))
 |m+1,[],s,Q,hl,h=>by cases hl
 |m+1,x::xs,s,Q,hl,h=>by
  unfold drawOrder;refine aC (akX (by simp) λj d hj=>?_);rw[jX hj];dsimp only;refine aC (abE m _ _ _ (by rw[agH,aV hj];simpa using hl) λys d' hp=>?_);exact aZ (h _ d' ((hp.cons _).trans (Sw hj)))
end
section
variable{prog:bD}{w:bB}{A:cD}{E:Value->aB->Prop}{s:aB}{it S pl:aq}{es:Array (Int×Value)}{ep i n:Nat}{t:vK}{ps:List Nat}
def Ex(h:bz)(pl:aq)(ps:List Nat):Prop:=∃o c,h.get? pl=aa o/\o.data=.seq (ps.map λk:Nat=>jg k).toArray c
theorem Ex.at(H:Ex h pl ps)(e:∀o,h.get? pl=aa o->h'.get? pl=aa o):Ex h' pl ps:=let ⟨o,c,ho,r⟩:=H;⟨o,c,e o ho,r⟩
theorem amr(hit:lW s.heap it S (.ref pl) i n ep)(hs:nQ (bt w) s.heap S es ep t)(hp:Ex s.heap pl ps)(hn:n=es.size)(hk:ps[i]?=aa k)(he:es[k]?=aa e)
  (h:∀h',lW h' it S (.ref pl) (i+1) n ep->zQ it s.heap h'->Q (aa e.2) {s with heap:=h'}):aQ (model prog w) A (nG (.ref it)) Q E s:=by
 obtain⟨o,ho,hc,hd⟩:=id hit
 obtain⟨os,hos,exs,hds,hf,tb⟩:=id hs
 obtain⟨op,cp,hop,hdp⟩:=hp
 unfold nG;refine aC (Gj (zu (name:=dO "__next__") hit.ty tO (oW tO hit.ty Lj ?_ (Lk _))));unfold j5.«set_iterator.__next__»;refine aC (aZ (aC (zL ho hd ?_)));dsimp only[jg];refine aC (JC hos hds hf ?_);subst hn;rw[bf (by simp)];refine aC (JX hop hdp ?_);dsimp only;rw[show((ps.map λk:Nat=>jg k).toArray)[((i:Int)).toNat]?=aa (.int (k:Int) 0) by simp[hk,jg]];dsimp only;refine aC ?_;unfold setNextDrawn;refine aC (Fw hos hds hf ?_);simp only[zA,bne_self_eq_false,pR,if_false,he];refine aZ (aC (zM ho hd (by simp) ?_))
 obtain⟨o1,g1,c1,d1⟩:=lW.set (j:=1) (x:=.int (i+1) 0) ho hc hd
 refine aZ ⟨_,rfl,aZ (h _ ⟨o1,g1,c1,?_⟩ (tB ..))⟩;rw[d1];simp[jg]
theorem aog(hh:A.handled=aj)(hit:lW s.heap it S (.ref pl) i n ep)(hs:nQ (bt w) s.heap S es ep t)(hp:Ex s.heap pl ps)(hn:n=es.size)(hk:ps.length<=i)
  (h:∀h',(∀b o,b≠it->s.heap.get? b=aa o->h'.get? b=aa o)->Q aj {s with heap:=h'}):aQ (model prog w) A (nG (.ref it)) Q E s:=by
 obtain⟨o,ho,hc,hd⟩:=id hit
 obtain⟨os,hos,exs,hds,hf,tb⟩:=id hs
 obtain⟨op,cp,hop,hdp⟩:=hp
 unfold nG;refine aC (Gj (zu (name:=dO "__next__") hit.ty tO (oW tO hit.ty Lj ?_ (Lk _))));unfold j5.«set_iterator.__next__»;refine aC (aZ (aC (zL ho hd ?_)));dsimp only[jg];refine aC (JC hos hds hf ?_);subst hn;rw[bf (by simp)];refine aC (JX hop hdp ?_);dsimp only;rw[show((ps.map λk:Nat=>jg k).toArray)[((i:Int)).toNat]?=aj by simp[hk]];dsimp only;refine aC (zM ho hd (by simp) ?_)
 obtain⟨o1,g1,c1,d1⟩:=lW.set (j:=0) (x:=.int 0 0) ho hc hd
 refine aC (zM g1 d1 (by simp) ?_);exact acT hh λh' kk=>h h' λb o hb e=>kk b o ((((tB ..).trans (tB ..)).2 b hb).trans e)
theorem ajX(hh:A.handled=aj)(ne:S≠it)(hb:bt w=ao)(nd:(!t.plain&&decide (es.size>1))=aF)(hz:t.place.size=es.size)(rs:t.place.toList.Pairwise (·<·)):
  Ar prog w A it [it,S] [it] es.size (λi v=>(es.toList.map (·.2))[i]?=aa v) (λi h=>lW h it S (jg (if i=0 then 0 else t.place.getD (i-1) 0+1:Nat)) i es.size ep/\nQ (bt w) h S es ep t) where
 sub:=λb hb=>by simp at hb;simp[hb]
 frame:=λ_ _ _ st hk=>⟨st.1.at λo e=>hk it (by simp) o e,st.2.at λo e=>hk S (by simp) o e⟩
 item:=λi s Q E hi st hQ=>by
  have hp:i<t.place.size:=by lia
  have bl:jP t.place (if i=0 then 0 else t.place.getD (i-1) 0+1)=i:=by
   by_cases z:i=0
   .subst z;exact acP rs
   .rw[bf z];have h1:i-1<t.place.size:=by lia
    have:=aay rs h1;rw[uF,m6 h1,zE,this];lia
  refine acS (R:=aa (es[i].2,t.place[i]+1)) st.1 st.2 rfl ne (λc=>aa1 st.2 hb nd ?_) rfl λh' hit' same=>hQ _ h' s.toks (by simp[hi]) ⟨?_,st.2.at λo e=>(same.2 S ne).trans e⟩ λb o hb e=>(same.2 b λz=>hb (by simp[z])).trans e
  .rw[bl,m6 hi,m6 hp];exact c
  .have e1:(if i+1=0 then 0 else t.place.getD (i+1-1) 0+1)=t.place[i]+1:=by
    rw[bf (by lia),Nat.add_sub_cancel,uF,m6 hp,zE]
   rw[e1];exact hit'
 done:=λs Q E st hQ=>by
  have bl:jP t.place (if es.size=0 then 0 else t.place.getD (es.size-1) 0+1)=es.size:=by
   by_cases z:es.size=0
   .rw[aV z,z];exact acP rs
   .rw[bf z];have h1:es.size-1<t.place.size:=by lia
    have:=aay rs h1;rw[uF,m6 h1,zE,this];lia
  refine adS hh st.1 st.2 rfl (λc=>aa1 st.2 hb nd ?_) λh' kk=>hQ h' s.toks λb o hb e=>kk b o (λz=>hb (by simp[z])) e
  rw[bl,X7 (bU _)];exact c
 self:=λ_ _ _ _ st hQ=>U8 st.1 hQ
theorem ajY(hh:A.handled=aj)(ne:S≠it)(hb:bt w=aF):
  Ar prog w A it [it,S] [it] es.size (λi v=>((zZ (w.params.setOrder S ep) es).toList.map (·.2))[i]?=aa v) (λi h=>lW h it S (jg (0:Nat)) i es.size ep/\nQ (bt w) h S es ep t) where
 sub:=λb hb=>by simp at hb;simp[hb]
 frame:=λ_ _ _ st hk=>⟨st.1.at λo e=>hk it (by simp) o e,st.2.at λo e=>hk S (by simp) o e⟩
 item:=λi s Q E hi st hQ=>by
  have hl:(zZ (w.params.setOrder S ep) es).size=es.size:=by rw[<-jF,(Th _ es).length_eq,jF]
  have hp:i<(zZ (w.params.setOrder S ep) es).size:=by lia
  refine acS (R:=aa ((zZ (w.params.setOrder S ep) es)[i].2,0)) st.1 st.2 rfl ne (λc=>aa2 st.2 hb ?_) rfl λh' hit' same=>hQ _ h' s.toks (by simp[hp]) ⟨hit',st.2.at λo e=>(same.2 S ne).trans e⟩ λb o hb e=>(same.2 b λz=>hb (by simp[z])).trans e
  rw[m6 hp];exact c
 done:=λs Q E st hQ=>by
  have hl:(zZ (w.params.setOrder S ep) es).size=es.size:=by rw[<-jF,(Th _ es).length_eq,jF]
  refine adS hh st.1 st.2 rfl (λc=>aa2 st.2 hb ?_) λh' kk=>hQ h' s.toks λb o hb e=>kk b o (λz=>hb (by simp[z])) e
  rw[X7 (by lia)];exact c
 self:=λ_ _ _ _ st hQ=>U8 st.1 hQ
theorem ai9(hh:A.handled=aj)(ne:S≠it)(np:pl≠it)(pp:ps.Perm (fP es.size)):
  Ar prog w A it [it,S,pl] [it] es.size (λi v=>(ps.map λk=>(es.getD k (0,.none)).2)[i]?=aa v) (λi h=>lW h it S (.ref pl) i es.size ep/\nQ (bt w) h S es ep t/\Ex h pl ps) where
 sub:=λb hb=>by simp at hb;simp[hb]
 frame:=λ_ _ _ st hk=>⟨st.1.at λo e=>hk it (by simp) o e,st.2.1.at λo e=>hk S (by simp) o e,st.2.2.at λo e=>hk pl (by simp) o e⟩
 item:=λi s Q E hi st hQ=>by
  have hl:ps.length=es.size:=by rw[pp.length_eq,ou]
  have hp:i<ps.length:=by lia
  have hk:ps[i]<es.size:=uL.mp (pp.mem_iff.mp (zF hp));refine amr (k:=ps[i]) (e:=es[ps[i]]) st.1 st.2.1 st.2.2 rfl (jX hp) (m6 hk) λh' hit' same=>hQ _ h' s.toks ?_ ⟨hit',st.2.1.at λo e=>(same.2 S ne).trans e,st.2.2.at λo e=>(same.2 pl np).trans e⟩ λb o hb e=>(same.2 b λz=>hb (by simp[z])).trans e
  rw[jm,jX hp,jG,uF,m6 hk];rfl
 done:=λs Q E st hQ=>by
  have hl:ps.length=es.size:=by rw[pp.length_eq,ou]
  exact aog hh st.1 st.2.1 st.2.2 rfl (by lia) λh' kk=>hQ h' s.toks λb o hb e=>kk b o (λz=>hb (by simp[z])) e
 self:=λ_ _ _ _ st hQ=>U8 st.1 hQ
end
section
variable{prog:bD}{w:bB}{A:cD}{E:Value->aB->Prop}{s:aB}{S:aq}{es:Array (Int×Value)}{ep:Nat}{t:vK}
theorem ajZ(hs:nQ (bt w) s.heap S es ep t)(h:Q (bt w&&(!t.plain&&decide (es.size>1))) s):aQ (model prog w) A (setDrawn S) Q E s:=by
 obtain⟨os,hos,exs,hds,hf,tb⟩:=id hs
 unfold setDrawn;refine aC (Fw hos hds hf ?_);refine aC (Mw (aZ ?_));rw[Bool.not_not];exact h
theorem akY(hh:A.handled=aj)(hs:nQ (bt w) s.heap S es ep t)(hb:es.size<rM)
  (h:∀(I:aq)(h1:bz)(d:Al)(fp:List aq)(out:List Value)(St:Nat->bz->Prop),Ar prog w A I fp [I] es.size (λi v=>out[i]?=aa v) St->St 0 h1->out.Perm (es.toList.map (·.2))->(∀b o,s.heap.get? b=aa o->h1.get? b=aa o)->s.heap.objs.size<=I->
   (∀b∈fp,b=S\/s.heap.objs.size<=b)->Q (.ref I) {s with heap:=h1,drawn:=d}):aQ (model prog w) A (DG (.ref S)) Q E s:=by
 obtain⟨os,hos,exs,hds,hf,tb⟩:=id hs
 have hT:s.TypeIs (.ref S) "set":=⟨os,hos,exs.1⟩
 have lt:S<s.heap.objs.size:=cC hos;have hz:t.place.size=es.size:=by
  have:=hf;simp only[SetTable.fits,jn,beq_iff_eq] at this;exact this.1
 refine Yy hT ahJ (oW ahJ hT ai8 ?_ (F.args_set_iter_1 _));unfold j5.«frozenset.__iter__» asx asr;refine aC (aC (aZ (aZ ?_)));refine aC (aC (JC hos hds hf (aZ ?_)));refine aC (ajZ hs ?_);by_cases hd:(bt w&&(!t.plain&&decide (es.size>1)))=ao
 .rw[aV hd];refine aC (abE _ _ _ _ (ou ..) λps d pp=>?_);have pl:ps.length=es.size:=by rw[pp.length_eq,ou]
  unfold newTuple;refine aC (mQ ?_ (show(List.map (λi:Nat=>jg i) ps).toArray.size<=bW by rw[gH,bw,pl,iM];unfold rM at hb;lia));have g1:(s.heap.push {cls:=.type "tuple",data:=.seq (ps.map λk:Nat=>jg k).toArray}).get? S=aa os:=cJ _ hos;refine aC (aha (s:={s with heap:=s.heap.push _,drawn:=d}) g1 hds hf ?_);refine aC ?_;unfold newFields;refine mQ ?_;refine aZ ⟨_,rfl,"set_iterator",_,⟨_,iI _ rfl,rfl⟩,tO.lookup,?_⟩;have yZ:(s.heap.push {cls:=.type "tuple",data:=.seq (ps.map λk:Nat=>jg k).toArray}).objs.size=s.heap.objs.size+1:=zJ ..;refine h _ _ d [_,S,s.heap.objs.size] _ _ (ai9 (ep:=ep) (t:=t) hh ?_ ?_ pp) ⟨⟨_,iI _ rfl,rfl,rfl⟩,⟨os,cJ _ g1,exs,hds,hf,tb⟩,⟨_,0,cJ _ (iI _ rfl),rfl⟩⟩ ?_ (λb o e=>cJ _ (cJ _ e)) ?_ ?_
  .rw[yZ];exact fL (zB lt)
  .rw[yZ];exact fL (YT _)
  .have e2:(fP es.size).map (λk=>(es.getD k (0,mU)).2)=es.toList.map (·.2):=by
    refine Cu (by simp) λj h1 h2=>?_
    have hj:j<es.size:=by simpa using h1
    simp[uF,m6 hj]
   rw[<-e2];exact pp.map _
  .rw[yZ];exact qK _
  .intro b hb';simp only[bY,oA,or_false] at hb';rcases hb' with rfl|rfl|rfl
   .right;rw[yZ];exact qK _
   .exact .inl rfl
   .exact .inr (bU _)
 .rw[bf hd];refine aC (aZ ?_);refine aC (aha hos hds hf ?_);refine aC ?_;unfold newFields;refine mQ ?_;refine aZ ⟨_,rfl,"set_iterator",_,⟨_,iI _ rfl,rfl⟩,tO.lookup,?_⟩;have ae7:∀b,b∈[s.heap.objs.size,S]->b=S\/s.heap.objs.size<=b:=λb hb'=>by
   simp only[bY,oA,or_false] at hb';rcases hb' with rfl|rfl
   .exact .inr (bU _)
   .exact .inl rfl
  cases hbt:bt w with
  |true=>
   rw[hbt] at hd;have nd:(!t.plain&&decide (es.size>1))=aF:=by simpa using hd
   exact h _ _ s.drawn [_,S] _ _ (ajX (ep:=ep) hh (fL lt) hbt nd hz tb.Xl) ⟨⟨_,iI _ rfl,rfl,rfl⟩,⟨os,cJ _ hos,exs,hds,hf,tb⟩⟩ (.refl _) (λb o e=>cJ _ e) (bU _) ae7
  |false=>
   exact h _ _ s.drawn [_,S] _ _ (ajY (ep:=ep) (t:=t) hh (fL lt) hbt) ⟨⟨_,iI _ rfl,rfl,rfl⟩,⟨os,cJ _ hos,exs,hds,hf,tb⟩⟩ ((Th _ es).map _) (λb o e=>cJ _ e) (bU _) ae7
end
end L2
namespace L2
open PySem PySem.Spec PySem.W PyProof.Rows
section
variable{prog:bD}{w:bB}{A:cD}{E:Value->aB->Prop}{s:aB}{S:aq}{es:Array (Int×Value)}{ep:Nat}{t:vK}
theorem akZ(hT:s.TypeIs (.ref S) "set")(h:Q aF s):aQ (model prog w) A (af8 (.ref S)) Q E s:=by
 unfold af8;refine aC (wpAny_specialOf hT PySem.F.slot_set_len.lookup ?_);generalize hid:("set.__len__":String)=nm
 wp_delta
 rw[show splitId nm=aa ("set","__len__") by subst hid;decide +kernel];subst hid;refine aC (YM (T:="set") (b:=ao) hT (by rw[Zn];kernel_rfl) ?_);refine QG (λz=>absurd z (by decide)) λ_=>QG (λ_=>?_) λz=>absurd (by decide +kernel) z
 exact aC (Kd hT (aZ h))
theorem aj0{out:List Value}{acc:Array Value}(h:ItemsOf (λi v=>out[i]?=aa v) acc out.length):acc=out.toArray:=by
 refine Array.ext (by simpa using h.1) λj h1 h2=>?_
 have this:out[j]?=aa acc[j]:=h.2 j acc[j] (m6 h1);have hj:j<out.length:=by simpa using h2
 rw[jX hj] at this;simpa using(gP this).symm
theorem aja{R:tV->aB->Prop}(hh:A.handled=aj)(hs:nQ (bt w) s.heap S es ep t)(hb:es.size<rM){L:aq}(ne:L≠S){c0:Nat}(hL:s.heap.get? L=aa {cls:=.type "list",data:=.seq #[] c0})(res:Value)
  (hR:∀(h':bz)(d:Al)(tk:Nat)(us:List Value)(c':Nat),us.Perm (es.toList.map (·.2))->(∀b o,b≠L->s.heap.get? b=aa o->h'.get? b=aa o)->h'.get? L=aa {cls:=.type "list",dict:=aj,data:=.seq us.toArray c',slots:=#[]}->
   R (.ok (.ret res)) {s with heap:=h',drawn:=d,toks:=tk}):
  aQ (model prog w) A.in1 (Pz (.ref L) (.ref S) res) (λfin s'=>match fin with|.done f=>R (.ok f) s'|.again c'=>c'.quiet=ao/\mC (model prog w) A c' R s') (λe s'=>R (.error e) s') s:=by
 obtain⟨os,hos,exs,hds,hf,tb⟩:=id hs
 have hT:s.TypeIs (.ref S) "set":=⟨os,hos,exs.1⟩
 have ltL:L<s.heap.objs.size:=cC hL;unfold Pz;refine aC (Kd hT ?_);rw[show(XS (.ref L) (.ref S)||Dc "set"==Dc "list"||Dc "set"==Dc "tuple")=aF by
  rw[show XS (.ref L) (.ref S)=aF by simp[XS,ne]];decide]
 simp only[pR,if_false];refine aC (akY (A:=A.in1) hh hs hb λI h1 d fp out St W st pm kp geI okf=>?_);have lo:out.length=es.size:=by rw[pm.length_eq,bw,jF]
 have bF:L∉fp:=λz=>(okf L z).elim ne λz'=>absurd ltL (Sh.mpr z')
 have run:∀(h2:bz)(c1 tk:Nat),St 0 h2->(∀b o,b≠L->s.heap.get? b=aa o->h2.get? b=aa o)->h2.get? L=aa {cls:=.type "list",data:=.seq #[] c1}->
   mC (model prog w) A (.builtin "list.extend.loop" ⟨[.ref L,.ref I,res],[]⟩) R {s with heap:=h2,drawn:=d,toks:=tk}:=λh2 c1 tk st2 k2 g2=>by
  refine codeAny_extend_loopS W.toS (YF hb) L bF res es.size 0 _ #[] c1 rfl (kI _) st2 g2 (ItemsOf.nil _) λs3 acc c3 mv g3 io=>?_
  rw[<-lo] at io;have ea:=aj0 io;subst ea;rw[Moved.eq_with mv];refine hR s3.heap d s3.toks out c3 pm (λb o nb e=>mv.heap b o (λz=>?_) (k2 b o nb e)) g3;rcases bY.mp z with z|z
  .exact nb z
  .exact absurd (cC e) (by rw[jb.mp z];exact Sh.mpr geI)
 have gL:=kp L _ hL;have gS:Shared.TypeIs {s with heap:=h1,drawn:=d} (.ref S) "set":=⟨os,kp S _ hos,exs.1⟩
 refine aC (nj (akZ gS ?_));refine QG (λ_=>?_) λ_=>aZ ⟨vG age _,run h1 c0 s.toks st (λb o _ e=>kp b o e) gL⟩
 refine aC (zW (aC (show aQ _ _ (Ti L (·.push .none) >>= λ_=>Ti L (·.pop)) _ _ _ from ?_)));refine aC (JP gL rfl ?_);have u2:=zx (nA (·.push mU)) gL rfl;refine JP (hz:=by seq_fits) u2 rfl ?_;have u3:=zx (nA (·.pop)) u2 rfl;have far:∀b o,b≠L->h1.get? b=aa o->((h1.update L (nA (·.push mU))).update L (nA (·.pop))).get? b=aa o:=λb o nb e=>
  (uG _ _ (lO nb)).trans ((uG _ _ (lO nb)).trans e)
 exact aZ ⟨vG age _,run _ _ s.toks (W.frame 0 _ _ st λb hb' o e=>far b o (λz=>bF (z▸hb')) e) (λb o nb e=>far b o nb (kp b o e)) u3⟩
theorem aiK(hh:A.handled=aj)(hs:nQ (bt w) s.heap S es ep t)(hb:es.size<rM)
  (h:∀(h':bz)(d:Al)(tk:Nat)(us:List Value),us.Perm (es.toList.map (·.2))->s.heap.objs.size<=h'.objs.size->(∀b o,s.heap.get? b=aa o->h'.get? b=aa o)->R us {s with heap:=h',drawn:=d,toks:=tk}):
  aQ (model prog w) A (collect (.ref S)) R E s:=by
 have ltS:S<s.heap.objs.size:=let ⟨_,e,_⟩:=hs;cC e
 unfold collect;refine aC (wpAny_runValue (xO entry_proto_collect' ?_));rw[xF af7 _];show aQ _ A.in1 (newList [] >>= λl=>again (.builtin "list.__iadd__" ⟨[l,.ref S],[]⟩)) _ _ s;refine aC (mQ (aZ ⟨vG P0 _,xO entry_list_iadd' ?_⟩));rw[xF P0 _];have g0:(s.heap.push {cls:=.type "list",data:=.seq ([]:List Value).toArray}).get? s.heap.objs.size=aa {cls:=.type "list",data:=.seq #[]}:=iI _ rfl;show aQ _ A.in1 (Pz (.ref s.heap.objs.size) (.ref S) (.ref s.heap.objs.size)) _ _ _;have key:=aja (prog:=prog) (A:=A) (s:={s with heap:=s.heap.push {cls:=.type "list",data:=.seq ([]:List Value).toArray}})
  (R:=λ(q:tV)(s':aB)=>∃(h':bz)(d:Al)(tk:Nat)(us:List Value)(c':Nat),q=.ok (.ret (.ref s.heap.objs.size))/\s'={s with heap:=h',drawn:=d,toks:=tk}/\us.Perm (es.toList.map (·.2))/\(∀b o,s.heap.get? b=aa o->h'.get? b=aa o)/\h'.get? s.heap.objs.size=aa {cls:=.type "list",dict:=aj,data:=.seq us.toArray c',slots:=#[]})
  hh (hs.at λo e=>cJ _ e) hb (Gp ltS) g0 (.ref s.heap.objs.size) (λh' d tk us c' pm kk g=>⟨h',d,tk,us,c',rfl,rfl,pm,λb o e=>kk b o (fL (cC e)) (cJ _ e),g⟩)
 refine pW key (λfin s' x=>?_) λe s' x=>?_
 .cases fin with
  |done f=>
   obtain⟨h',d,tk,us,c',e,rfl,pm,kk,g⟩:=x
   cases e;show aQ _ A (load s.heap.objs.size >>= _) _ _ _;exact aC (K4 g (aZ (h h' d tk us pm (xU (cC g)) kk)))
  |again c1=>
   refine⟨x.1,Kc x.2 λq s2 y=>?_⟩
   obtain⟨h',d,tk,us,c',rfl,rfl,pm,kk,g⟩:=y
   show aQ _ A (load s.heap.objs.size >>= _) _ _ _;exact aC (K4 g (aZ (h h' d tk us pm (xU (cC g)) kk)))
 .obtain⟨_,_,_,_,_,e',_⟩:=x
  cases e'
end
section
variable{prog:bD}{w:bB}{A:cD}{E:Value->aB->Prop}{s:aB}{S:aq}{es:Array (Int×Value)}{ep:Nat}{t:vK}
theorem ajb{Ok:List Value->Prop}{Q:Value->aB->Prop}(hh:A.handled=aj)(hs:nQ (bt w) s.heap S es ep t)(few:es.size<64)
  (srt:∀us:List Value,us.Perm (es.toList.map (·.2))->∀(B:cD)(s1:aB)(a:aq)(n:Nat)(P:Fin->aB->Prop)(E':Value->aB->Prop),s1.heap.get? a=aa (seqObj "list" us.toArray n)->
   (∀out:Array Value,Ok out.toList->P (.done (.ret .none)) {s1 with heap:=sortedHeap s1.heap a us out})->aQ (model prog w) B (j5.«list.sort» ⟨[.ref a],[]⟩) P E' s1)
  (h:∀(D:aq)(h':bz)(d:Al)(tk c:Nat)(out:Array Value),Ok out.toList->s.heap.objs.size<=D->(∀b o,s.heap.get? b=aa o->h'.get? b=aa o)->h'.get? D=aa (seqObj "list" out c)->Q (.ref D) {s with heap:=h',drawn:=d,toks:=tk}):
  aQ (model prog w) A (call (.builtin "sorted") [.ref S]) Q E s:=by
 refine PK kind_sorted plain_sorted entry_sorted (args_sorted1 _) ?_;unfold j5.«sorted»;refine aC (m:=Sq "sorted" 1 1 _) (aZ (aC (aiK (A:=A.in1) hh hs (by unfold rM;lia) λh1 d tk us pm ge kk=>?_)));have lu:us.length=es.size:=by rw[pm.length_eq,bw,jF]
 refine aC (J2 ?_ (by rw[iM];lia));have gL:(h1.push (seqObj "list" us.toArray 0)).get? h1.objs.size=aa (seqObj "list" us.toArray 0):=iI _ rfl;refine aC (nj (oW slot_list_sort ⟨_,gL,rfl⟩ entry_list_sort (srt us pm _ {s with heap:=h1.push (seqObj "list" us.toArray 0),drawn:=d,toks:=tk} _ 0 _ _ gL λout ok=>⟨_,rfl,?_⟩) (args_list_sort _)))
 obtain⟨c,gD⟩:=sortedHeap_at (out:=out) gL
 refine aZ ⟨_,rfl,h h1.objs.size _ d tk c out ok ge (λb o e=>?_) gD⟩;have lb:b<h1.objs.size:=cC (kk b o e)
 show(sortedHeap (h1.push (seqObj "list" us.toArray 0)) h1.objs.size us out).get? b=aa o
 rw[sortedHeap_old (fL lb) (by rw[zJ];exact zB lb)];exact cJ _ (kk b o e)
end
theorem Inv.drew(d:Al)(I:Inv X pins σ H s):Inv X pins σ H {s with drawn:=d}:=
 I.call (g':=s.gens) (t':=s.toks) (d':=d) (ch:=[]) (Un.kept λ_ _ e=>e) (I.hok.kept λ_ _ e=>e) I.bare (λ_ z=>nomatch z)
section
variable{X:Cx}{T:Type}[DecidableEq T]{knd:zN X.prog X.w T}{l:Expr}{tl:TE}{p1 p2 pos1 pos2:Pos}
end
section
variable{prog:bD}{w:bB}
theorem ak0(h:lJ (J3 prog w) es ks):(es.map (·.2)).map strOf=ks/\∀v,v∈es.map (·.2)->∃x t,v=.str x t:=by
 induction h with
 |nil=>exact⟨rfl,λv hv=>by cases hv⟩
 |@cons e k es ks a _ ih=>
  obtain⟨t,ht⟩:=agK (show ZD k e.2=ao from a.1)
  refine⟨by rw[cj,cj,ih.1,ht];rfl,λv hv=>?_⟩
  rcases bY.mp hv with rfl|hv
  .exact⟨k,t,ht⟩
  .exact ih.2 v hv
end
section
variable{X:Cx}{l:Expr}{tl:TE}{p1 p2 pos1 pos2:Pos}
end
section
variable{prog:bD}{w:bB}{A:cD}{E:Value->aB->Prop}{s:aB}{R:tV->aB->Prop}{I S:aq}{fp wr:List aq}{n:Nat}{Pv:Nat->Value->Prop}{St:Nat->bz->Prop}{bt:Nat->Nat->Bool}
def apg(v:Value)(c:Nat):Obj:={cls:=.type "list",dict:=aj,data:=.seq #[v,v] c,slots:=#[]}
end
section
variable{prog:bD}{w:bB}{A:cD}{E:Value->aB->Prop}{s:aB}
theorem ail{id:String}{b:j5}{as:List Value}{kw:List (Str×Value)}{Q:Value->aB->Prop}(hk:builtinKind id=aj)(hp:plainId id=ao)(hb:Ua table id=aa b)(ha:Hw id ⟨as,kw⟩)
  (hc:aQ (model prog w) A.in1 (b ⟨as,kw⟩) (λfin s'=>match fin with
   |.done f=>(match(Except.ok f:tV) with|.ok (.ret v)=>Q v s'|.ok _=>False|.error e=>E e s')
   |.again c'=>c'.quiet=ao/\mC (model prog w) A c' (λr s'=>match r with|.ok (.ret v)=>Q v s'|.ok _=>False|.error e=>E e s') s') E s):aQ (model prog w) A (call (.builtin id) as kw) Q E s:=by
 refine wpAny_call (codeAny_call_builtin hp hb ?_);simp only[checkBuiltinCall,hk];cases hg:Manifest.signature? id with
 |none=>exact aZ hc
 |some sg=>
  simp only[Hw,hg] at ha;show aQ _ A.in1 (ahM id sg ⟨as,kw⟩) _ _ s;rw[show ahM id sg ⟨as,kw⟩=pure () from ha];exact aZ hc
end
section
variable{X:Cx}{l de:Expr}{tl td:TE}{p pos kp:Pos}
end
end L2
namespace L2
open PySem PySem.Spec PyProof.Rows PySem.W
def cL:au->Option Key
 |.int i=>aa (.inl i)
 |.str x=>aa (.inr x)
 |_=>aj
def keysOf:List au->Option (List Key)
 |[]=>aa []
 |d::r=>match cL d,keysOf r with
  |some k,some t=>aa (k::t)
  |_,_=>aj
def rY:au->Option (List Key)
 |.tuple ds=>keysOf ds
 |_=>aj
def cH{κ:Type}(f:au->Option κ):List (au×au)->Option (List κ)
 |[]=>aa []
 |p::r=>match f p.1,cH f r with
  |some k,some t=>aa (k::t)
  |_,_=>aj
def za(H:Hp)(a:aq)(kvs:List (au×au))(vs:List V):Prop:=
 (∃ks,cH cL kvs=aa ks/\H a=aa (.dK (ks.zip vs)))\/∃ks,(kvs≠[]/\cH rY kvs=aa ks)/\H a=aa (.dT (ks.zip vs))
mutual
def RZ(H:Hp):au->V->Prop
 |.none,v=>v=.non
 |.bool b,v=>v=.bl b
 |.int i,v=>v=.int i
 |.str x,v=>v=.str x
 |.list ds,v=>∃a vs,v=.ref a/\H a=aa (.lst vs)/\cB H ds vs
 |.tuple ds,v=>∃a vs,v=.ref a/\H a=aa (.tup vs)/\cB H ds vs
 |.dict kvs,v=>∃a vs,v=.ref a/\za H a kvs vs/\jl H kvs vs
def cB(H:Hp):List au->List V->Prop
 |[],vs=>vs=[]
 |d::ds,vs=>∃v r,vs=v::r/\RZ H d v/\cB H ds r
def jl(H:Hp):List (au×au)->List V->Prop
 |[],vs=>vs=[]
 |p::r,vs=>∃v t,vs=v::t/\RZp H p v/\jl H r t
def RZp(H:Hp):au×au->V->Prop
 |(_,d),v=>RZ H d v
end
theorem za.same(s:bJ H H')(h:za H a kvs vs):za H' a kvs vs:=by
 rcases h with⟨ks,e,h⟩|⟨ks,e,h⟩
 .exact .inl ⟨ks,e,s _ _ h⟩
 .exact .inr ⟨ks,e,s _ _ h⟩
mutual
theorem RZ.same(s:bJ H H'):∀{d:au}{v:V},RZ H d v->RZ H' d v
 |.none,_,h=>h
 |.bool _,_,h=>h
 |.int _,_,h=>h
 |.str _,_,h=>h
 |.list ds,_,h=>by
  obtain⟨a,vs,e,q,r⟩:=h
  exact⟨a,vs,e,s _ _ q,cB.same s r⟩
 |.tuple ds,_,h=>by
  obtain⟨a,vs,e,q,r⟩:=h
  exact⟨a,vs,e,s _ _ q,cB.same s r⟩
 |.dict kvs,_,h=>by
  obtain⟨a,vs,e,q,r⟩:=h
  exact⟨a,vs,e,q.same s,jl.same s r⟩
theorem cB.same(s:bJ H H'):∀{ds:List au}{vs:List V},cB H ds vs->cB H' ds vs
 |[],_,h=>h
 |d::ds,vs,h=>by
  obtain⟨v,r,e,q,t⟩:=h
  exact⟨v,r,e,RZ.same s q,cB.same s t⟩
theorem jl.same(s:bJ H H'):∀{kvs:List (au×au)}{vs:List V},jl H kvs vs->jl H' kvs vs
 |[],_,h=>h
 |(k,d)::ds,vs,h=>by
  obtain⟨v,r,e,q,t⟩:=h
  exact⟨v,r,e,RZ.same s q,jl.same s t⟩
end
theorem jK:∀{ds:List au}{vs:List V},cB H ds vs->vs.length=ds.length
 |[],_,h=>by cases(show _=[] from h);rfl
 |e::ds,vs,h=>by
  obtain⟨u,r,e1,q,s⟩:=h
  subst e1;rw[cA,cA,jK s]
theorem Ds:∀{ds:List (au×au)}{vs:List V},jl H ds vs->vs.length=ds.length
 |[],_,h=>by cases(show _=[] from h);rfl
 |e::ds,vs,h=>by
  obtain⟨u,r,e1,q,s⟩:=h
  subst e1;rw[cA,cA,Ds s]
theorem yr:∀{ds:List au}{vs:List V}{i:Nat}{d:au},cB H ds vs->ds[i]?=aa d->∃v,vs[i]?=aa v/\RZ H d v
 |[],_,_,_,_,e=>by simp at e
 |x::ds,vs,i,d,h,e=>by
  obtain⟨u,r,e1,q,s⟩:=h
  subst e1;cases i with
  |zero=>cases e;exact⟨u,rfl,q⟩
  |succ i=>
   obtain⟨v,e2,h2⟩:=yr (i:=i) s (by simpa using e)
   exact⟨v,by simpa using e2,h2⟩
theorem Ac:∀{ds es:List au}{vs ws:List V},cB H ds vs->cB H es ws->cB H (ds++es) (vs++ws)
 |[],_,_,_,h,g=>by cases(show _=[] from h);exact g
 |d::ds,_,_,_,h,g=>by
  obtain⟨u,r,e1,q,s⟩:=h
  subst e1
  exact⟨u,_,rfl,q,Ac s g⟩
theorem abF:∀{ds:List au}{vs:List V}(n:Nat),cB H ds vs->cB H (ds.take n) (vs.take n)
 |_,_,0,_=>by rw[Zo,Zo];rfl
 |[],_,n+1,h=>by cases(show _=[] from h);rfl
 |d::ds,_,n+1,h=>by
  obtain⟨u,r,e1,q,s⟩:=h
  subst e1
  exact⟨u,_,rfl,q,abF n s⟩
theorem abG:∀{ds:List au}{vs:List V}(n:Nat),cB H ds vs->cB H (ds.drop n) (vs.drop n)
 |_,_,0,h=>h
 |[],_,n+1,h=>by cases(show _=[] from h);rfl
 |d::ds,_,n+1,h=>by
  obtain⟨u,r,e1,q,s⟩:=h
  subst e1;exact abG n s
theorem acV(hv:RZ H d v):∀{ds:List au}{vs:List V}(i:Nat),cB H ds vs->cB H (ds.set i d) (vs.set i v)
 |[],_,_,h=>by cases(show _=[] from h);rfl
 |x::ds,_,i,h=>by
  obtain⟨u,r,e1,q,s⟩:=h
  subst e1;cases i with
  |zero=>exact⟨v,r,rfl,hv,s⟩
  |succ i=>exact⟨u,_,rfl,q,acV hv i s⟩
def lC:au->Bool
 |.none=>ao
 |.bool _=>ao
 |.int _=>ao
 |.str _=>ao
 |_=>aF
def toV:au->V
 |.none=>.non
 |.bool b=>.bl b
 |.int i=>.int i
 |.str x=>.str x
 |_=>.non
theorem ams(f:lC d=ao)(h:RZ H d v):v=toV d:=by
 cases d<;>first|exact h|cases f
theorem amt(f:lC d=ao):RZ H d (toV d):=by
 cases d<;>first|rfl|cases f
theorem Ub:∀{ds:List au}{vs:List V},ds.all lC=ao->cB H ds vs->vs=ds.map toV
 |[],_,_,h=>h
 |d::ds,vs,f,h=>by
  obtain⟨u,r,e1,q,s⟩:=h
  rw[Q7,jn] at f;rw[e1,ams f.1 q,Ub f.2 s];rfl
theorem abH(ns:List Int):cB H (ns.map ie) (ns.map V.int):=by
 induction ns with
 |nil=>rfl
 |cons n r ih=>exact⟨_,_,rfl,rfl,ih⟩
theorem Uc(ns:List Str):cB H (ns.map dR) (ns.map V.str):=by
 induction ns with
 |nil=>rfl
 |cons n r ih=>exact⟨_,_,rfl,rfl,ih⟩
mutual
def lg:au->Bool
 |.list _=>aF
 |.tuple ds=>fQ ds
 |.dict _=>aF
 |_=>ao
def fQ:List au->Bool
 |[]=>ao
 |d::r=>lg d&&fQ r
end
mutual
theorem RZ.lg(t:∀a vs,H a=aa (.tup vs)->H' a=aa (.tup vs)):∀{d:au}{v:V},lg d=ao->RZ H d v->RZ H' d v
 |.none,_,_,h=>h
 |.bool _,_,_,h=>h
 |.int _,_,_,h=>h
 |.str _,_,_,h=>h
 |.list ds,_,n,h=>nomatch n
 |.tuple ds,_,n,h=>by
  obtain⟨a,vs,e,q,r⟩:=h
  exact⟨a,vs,e,t _ _ q,cB.lg t n r⟩
 |.dict _,_,n,_=>nomatch n
theorem cB.lg(t:∀a vs,H a=aa (.tup vs)->H' a=aa (.tup vs)):∀{ds:List au}{vs:List V},fQ ds=ao->cB H ds vs->cB H' ds vs
 |[],_,_,h=>h
 |d::ds,vs,n,h=>by
  obtain⟨v,r,e,q,w⟩:=h
  have n':L2.lg d=ao/\fQ ds=ao:=by rw[fQ,jn] at n;exact n
  exact⟨v,r,e,RZ.lg t n'.1 q,cB.lg t n'.2 w⟩
end
mutual
def mO:au->Bool
 |.list ds=>vd ds
 |.tuple ds=>vd ds
 |.dict _=>aF
 |_=>ao
def vd:List au->Bool
 |[]=>ao
 |d::r=>mO d&&vd r
end
mutual
theorem RZ.rx:∀{d:au}{v:V},mO d=ao->RZ H d v->RX H d v
 |.none,_,_,h=>h
 |.bool _,_,_,h=>h
 |.int _,_,_,h=>h
 |.str _,_,_,h=>h
 |.list ds,_,n,h=>by
  obtain⟨a,vs,e,q,r⟩:=h
  exact⟨a,vs,e,q,cB.rx n r⟩
 |.tuple ds,_,n,h=>by
  obtain⟨a,vs,e,q,r⟩:=h
  exact⟨a,vs,e,q,cB.rx n r⟩
 |.dict _,_,n,_=>nomatch n
theorem cB.rx:∀{ds:List au}{vs:List V},vd ds=ao->cB H ds vs->nU H ds vs
 |[],_,_,h=>h
 |d::ds,vs,n,h=>by
  obtain⟨v,r,e,q,t⟩:=h
  have n':mO d=ao/\vd ds=ao:=by rw[vd,jn] at n;exact n
  exact⟨v,r,e,RZ.rx n'.1 q,cB.rx n'.2 t⟩
end
inductive Vl where
 |im (d:au)
 |ow (d:au)
 |ce (n:Nat)
 |sc (ns:List Int)
 |tp (p:List au) (d:au) (q:List au)
abbrev En:=List (Option Vl)
abbrev Ce:=List (List Int)
def own1:Option Vl->Option V->List aq
 |some (.ow _),some (.ref a)=>[a]
 |_,_=>[]
def bT:En->St->List aq
 |x::e,v::s=>own1 x v++bT e s
 |_,_=>[]
theorem nC:∀{env:En}{σ:St},a∈bT env σ↔∃(i:Nat)(d:au),env[i]?=aa (aa (Vl.ow d))/\σ[i]?=aa (aa (V.ref a))
 |[],σ=>by
  constructor
  .intro h;simp[bT] at h
  .rintro⟨i,d,e,_⟩;simp at e
 |x::e,[]=>by
  constructor
  .intro h;simp[bT] at h
  .rintro⟨i,d,_,e⟩;simp at e
 |x::e,v::s=>by
  rw[bT,dD,nC (env:=e) (σ:=s)];constructor
  .rintro(h|⟨i,d,h1,h2⟩)
   .unfold own1 at h;split at h
    .rw[jb] at h;subst h
     exact⟨0,_,rfl,rfl⟩
    .simp at h
   .exact⟨i+1,d,by simpa using h1,by simpa using h2⟩
  .rintro⟨i,d,h1,h2⟩
   cases i with
   |zero=>
    simp at h1 h2;subst h1 h2;exact .inl (jb.mpr rfl)
   |succ i=>exact .inr ⟨i,d,by simpa using h1,by simpa using h2⟩
theorem Hh:∀{env:En}{σ:St}{i j:Nat}{d e:au},(bT env σ).Nodup->env[i]?=aa (aa (Vl.ow d))->σ[i]?=aa (aa (V.ref a))->env[j]?=aa (aa (Vl.ow e))->σ[j]?=aa (aa (V.ref a))->i=j
 |[],_,i,_,_,_,_,h,_,_,_=>by simp at h
 |_::_,[],i,_,_,_,_,_,h,_,_=>by simp at h
 |x::en,v::s,i,j,d,e,nd,h1,h2,h3,h4=>by
  rw[bT,kE] at nd;cases i with
  |zero=>
   cases j with
   |zero=>rfl
   |succ j=>
    simp at h1 h2;subst h1 h2;have:a∈bT en s:=nC.mpr ⟨j,e,by simpa using h3,by simpa using h4⟩;exact absurd rfl (nd.2.2 a (jb.mpr rfl) a this)
  |succ i=>
   cases j with
   |zero=>
    simp at h3 h4;subst h3 h4;have:a∈bT en s:=nC.mpr ⟨i,d,by simpa using h1,by simpa using h2⟩;exact absurd rfl (nd.2.2 a (jb.mpr rfl) a this)
   |succ j=>rw[Hh (i:=i) (j:=j) nd.2.1 (by simpa using h1) (by simpa using h2) (by simpa using h3) (by simpa using h4)]
def Xm(x y:Option Vl):Prop:=y=x\/∃d,x=aa (.ow d)/\y=aa (.im d)
def Fz:En->En->Prop
 |[],[]=>True
 |x::r,y::t=>Xm x y/\Fz r t
 |_,_=>False
theorem Fz.refl:∀e:En,Fz e e
 |[]=>trivial
 |x::r=>⟨.inl rfl,Fz.refl r⟩
theorem Fz.trans:∀{a b c:En},Fz a b->Fz b c->Fz a c
 |[],[],[],_,_=>trivial
 |x::r,y::t,z::w,h,g=>by
  refine⟨?_,Fz.trans h.2 g.2⟩
  rcases h.1 with e|⟨d,e1,e2⟩
  .rw[<-e];exact g.1
  .rcases g.1 with e|⟨d',e3,e4⟩
   .exact .inr ⟨d,e1,e.trans e2⟩
   .rw[e2] at e3;cases e3
 |[],[],_::_,_,g=>nomatch g
 |[],_::_,_,h,_=>nomatch h
 |_::_,[],_,h,_=>nomatch h
 |_::_,_::_,[],_,g=>nomatch g
theorem Fz.len:∀{a b:En},Fz a b->b.length=a.length
 |[],[],_=>rfl
 |_::_,_::_,h=>by rw[cA,cA,Fz.len h.2]
 |[],_::_,h=>nomatch h
 |_::_,[],h=>nomatch h
theorem Fz.at:∀{a b:En}{i:Nat}{y:Vl},Fz a b->b[i]?=aa (aa y)->a[i]?=aa (aa y)\/∃d,a[i]?=aa (aa (.ow d))/\y=.im d
 |[],[],i,y,_,e=>by simp at e
 |x::r,z::t,0,y,h,e=>by
  simp at e;rcases h.1 with q|⟨d,q1,q2⟩
  .left;rw[<-q,e];rfl
  .right;rw[e] at q2;cases q2;exact⟨d,by rw[q1];rfl,rfl⟩
 |x::r,z::t,i+1,y,h,e=>by
  simpa using Fz.at (i:=i) h.2 (by simpa using e)
 |[],_::_,_,_,h,_=>nomatch h
 |_::_,[],_,_,h,_=>nomatch h
theorem amu(h:Xm x y)(v:Option V):Z5 (own1 y v) (own1 x v):=by
 rcases h with e|⟨d,e1,e2⟩
 .rw[e];exact Cm _
 .rw[e2];exact List.nil_sublist _
theorem Fz.own:∀{a b:En}{σ:St},Fz a b->Z5 (bT b σ) (bT a σ)
 |[],[],σ,_=>by cases σ<;>exact Cm _
 |x::r,y::t,[],h=>Cm _
 |x::r,y::t,v::s,h=>by
  rw[bT,bT];exact JD (amu h.1 v) (Fz.own h.2)
 |[],_::_,_,h=>nomatch h
 |_::_,[],_,h=>nomatch h
abbrev aY(Z Θ:List aq)(env:En)(σ:St):List aq:=Z++(Θ++bT env σ)
def kW(E H:Hp)(a:aq):au->Prop
 |.list ds=>∃vs,H a=aa (.lst vs)/\cB E ds vs
 |.dict kvs=>∃vs,za H a kvs vs/\jl E kvs vs
 |_=>False
theorem kW.same(s:bJ E E')(h:∀o,H a=aa o->H' a=aa o)(r:kW E H a d):kW E' H' a d:=by
 cases d<;>first|exact r.elim|skip
 .obtain⟨vs,e,q⟩:=r
  exact⟨vs,h _ e,q.same s⟩
 .obtain⟨vs,e,q⟩:=r
  refine⟨vs,?_,q.same s⟩
  rcases e with⟨ks,k,e⟩|⟨ks,k,e⟩
  .exact .inl ⟨ks,k,h _ e⟩
  .exact .inr ⟨ks,k,h _ e⟩
theorem kW.rz(h:∀o,H a=aa o->E a=aa o)(r:kW E H a d):RZ E d (.ref a):=by
 cases d<;>first|exact r.elim|skip
 .obtain⟨vs,e,q⟩:=r
  exact⟨a,vs,rfl,h _ e,q⟩
 .obtain⟨vs,e,q⟩:=r
  refine⟨a,vs,rfl,?_,q⟩
  rcases e with⟨ks,k,e⟩|⟨ks,k,e⟩
  .exact .inl ⟨ks,k,h _ e⟩
  .exact .inr ⟨ks,k,h _ e⟩
structure aX(Θ:List aq)(H H':Hp):Prop where
 keep:∀a o,H a=aa o->a∉Θ->H' a=aa o
 dom:∀a,H a≠aj->H' a≠aj
theorem aX.refl(Θ:List aq)(H:Hp):aX Θ H H:=⟨λ_ _ e _=>e,λ_ e=>e⟩
theorem aX.trans(a:aX Θ H H1)(b:aX Θ H1 H2):aX Θ H H2:=⟨λc o e n=>b.keep _ _ (a.keep _ _ e n) n,λc e=>b.dom _ (a.dom _ e)⟩
theorem aX.none(k:aX Θ H H')(h:H' a=aj):H a=aj:=by
 cases e:H a with
 |none=>rfl
 |some o=>exact absurd h (k.dom a (by rw[e];exact xH _))
theorem aX.of(s:bJ H H'):aX Θ H H':=⟨λa o e _=>s _ _ e,λa h=>by
 cases e:H a with
 |none=>exact absurd e h
 |some o=>rw[s _ _ e];exact xH _⟩
theorem aX.upd(h:H p=o7):aX Θ H (L2.upd H p o):=aX.of (bJ.upd h)
theorem mF(k:aX Θ H H')(ht:∀a∈Θ,a∈Z)(hz:∀a,a∈Z'->a∈Z\/H a=aj):bJ (er Z H) (er Z' H'):=λb o h=>by
 unfold er at h⊢;split at h
 .cases h
 .rename_i n;rw[bf,k.keep _ _ h (λm=>n (ht b m))];intro m;rcases hz b m with q|q
  .exact n q
  .rw[q] at h;cases h
def Eo(K:aJ)(E H:Hp)(Θ:List aq):Vl->V->Prop
 |.im d,v=>RZ E d v
 |.ow d,v=>∃a,v=.ref a/\kW E H a d
 |.ce n,v=>∃a,v=.ref a/\Θ[n]?=aa a
 |.sc ns,v=>∃a,v=.ref a/\bO K E a (ns.map V.int)
 |.tp _ _ _,_=>False
def NT(o:Option HO):Prop:=∃u,o=aa u/\∀vs,u≠.tup vs
theorem NT.ne(h:NT o):o≠aj:=by
 obtain⟨u,rfl,_⟩:=h
 exact xH _
theorem kW.nt(r:kW E H a d):NT (H a):=by
 cases d<;>first|exact r.elim|skip
 .obtain⟨vs,e,q⟩:=r
  exact⟨_,e,λ_ z=>nomatch z⟩
 .obtain⟨vs,e,q⟩:=r
  rcases e with⟨ks,k,e⟩|⟨ks,k,e⟩
  .exact⟨_,e,λ_ z=>nomatch z⟩
  .exact⟨_,e,λ_ z=>nomatch z⟩
theorem kW.there(r:kW E H a d):H a≠aj:=r.nt.ne
structure p7(Θ:List aq)(C:Ce)(H:Hp):Prop where
 len:C.length=Θ.length
 at_:∀(n:Nat)(a:aq)(ns:List Int),Θ[n]?=aa a->C[n]?=aa ns->H a=aa (.lst (ns.map V.int))
structure Sm(K:aJ)(Z Θ:List aq)(env:En)(C:Ce)(σ:St)(H:Hp):Prop where
 len:σ.length=env.length
 nd:(aY Z Θ env σ).Nodup
 dom:∀a∈Z,NT (H a)
 slot:∀(i:Nat)(x:Vl),env[i]?=aa (aa x)->∃v,σ[i]?=aa (aa v)/\Eo K (er (aY Z Θ env σ) H) H Θ x v
 cell:p7 Θ C H
theorem p7.dom(c:p7 Θ C H):∀a∈Θ,NT (H a):=λa m=>by
 obtain⟨n,hn,e⟩:=zy m
 have e1:Θ[n]?=aa a:=by rw[jX hn,e]
 have h2:n<C.length:=by rw[c.len];exact hn
 exact⟨_,c.at_ n a C[n] e1 (jX h2),λ_ z=>nomatch z⟩
section
variable{K:aJ}{Z Θ:List aq}{env env':En}{C C':Ce}{σ:St}{H H':Hp}
theorem Sm.Pb(S:Sm K Z Θ env C σ H):∀a∈aY Z Θ env σ,NT (H a):=λa m=>by
 rcases dD.mp m with m|m
 .exact S.dom a m
 .rcases dD.mp m with m|m
  .exact S.cell.dom a m
  .obtain⟨i,d,e1,e2⟩:=nC.mp m
   obtain⟨v,e3,b,e4,r⟩:=S.slot i _ e1
   rw[e2] at e3;cases e3;cases e4;exact r.nt
theorem Sm.Bj(S:Sm K Z Θ env C σ H):∀a∈aY Z Θ env σ,H a≠aj:=λa m=>(S.Pb a m).ne
theorem Sm.sW(S:Sm K Z Θ env C σ H):∀a∈Θ,a∈aY Z Θ env σ:=λa m=>fK _ (gO _ m)
theorem Eo.same(s:bJ E E')(h:∀d a,x=.ow d->v=.ref a->∀o,H a=aa o->H' a=aa o)(r:Eo K E H Θ x v):Eo K E' H' Θ x v:=by
 cases x with
 |im d=>exact RZ.same s r
 |ow d=>obtain⟨a,e,q⟩:=r;exact⟨a,e,q.same s (h d a rfl e)⟩
 |ce n=>exact r
 |sc ns=>obtain⟨a,e,q⟩:=r;exact⟨a,e,s.seq q⟩
 |tp=>exact r
theorem Sm.nH(S:Sm K Z Θ env C σ H)(m:a∈bT env σ):a∉Z/\a∉Θ:=by
 have h:=S.nd;rw[kE] at h
 obtain⟨_,h2,h3⟩:=h
 rw[kE] at h2
 refine⟨λz=>h3 a z a (fK _ m) rfl,λz=>h2.2.2 a z a m rfl⟩
theorem Sm.go(S:Sm K Z Θ env C σ H)(k:aX Θ H H')(c:p7 Θ C' H'):Sm K Z Θ env C' σ H' where
 len:=S.len
 nd:=S.nd
 dom:=λa m=>by
  obtain⟨u,e,n⟩:=S.dom a m
  have h:=S.nd;rw[kE] at h
  exact⟨u,k.keep _ _ e λz=>h.2.2 a m a (gO _ z) rfl,n⟩
 slot:=λi x e=>by
  obtain⟨v,e1,r⟩:=S.slot i x e
  refine⟨v,e1,r.same (mF k S.sW λa m=>.inl m) λd a ex ev o ho=>k.keep _ _ ho ?_⟩
  subst ex ev
  exact(S.nH (nC.mpr ⟨i,d,e,e1⟩)).2
 cell:=c
theorem Sm.fz(S:Sm K Z Θ env C σ H)(f:Fz env env'):Sm K Z Θ env' C σ H:=by
 have sub:Z5 (aY Z Θ env' σ) (aY Z Θ env σ):=JD (Cm _) (JD (Cm _) f.own);have sm:bJ (er (aY Z Θ env σ) H) (er (aY Z Θ env' σ) H):=mF (aX.refl [] H) (λ_ m=>nomatch m) λa m=>.inl (sub.subset m)
 refine⟨by rw[f.len];exact S.len,sub.nodup S.nd,S.dom,λi x e0=>?_,S.cell⟩
 rcases f.at e0 with e|⟨d,e,ex⟩
 .obtain⟨v,e1,r⟩:=S.slot i x e
  exact⟨v,e1,r.same sm λ_ _ _ _ _ ho=>ho⟩
 .subst ex
  obtain⟨v,e1,a,ev,r⟩:=S.slot i _ e
  subst ev
  refine⟨_,e1,kW.rz (H:=H) (λo ho=>?_) (r.same sm λ_ ho=>ho)⟩
  unfold er;rw[bf]
  .exact ho
  .intro m;have hm:a∈bT env σ:=nC.mpr ⟨i,d,e,e1⟩;rcases dD.mp m with m|m
   .exact(S.nH hm).1 m
   .rcases dD.mp m with m|m
    .exact(S.nH hm).2 m
    .obtain⟨j,d',e3,e4⟩:=nC.mp m
     have nd:=S.nd;rw[kE] at nd;have nd2:=nd.2.1;rw[kE] at nd2;rcases f.at e3 with e5|⟨_,_,e5⟩
     .have:=Hh nd2.2.1 e e1 e5 e4;subst this;rw[e0] at e3;cases e3
     .cases e5
end
section
variable{K:aJ}{Z Θ:List aq}{env env':En}{C C':Ce}{σ:St}{H H':Hp}{a p:aq}
theorem Sm.pop(S:Sm K (a::Z) Θ env C σ H):Sm K Z Θ env C σ H:=by
 have sm:bJ (er (aY (a::Z) Θ env σ) H) (er (aY Z Θ env σ) H):=mF (aX.refl [] H) (λ_ m=>nomatch m) λb m=>.inl (dZ _ m)
 exact⟨S.len,(je.mp S.nd).2,λb m=>S.dom b (dZ _ m),λi x e=>let ⟨v,e1,r⟩:=S.slot i x e;⟨v,e1,r.same sm λ_ _ _ _ _ h=>h⟩,S.cell⟩
theorem Sm.push(S:Sm K Z Θ env C σ H)(hp:H p=aj)(o:HO)(ho:∀vs,o≠.tup vs):Sm K (p::Z) Θ env C σ (upd H p o):=by
 have k:aX Θ H (upd H p o):=aX.upd hp;have sm:bJ (er (aY Z Θ env σ) H) (er (aY (p::Z) Θ env σ) (upd H p o)):=mF k S.sW λb m=>by
  rcases bY.mp m with rfl|m
  .exact .inr hp
  .exact .inl m
 have c:p7 Θ C (upd H p o):=⟨S.cell.len,λn b ns e1 e2=>by
  have:=S.cell.at_ n b ns e1 e2;rw[cV (qL this hp)];exact this⟩
 refine⟨S.len,je.mpr ⟨λm=>S.Bj p m hp,S.nd⟩,λb m=>?_,λi x e=>?_,c⟩
 .rcases bY.mp m with rfl|m
  .exact⟨o,eN,ho⟩
  .obtain⟨u,e,n⟩:=S.dom b m
   exact⟨u,by rw[cV (qL e hp)];exact e,n⟩
 .obtain⟨v,e1,r⟩:=S.slot i x e
  refine⟨v,e1,r.same sm λd b ex ev o' ho=>?_⟩
  rw[cV (qL ho hp)];exact ho
theorem Sm.Av(S:Sm K Z Θ env C σ H)(s:bJ H H'):Sm K Z Θ env C σ H':=
 S.go (aX.of s) ⟨S.cell.len,λn b ns e1 e2=>s _ _ (S.cell.at_ n b ns e1 e2)⟩
def Res(K:aJ)(Z Θ:List aq)(env:En)(C:Ce)(σ:St)(H H':Hp):Vl->V->Prop
 |.im d,v=>Sm K Z Θ env C σ H'/\RZ (er (aY Z Θ env σ) H') d v
 |.ow d,v=>∃a,v=.ref a/\H a=aj/\Sm K (a::Z) Θ env C σ H'/\kW (er (aY (a::Z) Θ env σ) H') H' a d
 |.ce n,v=>Sm K Z Θ env C σ H'/\∃a,v=.ref a/\Θ[n]?=aa a
 |.sc ns,v=>Sm K Z Θ env C σ H'/\∃a,v=.ref a/\bO K (er (aY Z Θ env σ) H') a (ns.map V.int)
 |.tp _ _ _,_=>False
def BP(E T:Hp):au->V->Prop
 |.list ds,v=>∃a vs,v=.ref a/\T a=aa (.lst vs)/\cB E ds vs
 |.dict kvs,v=>∃a vs,v=.ref a/\za T a kvs vs/\jl E kvs vs
 |d,v=>RZ E d v
theorem BP.same(s:bJ E E')(t:bJ T T')(h:BP E T d v):BP E' T' d v:=by
 cases d<;>first|exact RZ.same s h|skip
 .obtain⟨a,vs,e,q,r⟩:=h
  exact⟨a,vs,e,t _ _ q,r.same s⟩
 .obtain⟨a,vs,e,q,r⟩:=h
  exact⟨a,vs,e,q.same t,r.same s⟩
theorem RZ.bor(t:bJ E T)(h:RZ E d v):BP E T d v:=by
 cases d<;>first|exact h|skip
 .obtain⟨a,vs,e,q,r⟩:=h
  exact⟨a,vs,e,t _ _ q,r⟩
 .obtain⟨a,vs,e,q,r⟩:=h
  exact⟨a,vs,e,q.same t,r⟩
abbrev gh(Z Θ:List aq)(env:En)(σ:St)(H:Hp)(d:au)(v:V):Prop:=BP (er (aY Z Θ env σ) H) (er Θ H) d v
theorem tX(h:∀a,a∈Z'->a∈Z):bJ (er Z H) (er Z' H):=mF (aX.refl [] H) (λ_ m=>nomatch m) λb m=>.inl (h b m)
theorem aez:bJ (er (aY Z Θ env σ) H) (er Θ H):=tX λa m=>fK _ (gO _ m)
theorem Fz.sub(f:Fz env env'):∀a,a∈aY Z Θ env' σ->a∈aY Z Θ env σ:=λa m=>
 (JD (Cm _) (JD (Cm _) f.own)).subset m
theorem Wl(S:Sm K Z Θ env C σ H)(k:aX Θ H H')(f:Fz env env'):bJ (er (aY Z Θ env σ) H) (er (aY Z Θ env' σ) H'):=mF k S.sW λa m=>.inl (f.sub a m)
theorem adT(k:aX Θ H H'):bJ (er Θ H) (er Θ H'):=mF k (λ_ m=>m) λa m=>.inl m
theorem gh.go(h:gh Z Θ env σ H d v)(S:Sm K Z Θ env C σ H)(k:aX Θ H H')(f:Fz env env'):gh Z Θ env' σ H' d v:=BP.same (Wl S k f) (adT k) h
def dat:Vl->Option au
 |.im d=>aa d
 |.ow d=>aa d
 |.ce _=>aj
 |.sc _=>aj
 |.tp _ _ _=>aj
theorem Res.sm(h:Res K Z Θ env C σ H H' r v):Sm K Z Θ env C σ H':=by
 cases r with
 |im d=>exact h.1
 |ow d=>obtain⟨a,_,_,S,_⟩:=h;exact S.pop
 |ce n=>exact h.1
 |sc ns=>exact h.1
 |tp=>exact h.elim
theorem Res.bor(h:Res K Z Θ env C σ H H' r v)(e:dat r=aa d):gh Z Θ env σ H' d v:=by
 cases r with
 |im d'=>cases e;exact RZ.bor aez h.2
 |ow d'=>
  cases e
  obtain⟨a,rfl,_,S,r⟩:=h
  have na:a∉Θ:=λm=>(je.mp S.nd).1 (fK _ (gO _ m))
  have sm:bJ (er (aY (a::Z) Θ env σ) H') (er (aY Z Θ env σ) H'):=tX λb m=>dZ _ m
  have ha:∀o,H' a=aa o->er Θ H' a=aa o:=λo ho=>by unfold er;rw[bf na];exact ho
  cases d<;>first|exact r.elim|skip
  .obtain⟨vs,e,q⟩:=r
   exact⟨a,vs,rfl,ha _ e,q.same sm⟩
  .obtain⟨vs,e,q⟩:=r
   refine⟨a,vs,rfl,?_,q.same sm⟩
   rcases e with⟨ks,k,e⟩|⟨ks,k,e⟩
   .exact .inl ⟨ks,k,ha _ e⟩
   .exact .inr ⟨ks,k,ha _ e⟩
 |ce n=>cases e
 |sc ns=>cases e
 |tp=>cases e
def still:Vl->Vl
 |.ow d=>.im d
 |r=>r
theorem Res.still(h:Res K Z Θ env C σ H H' r v):Res K Z Θ env C σ H H' (still r) v:=by
 cases r with
 |ow d=>
  obtain⟨a,rfl,hn,S,r⟩:=h
  refine⟨S.pop,kW.rz (H:=H') (λo ho=>?_) (r.same (tX λb m=>dZ _ m) λ_ h=>h)⟩
  unfold er;rw[bf (show ¬a∈aY Z Θ env σ from(je.mp S.nd).1)];exact ho
 |im d=>exact h
 |ce n=>exact h
 |sc ns=>exact h
 |tp=>exact h
theorem Res.from(h:Res K Z Θ env C σ H H' r v)(k:aX Θ H0 H):Res K Z Θ env C σ H0 H' r v:=by
 cases r with
 |ow d=>
  obtain⟨a,e,hn,S,r⟩:=h
  exact⟨a,e,k.none hn,S,r⟩
 |im d=>exact h
 |ce n=>exact h
 |sc ns=>exact h
 |tp=>exact h
theorem DN(S:Sm K Z Θ env C σ H)(h:H a=aa (.tup vs)):er (aY Z Θ env σ) H a=aa (.tup vs):=by
 unfold er;rw[bf]
 .exact h
 .intro m
  obtain⟨u,e,n⟩:=S.Pb a m
  rw[h] at e;exact n vs (gP e).symm
def rst(r:Vl)(env env':En):En:=match r with
 |.im d=>if lg d then env else env'
 |_=>env'
theorem Res.rst(S:Sm K Z Θ env C σ H)(k:aX Θ H H')(h:Res K Z Θ env' C' σ H H' r v):Res K Z Θ (rst r env env') C' σ H H' r v:=by
 cases r with
 |im d=>
  by_cases f:L2.lg d=ao
  .have:L2.rst (.im d) env env'=env:=aV f;rw[this];have S':=S.go k h.1.cell
   exact⟨S',h.2.lg (λa vs e=>DN S' (jJ e)) f⟩
  .have:L2.rst (.im d) env env'=env':=bf f;rw[this];exact h
 |ow d=>exact h
 |ce n=>exact h
 |sc ns=>exact h
 |tp=>exact h
theorem Fz.rst(r:Vl)(f:Fz env env'):Fz env (rst r env env'):=by
 cases r with
 |im d=>
  show Fz env (if L2.lg d then env else env');split
  .exact Fz.refl _
  .exact f
 |ow d=>exact f
 |ce n=>exact f
 |sc ns=>exact f
 |tp=>exact f
theorem jo(S:Sm K Z Θ env C σ H)(f:lC d=ao)(hv:v=toV d):Res K Z Θ env C σ H H (.im d) v:=⟨S,by rw[hv];exact amt f⟩
theorem oH(S:Sm K Z Θ env C σ H)(r:cB (er (aY Z Θ env σ) H) ds vs)(hp:H p=aj):Res K Z Θ env C σ H (upd H p (.lst vs)) (.ow (.list ds)) (.ref p):=by
 refine⟨p,rfl,hp,S.push hp _ (λ_ z=>nomatch z),vs,eN,r.same (mF (aX.upd (Θ:=Θ) hp) S.sW λb m=>?_)⟩
 rcases bY.mp m with rfl|m
 .exact .inr hp
 .exact .inl m
theorem amv(S:Sm K Z Θ env C σ H)(ho:∀vs,o≠.tup vs)(d:za (upd H p o) p kvs vs)(r:jl (er (aY Z Θ env σ) H) kvs vs)(hp:H p=aj):Res K Z Θ env C σ H (upd H p o) (.ow (.dict kvs)) (.ref p):=by
 refine⟨p,rfl,hp,S.push hp _ ho,vs,d,r.same (mF (aX.upd (Θ:=Θ) hp) S.sW λb m=>?_)⟩
 rcases bY.mp m with rfl|m
 .exact .inr hp
 .exact .inl m
theorem Hi(S:Sm K Z Θ env C σ H)(r:cB (er (aY Z Θ env σ) H) ds vs)(hp:H p=aj):Res K Z Θ env C σ H (upd H p (.tup vs)) (.im (.tuple ds)) (.ref p):=by
 have S':=S.Av (bJ.upd (o:=.tup vs) hp)
 refine⟨S',p,vs,rfl,?_,r.same (mF (aX.upd (Θ:=Θ) hp) S.sW λb m=>.inl m)⟩
 unfold er;rw[bf (λm=>S.Bj p m hp),eN]
end
theorem hide{P:Prop}(h:∀G:Prop,(P->G)->G):P:=h P id
inductive ae8{α β:Type}(o:Option α)(g:α->Option β)(y:β):Prop
 |mk (x:α) (h1:o=aa x) (h2:g x=aa y):ae8 o g y
theorem jf(h:o.bind g=aa y):ae8 o g y:=by
 cases o with
 |none=>cases h
 |some x=>exact⟨x,rfl,h⟩
def ux:Vl->Option au
 |.im y=>aa y
 |_=>aj
theorem Hz(h:ux x=aa y):x=.im y:=by
 cases x<;>cases h;rfl
def Og:au->Option Str
 |.str z=>aa z
 |_=>aj
theorem amw(h:Og d=aa z):d=.str z:=by
 cases d<;>cases h;rfl
def intD:au->Option Int
 |.int k=>aa k
 |_=>aj
theorem Mx(h:intD d=aa k):d=.int k:=by
 cases d<;>cases h;rfl
abbrev FE:=En->Ce->Option (Vl×En×Ce)
abbrev FB:=En->Ce->Option (au×En×Ce)
abbrev FT:=En->Ce->Option (Bool×Ce)
abbrev zb:=En->Ce->Option (List au×En×Ce)
abbrev FA:=En->Ce->Option (List Vl×En×Ce)
inductive tE(K:aJ)(f:FE)(σ:St)(H:Hp)(Q:VK):Prop
 |mk (Z Θ:List aq) (env:En) (C:Ce) (r:Vl) (env':En) (C':Ce) (S:Sm K Z Θ env C σ H) (hf:f env C=aa (r,env',C')) (q:∀v H',aX Θ H H'->Fz env env'->Res K Z Θ env' C' σ H H' r v->Q v H'):tE K f σ H Q
inductive dY(K:aJ)(f:FB)(σ:St)(H:Hp)(Q:VK):Prop
 |mk (Z Θ:List aq) (env:En) (C:Ce) (d:au) (env':En) (C':Ce) (S:Sm K Z Θ env C σ H) (hf:f env C=aa (d,env',C')) (q:∀v H',aX Θ H H'->Fz env env'->Sm K Z Θ env' C' σ H'->gh Z Θ env' σ H' d v->Q v H'):dY K f σ H Q
inductive fX(K:aJ)(f:FT)(σ:St)(H:Hp)(Q:Bool->Hp->Prop):Prop
 |mk (Z Θ:List aq) (env:En) (C:Ce) (b:Bool) (C':Ce) (S:Sm K Z Θ env C σ H) (hf:f env C=aa (b,C')) (q:∀H',aX Θ H H'->Sm K Z Θ env C' σ H'->Q b H'):fX K f σ H Q
inductive Bm(E T:Hp):List au->List V->Prop
 |nil:Bm E T [] []
 |cons {d:au} {v:V} {ds:List au} {vs:List V}:BP E T d v->Bm E T ds vs->Bm E T (d::ds) (v::vs)
abbrev N5(Z Θ:List aq)(env:En)(σ:St)(H:Hp)(ds:List au)(vs:List V):Prop:=Bm (er (aY Z Θ env σ) H) (er Θ H) ds vs
inductive zc(K:aJ)(f:zb)(σ:St)(H:Hp)(Q:List V->Hp->Prop):Prop
 |mk (Z Θ:List aq) (env:En) (C:Ce) (ds:List au) (env':En) (C':Ce) (S:Sm K Z Θ env C σ H) (hf:f env C=aa (ds,env',C')) (q:∀vs H',aX Θ H H'->Fz env env'->Sm K Z Θ env' C' σ H'->N5 Z Θ env' σ H' ds vs->Q vs H'):zc K f σ H Q
theorem PE.weak(h:PE X e t)(w:∀σ H Q,t' σ H Q->t σ H Q):PE X e t':=λpins s σ H Q I q=>h pins s σ H Q I (w σ H Q q)
theorem PT.weak(h:PT X e t)(w:∀σ H Q,t' σ H Q->t σ H Q):PT X e t':=λpins s σ H Q I q=>h pins s σ H Q I (w σ H Q q)
theorem PA.weak(h:PA X e t)(w:∀σ H Q,t' σ H Q->t σ H Q):PA X e t':=λp pins s σ H Q I q=>h p pins s σ H Q I (w σ H Q q)
theorem PS.weak(h:PS X e t)(w:∀D σ H,t' D σ H->t D σ H):PS X e t':=λpins s σ H D I q=>h pins s σ H D I (w D σ H q)
theorem jO.weak(h:jO X e t)(w:∀D σ H,t' D σ H->t D σ H):jO X e t':=λpins s σ H D I q=>h pins s σ H D I (w D σ H q)
theorem PW.weak(h:PW X e t)(w:∀σ H Q,t' σ H Q->t σ H Q):PW X e t':=λwh pins s σ H Q I q=>h wh pins s σ H Q I (w σ H Q q)
def aM(i:Nat):FE:=λenv C=>match env[i]? with
 |some (some (.im d))=>aa (.im d,env,C)
 |some (some (.ow d))=>aa (.im d,env.set i (aa (.im d)),C)
 |some (some (.ce n))=>aa (.ce n,env,C)
 |some (some (.sc ns))=>aa (.sc ns,env,C)
 |_=>aj
def aH(i:Nat):FB:=λenv C=>match env[i]? with
 |some (some x)=>(dat x).map λd=>(d,env,C)
 |_=>aj
def aO(d:au):FE:=λenv C=>aa (.im d,env,C)
def aA(f:FE):FB:=λenv C=>match f env C with
 |some (r,e',C')=>(dat r).map λd=>(d,e',C')
 |none=>aj
theorem adU:∀{env:En}{i:Nat}{d:au},env[i]?=aa (aa (.ow d))->Fz env (env.set i (aa (.im d)))
 |[],i,d,e=>by simp at e
 |x::r,0,d,e=>by simp at e;subst e;exact⟨.inr ⟨d,rfl,rfl⟩,Fz.refl r⟩
 |x::r,i+1,d,e=>⟨.inl rfl,adU (by simpa using e)⟩
section
variable{X:Cx}{e:Expr}{i:Nat}
theorem aP(h:PE X e (sH i)):PE X e (tE X.K (aM i)):=h.weak λσ H Q aN=>by
 obtain⟨Z,Θ,env,C,r,env',C',S,hf,q⟩:=aN
 unfold aM at hf;split at hf;all_goals first|(rename_i d hd;cases hf)|cases hf
 .obtain⟨v,e1,r⟩:=S.slot i _ hd
  exact⟨v,e1,q v H (aX.refl _ _) (Fz.refl _) ⟨S,r⟩⟩
 .have f:=adU hd
  obtain⟨v,e1,r⟩:=S.slot i _ hd
  have S':=S.fz f
  refine⟨v,e1,q v H (aX.refl _ _) f ⟨S',?_⟩⟩
  have hi:i<env.length:=by
   have:=jW.mp hd;exact this.1
  obtain⟨v',e2,r'⟩:=S'.slot i (.im d) (by rw[Fv,aV rfl,aV hi])
  rw[e1] at e2;cases e2;exact r'
 .obtain⟨v,e1,r⟩:=S.slot i _ hd
  exact⟨v,e1,q v H (aX.refl _ _) (Fz.refl _) ⟨S,r⟩⟩
 .obtain⟨v,e1,r⟩:=S.slot i _ hd
  exact⟨v,e1,q v H (aX.refl _ _) (Fz.refl _) ⟨S,r⟩⟩
theorem aK(h:PE X e (sH i)):PE X e (dY X.K (aH i)):=h.weak λσ H Q aN=>by
 obtain⟨Z,Θ,env,C,d,env',C',S,hf,q⟩:=aN
 unfold aH at hf;split at hf
 .rename_i x hx
  obtain⟨v,e1,r⟩:=S.slot i _ hx
  have ex:dat x=aa d/\env=env'/\C=C':=by
   cases hd:dat x with
   |none=>rw[hd] at hf;cases hf
   |some d'=>rw[hd] at hf;cases hf;exact⟨rfl,rfl,rfl⟩
  obtain⟨ex,rfl,rfl⟩:=ex
  refine⟨v,e1,q v H (aX.refl _ _) (Fz.refl _) S ?_⟩
  cases x with
  |im d'=>cases ex;exact RZ.bor aez r
  |ow d'=>
   cases ex
   obtain⟨a,rfl,r⟩:=r
   have na:=(S.nH (nC.mpr ⟨i,_,hx,e1⟩)).2;have ha:∀o,H a=aa o->er Θ H a=aa o:=λo ho=>by unfold er;rw[bf na];exact ho
   cases d<;>first|exact r.elim|skip
   .obtain⟨vs,e,q⟩:=r
    exact⟨a,vs,rfl,ha _ e,q⟩
   .obtain⟨vs,e,q⟩:=r
    refine⟨a,vs,rfl,?_,q⟩
    rcases e with⟨ks,k,e⟩|⟨ks,k,e⟩
    .exact .inl ⟨ks,k,ha _ e⟩
    .exact .inr ⟨ks,k,ha _ e⟩
  |ce n=>cases ex
  |sc ns=>cases ex
  |tp=>cases ex
 .cases hf
theorem aU(h:PE X e (tC v))(f:lC d=ao:=by rfl)(hv:v=toV d:=by rfl):PE X e (tE X.K (aO d)):=h.weak λσ H Q aN=>by
 obtain⟨Z,Θ,env,C,r,env',C',S,hf,q⟩:=aN
 cases hf;exact q v H (aX.refl _ _) (Fz.refl _) (jo S f hv)
theorem aG(h:PE X e (tE X.K f)):PE X e (dY X.K (aA f)):=h.weak λσ H Q aN=>by
 obtain⟨Z,Θ,env,C,d,env',C',S,hf,q⟩:=aN
 unfold aA at hf;split at hf
 .rename_i r e' C1 hr;cases hd:dat r with
  |none=>rw[hd] at hf;cases hf
  |some d'=>
   rw[hd] at hf;cases hf
   exact⟨Z,Θ,env,C,r,env',C',S,hr,λv H' k f R=>q v H' k f R.sm (R.bor hd)⟩
 .cases hf
end
def gF:Nat:=1000000
theorem uT(h:n<=gF):n<=bW:=by rw[iM];unfold gF at h;lia
def fY(K:aJ)(r:R2)(op:au->au->Option Vl):Prop:=
 ∀(Z Θ:List aq)(env:En)(C:Ce)(σ:St)(H:Hp)(x y:V)(dx dy:au)(res:Vl),Sm K Z Θ env C σ H->gh Z Θ env σ H dx x->gh Z Θ env σ H dy y->op dx dy=aa res->
  ∀Q:VK,(∀v H',aX Θ H H'->Res K Z Θ env C σ H H' res v->Q v H')->r x y H Q
def aR(op:au->au->Option Vl)(fa fb:FB):FE:=λenv C=>match fa env C with
 |some (x,e1,C1)=>match fb e1 C1 with
  |some (y,e2,C2)=>match op x y with
   |some r=>aa (r,rst r env e2,C2)
   |none=>aj
  |none=>aj
 |none=>aj
theorem LC{K:aJ}{r:R2}{op:au->au->Option Vl}(L:fY K r op){fa fb:FB}:∀σ H Q,tE K (aR op fa fb) σ H Q->Jb r (dY K fa) (dY K fb) σ H Q:=by
 rintro σ H Q ⟨Z,Θ,env,C,res,env',C',S,hf,q⟩;unfold aR at hf;split at hf
 .rename_i x e1 C1 h1;split at hf
  .rename_i y e2 C2 h2;split at hf
   .rename_i r0 h3;cases hf
    refine⟨Z,Θ,env,C,x,e1,C1,S,h1,λv H1 k1 f1 S1 b1=>⟨Z,Θ,e1,C1,y,e2,C',S1,h2,λu H2 k2 f2 S2 b2=>?_⟩⟩
    refine L Z Θ e2 C' σ H2 v u x y res S2 (b1.go S1 k2 f2) b2 h3 Q λz H3 k3 R=>?_
    have k:=(k1.trans k2).trans k3;exact q z H3 k ((f1.trans f2).rst res) ((R.from (k1.trans k2)).rst S k)
   .cases hf
  .cases hf
 .cases hf
section
variable{X:Cx}{a b:Expr}{fa fb:FB}{pos:Pos}{r:R2}{op:au->au->Option Vl}
theorem dG(ho:cM X (oF o) r)(L:fY X.K r op)(ha:PE X a (dY X.K fa))(hb:PE X b (dY X.K fb)):PE X (.BinOp a o b pos) (tE X.K (aR op fa fb)):=(ao3 ho ha hb).weak (LC L)
theorem qb(ho:cM X (fj o) r)(L:fY X.K r op)(ha:PE X a (dY X.K fa))(hb:PE X b (dY X.K fb))(hm:Gh o b=aF):PE X (.Compare a [o] [b] pos) (tE X.K (aR op fa fb)):=(al1 ho ha hb hm).weak (LC L)
theorem cP(ho:sV X r)(L:fY X.K r op)(ha:PE X a (dY X.K fa))(hb:PE X b (dY X.K fb))(hs:Mt b):PE X (.Subscript a b pos) (tE X.K (aR op fa fb)):=(Wi ho ha hb hs).weak (LC L)
end
theorem fY.or{K:aJ}{r r':R2}{op op':au->au->Option Vl}(h:fY K r op)(h':fY K r' op'):fY K (λx y H Q=>r x y H Q\/r' x y H Q) (λx y=>match op x y with|some z=>aa z|none=>op' x y):=by
 intro Z Θ env C σ H x y dx dy res S bx dm e Q q;cases h1:op dx dy with
 |some z=>
  simp only[h1] at e;cases e;exact .inl (h Z Θ env C σ H x y dx dy _ S bx dm h1 Q q)
 |none=>
  simp only[h1] at e;exact .inr (h' Z Θ env C σ H x y dx dy res S bx dm e Q q)
section
variable{K:aJ}{Z Θ:List aq}{env:En}{C:Ce}{σ:St}{H:Hp}{x:V}
theorem gh.int(h:gh Z Θ env σ H (.int i) x):x=.int i:=h
theorem gh.str(h:gh Z Θ env σ H (.str i) x):x=.str i:=h
theorem gh.tup(h:gh Z Θ env σ H (.tuple ds) x):∃a vs,x=.ref a/\H a=aa (.tup vs)/\cB (er (aY Z Θ env σ) H) ds vs:=by
 obtain⟨a,vs,e,q,r⟩:=h
 exact⟨a,vs,e,jJ q,r⟩
theorem gh.lst(h:gh Z Θ env σ H (.list ds) x):∃a vs,x=.ref a/\H a=aa (.lst vs)/\cB (er (aY Z Θ env σ) H) ds vs:=by
 obtain⟨a,vs,e,q,r⟩:=h
 exact⟨a,vs,e,jJ q,r⟩
theorem gh.dct(h:gh Z Θ env σ H (.dict kvs) x):∃a vs,x=.ref a/\za H a kvs vs/\jl (er (aY Z Θ env σ) H) kvs vs:=by
 obtain⟨a,vs,e,q,r⟩:=h
 exact⟨a,vs,e,q.same (Ed _ _),r⟩
theorem gh.flat(f:lC d=ao)(h:gh Z Θ env σ H d x):x=toV d:=by
 cases d<;>first|exact h|cases f
theorem gh.rx(n:mO d=ao)(h:gh Z Θ env σ H d x):RX H d x:=by
 cases d<;>first|exact h|skip
 .obtain⟨a,vs,e,q,r⟩:=h
  exact⟨a,vs,e,jJ q,(r.same (Ed _ _)).rx n⟩
 .obtain⟨a,vs,e,q,r⟩:=h
  exact⟨a,vs,e,jJ q,(r.same (Ed _ _)).rx n⟩
 .cases n
end
section
variable{X:Cx}
def gq:au->au->Option Vl
 |.int i,.int j=>aa (.im (.int (i+j)))
 |.str x,.str y=>if x.length+y.length<=gF then aa (.im (.str (x++y))) else aj
 |.list xs,.list ys=>if xs.length+ys.length<=gF then aa (.ow (.list (xs++ys))) else aj
 |.tuple xs,.tuple ys=>if xs.isEmpty then aa (.im (.tuple ys)) else if xs.length+ys.length<=gF then aa (.im (.tuple (xs++ys))) else aj
 |_,_=>aj
def aeA(K:aJ):R2:=λx y H Q=>∃a b ys,x=.ref a/\y=.ref b/\cW K H a []/\cW K H b ys/\Q (.ref b) H
theorem amx:cM X (oF .Add) (aeA X.K):=by
 intro pins s σ H x y v u Q I rx ry h
 obtain⟨a,b,ys,rfl,rfl,ha,hb,q⟩:=h
 cases rx;cases ry
 obtain⟨its,r1,p1,_⟩:=I.tuple ha
 obtain⟨its2,r2,p2,_⟩:=I.tuple hb
 obtain⟨⟨cls,dd,data,sl⟩,ho,hc,n,hd⟩:=id p1
 obtain⟨⟨cls2,dd2,data2,sl2⟩,ho2,hc2,n2,hd2⟩:=id p2
 simp only at hc hd hc2 hd2;subst hc hd hc2 hd2;exact ZW ⟨_,ho,rfl⟩ ⟨_,ho2,rfl⟩ YH ZF X6 X3 (XQ _ _)
  (tuple_addW0 a b its.toArray its2.toArray n n2 dd dd2 sl sl2 (by cases r1;rfl)) ⟨ho,ho2,⟨.ref b,H,I,rfl,q⟩⟩
def aeB(K:aJ):R2:=λx y H Q=>(((rC λi j=>.int (i+j)) x y H Q\/∃i j,x=.str i/\y=.str j/\i.length+j.length<=bW/\Q (.str (i++j)) H)\/ae1 x y H Q)\/aeA K x y H Q\/aeu K x y H Q
theorem lQ:cM X (oF .Add) (aeB X.K):=((anM.or aiU).or an1).or (amx.or al8)
theorem lU{K:aJ}:fY K (aeB K) gq:=by
 intro Z Θ env C σ H x y dx dy res S bx dm e Q q;unfold gq at e;split at e
 .cases e;cases bx.int;cases dm.int;exact .inl (.inl (.inl ⟨_,_,rfl,rfl,q _ _ (aX.refl _ _) (jo S rfl rfl)⟩))
 .split at e
  .rename_i hl;cases e;cases bx.str;cases dm.str;exact .inl (.inl (.inr ⟨_,_,rfl,rfl,uT hl,q _ _ (aX.refl _ _) (jo S rfl rfl)⟩))
  .cases e
 .split at e
  .rename_i hl;cases e
   obtain⟨a,vs,rfl,ha,r1⟩:=bx.lst
   obtain⟨b,ws,rfl,hb,r2⟩:=dm.lst
   exact .inl (.inr ⟨a,b,vs,ws,rfl,rfl,ha,hb,by rw[jK r1,jK r2];exact uT hl,λp hp=>q _ _ (aX.upd hp) (oH S (Ac r1 r2) hp)⟩)
  .cases e
 .split at e
  .rename_i xs ys he;cases e;have:xs=[]:=List.isEmpty_iff.mp he;subst this;have by2:=dm
   obtain⟨a,vs,rfl,ha,r1⟩:=bx.tup
   obtain⟨b,ws,rfl,hb,r2⟩:=dm.tup
   cases(show vs=[] from r1)
   exact .inr (.inl ⟨a,b,ws,rfl,rfl,cW.of ha,cW.of hb,q _ _ (aX.refl _ _) ⟨S,by2⟩⟩)
  split at e
  .rename_i xs ys he hl;cases e
   obtain⟨a,vs,rfl,ha,r1⟩:=bx.tup
   obtain⟨b,ws,rfl,hb,r2⟩:=dm.tup
   have l1:=jK r1;have l2:=jK r2;have hv:vs≠[]:=λz=>by
    subst z;cases xs with
    |nil=>exact he rfl
    |cons _ _=>cases l1
   refine .inr (.inr ⟨a,b,vs,ws,rfl,rfl,cW.of ha,cW.of hb,hv,by rw[l1,l2];exact uT hl,λz=>?_,λ_ p hp=>q _ _ (aX.upd hp) (Hi S (Ac r1 r2) hp)⟩);subst z;have:ys=[]:=List.eq_nil_of_length_eq_zero l2.symm;subst this;rw[jd] at q;refine q _ _ (aX.refl _ _) ⟨S,?_⟩;exact bx
  .cases e
 .cases e
def Aw:au->au->Option Vl
 |.int i,.int j=>aa (.im (.int (i-j)))
 |_,_=>aj
theorem U9{K:aJ}{g:Int->Int->V}{op:au->au->Option Vl}(h:∀dx dy res,op dx dy=aa res->∃i j d,dx=.int i/\dy=.int j/\res=.im d/\lC d=ao/\g i j=toV d):fY K (rC g) op:=by
 intro Z Θ env C σ H x y dx dy res S bx dm e Q q
 obtain⟨i,j,d,rfl,rfl,rfl,f,hv⟩:=h _ _ _ e
 cases bx.int;cases dm.int
 exact⟨_,_,rfl,rfl,q _ _ (aX.refl _ _) (jo S f hv)⟩
theorem Ng{K:aJ}{Cn:Int->Int->Prop}{g:Int->Int->V}{op:au->au->Option Vl}(h:∀dx dy res,op dx dy=aa res->∃i j d,dx=.int i/\dy=.int j/\res=.im d/\lC d=ao/\g i j=toV d/\Cn i j):fY K (rI Cn g) op:=by
 intro Z Θ env C σ H x y dx dy res S bx dm e Q q
 obtain⟨i,j,d,rfl,rfl,rfl,f,hv,c⟩:=h _ _ _ e
 cases bx.int;cases dm.int
 exact⟨_,_,rfl,rfl,c,q _ _ (aX.refl _ _) (jo S f hv)⟩
theorem Nh{K:aJ}:fY K (rC λi j=>.int (i-j)) Aw:=U9 λdx dy res e=>by
 unfold Aw at e;split at e<;>cases e
 exact⟨_,_,_,rfl,rfl,rfl,rfl,rfl⟩
def qi:au->au->Option Vl
 |.int i,.int j=>if 0<j then aa (.im (.int (i%j))) else aj
 |_,_=>aj
theorem uY{K:aJ}:fY K (rI (λ_ j=>0<j) λi j=>.int (i%j)) qi:=Ng λdx dy res e=>by
 unfold qi at e;split at e
 .split at e
  .rename_i h;cases e;exact⟨_,_,_,rfl,rfl,rfl,rfl,rfl,h⟩
  .cases e
 .cases e
def DP:au->au->Option Vl
 |.int i,.int j=>if 0<j/\j<1073741824 then aa (.im (.int (i / j))) else aj
 |_,_=>aj
theorem acW{K:aJ}:fY K (rI aeU λi j=>.int (i / j)) DP:=Ng λdx dy res e=>by
 unfold DP at e;split at e
 .split at e
  .rename_i h;cases e;exact⟨_,_,_,rfl,rfl,rfl,rfl,rfl,h⟩
  .cases e
 .cases e
def rZ:au->au->Option Vl
 |.int i,.int j=>if 0<=j/\j<=1000000/\i.natAbs<2^64 then aa (.im (.int (i^j.toNat))) else aj
 |_,_=>aj
theorem Ni{K:aJ}:fY K (rI aeV λi j=>.int (i^j.toNat)) rZ:=Ng λdx dy res e=>by
 unfold rZ at e;split at e
 .split at e
  .rename_i h;cases e;exact⟨_,_,_,rfl,rfl,rfl,rfl,rfl,h⟩
  .cases e
 .cases e
def qT:au->au->Option Vl
 |.int i,.int j=>if(-(2^64)<i/\i<2^64)\/(-(2^64)<j/\j<2^64) then aa (.im (.int (i*j))) else aj
 |_,_=>aj
theorem yt{K:aJ}:fY K (rI Im λi j=>.int (i*j)) qT:=Ng λdx dy res e=>by
 unfold qT at e;split at e
 .split at e
  .rename_i h;cases e;exact⟨_,_,_,rfl,rfl,rfl,rfl,rfl,h⟩
  .cases e
 .cases e
end
section
variable{X:Cx}
def wY:au->au->Option Bool
 |.int i,.int j=>aa (i==j)
 |.str x,.str y=>aa (x==y)
 |.bool a,.bool b=>aa (a==b)
 |d,e=>if mO d&&mO e&&(jc d&&jc e) then aa (uO d e) else aj
def mW(d e:au):Option Vl:=(wY d e).map λb=>.im (.bool b)
def mK(d e:au):Option Vl:=(wY d e).map λb=>.im (.bool (!b))
theorem ajc(hu:X.A.units+64<fV):cM X (fj .Eq) (λx y H Q=>∃d e,RX H d x/\RX H e y/\jc d=ao/\jc e=ao/\Q (.bl (uO d e)) H):=by
 intro pins s σ H x y v u Q I rx ry h
 obtain⟨d,e,hd,he,h1,h2,q⟩:=h
 obtain⟨as,ra⟩:=RD.reads I (hd.rd (K:=X.K)) rx
 obtain⟨bs,rb⟩:=RD.reads I (he.rd (K:=X.K)) ry
 exact PySem.SeqAt.compareEq_shaped ra rb h1 h2 hu ⟨.bl _,H,I,rfl,q⟩
def ae9:R2:=λx y H Q=>rEq x y H Q\/∃d e,RX H d x/\RX H e y/\jc d=ao/\jc e=ao/\Q (.bl (uO d e)) H
def afa:R2:=λx y H Q=>rNe x y H Q\/∃d e,RX H d x/\RX H e y/\jc d=ao/\jc e=ao/\Q (.bl (!PyData.eqv d e)) H
theorem vU(hu:X.A.units+64<fV):cM X (fj .Eq) ae9:=ao5.or (ajc hu)
theorem Ah(hu:X.A.units+64<fV):cM X (fj .NotEq) afa:=ao6.or (ai4 hu)
theorem aa3(h:wY d e=aa b):(lC d=ao/\lC e=ao/\WR (toV d) (toV e)=ao/\b=decide (toV d=toV e))\/(mO d=ao/\mO e=ao/\jc d=ao/\jc e=ao/\b=uO d e):=by
 unfold wY at h;split at h
 .cases h;exact .inl ⟨rfl,rfl,rfl,UT.symm⟩
 .cases h;exact .inl ⟨rfl,rfl,rfl,UW.symm⟩
 .cases h;exact .inl ⟨rfl,rfl,rfl,Vy.symm⟩
 .split at h
  .rename_i q;cases h;rw[jn,jn,jn] at q;exact .inr ⟨q.1.1,q.1.2,q.2.1,q.2.2,rfl⟩
  .cases h
theorem wz{K:aJ}:fY K ae9 mW:=by
 intro Z Θ env C σ H x y dx dy res S bx dm e Q q;unfold mW at e;cases h:wY dx dy with
 |none=>rw[h] at e;cases e
 |some b=>
  rw[h] at e;cases e;have fin:=q (.bl b) H (aX.refl _ _) (jo S rfl rfl);rcases aa3 h with⟨f1,f2,sc,eb⟩|⟨n1,n2,s1,s2,eb⟩
  .rw[bx.flat f1,dm.flat f2];rw[eb] at fin;exact .inl ⟨sc,fin⟩
  .rw[eb] at fin;exact .inr ⟨dx,dy,bx.rx n1,dm.rx n2,s1,s2,fin⟩
theorem Ax{K:aJ}:fY K afa mK:=by
 intro Z Θ env C σ H x y dx dy res S bx dm e Q q;unfold mK at e;cases h:wY dx dy with
 |none=>rw[h] at e;cases e
 |some b=>
  rw[h] at e;cases e;have fin:=q (.bl (!b)) H (aX.refl _ _) (jo S rfl rfl);rcases aa3 h with⟨f1,f2,sc,eb⟩|⟨n1,n2,s1,s2,eb⟩
  .rw[bx.flat f1,dm.flat f2];rw[eb] at fin;exact .inl ⟨sc,fin⟩
  .rw[eb] at fin;exact .inr ⟨dx,dy,bx.rx n1,dm.rx n2,s1,s2,fin⟩
def strLt(x y:Str):Bool:=decide (x.cps.toList<y.cps.toList)
def aeC(xs ys:List au):Option Bool:=match keysOf xs,keysOf ys with
 |some ks,some js=>if ks.map bM=js.map bM then aa (eO ks js) else aj
 |_,_=>aj
def Bo:au->au->Option Vl
 |.int i,.int j=>aa (.im (.bool (decide (i<j))))
 |.str x,.str y=>aa (.im (.bool (strLt x y)))
 |.tuple xs,.tuple ys=>(aeC xs ys).map λb=>.im (.bool b)
 |_,_=>aj
theorem xW:∀{ds:List au}{ks:List Key}{vs:List V},keysOf ds=aa ks->cB E ds vs->vs=ks.map kV
 |[],ks,vs,h,r=>by cases h;exact r
 |d::ds,ks,vs,h,r=>by
  unfold keysOf at h;split at h
  .rename_i k t h1 h2;cases h
   obtain⟨u,w,e1,q,s⟩:=r
   rw[e1,xW h2 s];have:u=kV k:=by
    cases d<;>first|(cases h1;exact q)|cases h1
   rw[this];rfl
  .cases h
def aqh:R2:=λx y H Q=>(∃a b,x=kV a/\y=kV b/\bM a=bM b/\Q (.bl (kLt a b)) H)\/∃a b ks js,x=.ref a/\y=.ref b/\H a=aa (.tup (ks.map kV))/\H b=aa (.tup (js.map kV))/\ks.map bM=js.map bM/\Q (.bl (eO ks js)) H
theorem Wm{K:aJ}:fY K aqh Bo:=by
 intro Z Θ env C σ H x y dx dy res S bx dm e Q q;unfold Bo at e;split at e
 .cases e;cases bx.int;cases dm.int;exact .inl ⟨.inl _,.inl _,rfl,rfl,rfl,q _ _ (aX.refl _ _) (jo S rfl rfl)⟩
 .cases e;cases bx.str;cases dm.str;exact .inl ⟨.inr _,.inr _,rfl,rfl,rfl,q _ _ (aX.refl _ _) (jo S rfl rfl)⟩
 .rename_i xs ys;unfold aeC at e;split at e
  .rename_i ks js h1 h2;split at e
   .rename_i ht;cases e
    obtain⟨a,vs,rfl,ha,r1⟩:=bx.tup
    obtain⟨b,ws,rfl,hb,r2⟩:=dm.tup
    rw[xW h1 r1] at ha;rw[xW h2 r2] at hb;exact .inr ⟨a,b,ks,js,rfl,rfl,ha,hb,ht,q _ _ (aX.refl _ _) (jo S rfl rfl)⟩
   .cases e
  .cases e
 .cases e
def rm:au->au->Option Vl
 |.int i,.int j=>aa (.im (.bool (decide (i<=j))))
 |.str x,.str y=>aa (.im (.bool (!strLt y x)))
 |_,_=>aj
def afb:R2:=λx y H Q=>(rC λi j=>.bl (decide (i<=j))) x y H Q\/∃i j,x=.str i/\y=.str j/\Q (.bl (!(decide (j.cps.toList<i.cps.toList)))) H
theorem DQ:cM X (fj .LtE) afb:=ao7.or ajP
theorem Ef{K:aJ}:fY K afb rm:=by
 intro Z Θ env C σ H x y dx dy res S bx dm e Q q;unfold rm at e;split at e
 .cases e;cases bx.int;cases dm.int;exact .inl ⟨_,_,rfl,rfl,q _ _ (aX.refl _ _) (jo S rfl rfl)⟩
 .cases e;cases bx.str;cases dm.str;exact .inr ⟨_,_,rfl,rfl,q _ _ (aX.refl _ _) (jo S rfl rfl)⟩
 .cases e
def Bp:au->au->Option Vl
 |.int i,.int j=>aa (.im (.bool (decide (j<i))))
 |_,_=>aj
def Oh:au->au->Option Vl
 |.int i,.int j=>aa (.im (.bool (decide (j<=i))))
 |_,_=>aj
theorem Wn{K:aJ}:fY K (rC λi j=>.bl (decide (j<i))) Bp:=U9 λdx dy res e=>by
 unfold Bp at e;split at e<;>cases e
 exact⟨_,_,_,rfl,rfl,rfl,rfl,rfl⟩
theorem aph{K:aJ}:fY K (rC λi j=>.bl (decide (j<=i))) Oh:=U9 λdx dy res e=>by
 unfold Oh at e;split at e<;>cases e
 exact⟨_,_,_,rfl,rfl,rfl,rfl,rfl⟩
def isNone:au->Bool
 |.none=>ao
 |_=>aF
def pD(d e:au):Option Vl:=if isNone e then aa (.im (.bool (isNone d))) else aj
def yu(d e:au):Option Vl:=if isNone e then aa (.im (.bool (!isNone d))) else aj
theorem LK(h:gh Z Θ env σ H d x):decide (x=V.non)=isNone d:=by
 cases d<;>first
  |(cases(show x=_ from h);rfl)
  |(obtain⟨a,vs,e,_⟩:=h;subst e;rfl)
theorem Nj{K:aJ}:fY K (λx y H Q=>y=.non/\Q (.bl (decide (x=.non))) H) pD:=by
 intro Z Θ env C σ H x y dx dy res S bx dm e Q q;unfold pD at e;split at e
 .rename_i hn;cases e;have hy:y=.non:=of_decide_eq_true ((LK dm).trans hn)
  exact⟨hy,by rw[LK bx];exact q _ _ (aX.refl _ _) (jo S rfl rfl)⟩
 .cases e
theorem acX{K:aJ}:fY K (λx y H Q=>y=.non/\Q (.bl (!decide (x=.non))) H) yu:=by
 intro Z Θ env C σ H x y dx dy res S bx dm e Q q;unfold yu at e;split at e
 .rename_i hn;cases e;have hy:y=.non:=of_decide_eq_true ((LK dm).trans hn)
  exact⟨hy,by rw[LK bx];exact q _ _ (aX.refl _ _) (jo S rfl rfl)⟩
 .cases e
end
section
variable{X:Cx}{pins:List (aq×Obj)}{σ:St}{H:Hp}{s:aB}{a b:aq}
theorem Inv.Jg(I:Inv X pins σ H s)(h:H a=aa (.dK [])):Inv X pins σ (upd H a (.dT [])) s:=by
 obtain⟨z,hm,vs,r,o,es,ep,h1,h2,h3,h4,h5,h6⟩:=I.hok a _ h
 cases r;have e0:es.toList=[]:=by
  cases hh:es.toList with
  |nil=>rfl
  |cons x xs=>rw[hh] at h5;cases h5
 have:=Ab (t':=s.toks) (ob:=.dT []) I (by rw[h];trivial) (YD a s.heap) ⟨_,h1⟩ ⟨kI _,hm,[],.nil,o,es,ep,h1,h2,h3,e0,mj⟩;exact this
theorem Inv.Pg(I:Inv X pins σ (upd H a (.dT [])) s)(h:H a=aa (.dK [])):Inv X pins σ H s:=by
 obtain⟨z,hm,xs,r,o,es,ep,h1,h2,h3,h4,h5⟩:=I.hok a _ eN
 cases r;have e0:es=#[]:=by
  cases es;simp at h4;rw[h4]
 subst e0;have:=Ab (t':=s.toks) (ob:=.dK []) I (by rw[eN];trivial) (YD a s.heap) ⟨_,h1⟩ (Nb (kI _) hm .nil ⟨o,#[],ep,h1,h2,h3,λi hi=>absurd hi (by simp),.nil,mj⟩);rw[acs] at this;have e:upd H a (.dK [])=H:=by
  funext b;by_cases hb:b=a
  .subst hb;rw[eN,h]
  .exact cV hb
 rw[e] at this;exact this
end
def qx(H:Hp)(a:aq)(y:V)(r:Option V):Prop:=nO H a y r\/(H a=aa (.dK [])/\(∃(b:aq)(ks:List Key),y=.ref b/\H b=aa (.tup (ks.map kV)))/\r=aj)
section
variable{X:Cx}{pins:List (aq×Obj)}{σ:St}{H:Hp}{s:aB}{a:aq}{y v:V}{u r:Value}{o:Option V}{A:cD}{E:Value->aB->Prop}
theorem qx.re(ha:H a=aa (.dK [])){b:aq}{ks:List Key}(hb:H b=aa (.tup (ks.map kV))):nO (upd H a (.dT [])) a (.ref b) aj:=by
 have:(upd H a (.dT [])) b=aa (.tup (ks.map kV)):=by rw[cV (Wc hb ha (λz=>nomatch z))];exact hb
 exact nO.t (kvs:=[]) (k:=ks) eN this
theorem api(hu:A.units+1<fV)(I:Inv X pins σ H s)(g:qx H a y o)(ry:RelV y u)(h:∀s',Inv X pins σ H s'->Q (.bool o.isSome) s'):aQ (model X.prog X.w) A (fj .In u (.ref a)) Q E s:=by
 rcases g with g|⟨ha,⟨b,ks,rfl,hb⟩,rfl⟩
 .exact ae3 hu I g ry h
 .exact ae3 hu (I.Jg ha) (qx.re ha hb) ry λs' I'=>h s' (I'.Pg ha)
theorem ak1(hu:A.units+1<fV)(I:Inv X pins σ H s)(g:qx H a y o)(ry:RelV y u)(h:∀s',Inv X pins σ H s'->Q (.bool (!o.isSome)) s'):aQ (model X.prog X.w) A (fj .NotIn u (.ref a)) Q E s:=by
 rcases g with g|⟨ha,⟨b,ks,rfl,hb⟩,rfl⟩
 .exact acH hu I g ry h
 .exact acH hu (I.Jg ha) (qx.re ha hb) ry λs' I'=>h s' (I'.Pg ha)
theorem aoh(hu:X.A.units+1<fV):cM X (fj .In) (λy x H Q=>∃a o,x=.ref a/\qx H a y o/\Q (.bl o.isSome) H):=by
 intro pins s σ H x y v u Q I rx ry h
 obtain⟨a,o,rfl,g,q⟩:=h
 cases ry;exact api hu I g rx λs' I'=>⟨.bl _,H,I',rfl,q⟩
theorem aj1(hu:X.A.units+1<fV):cM X (fj .NotIn) (λy x H Q=>∃a o,x=.ref a/\qx H a y o/\Q (.bl (!o.isSome)) H):=by
 intro pins s σ H x y v u Q I rx ry h
 obtain⟨a,o,rfl,g,q⟩:=h
 cases ry;exact ak1 hu I g rx λs' I'=>⟨.bl _,H,I',rfl,q⟩
theorem amy(hu:X.A.units+1<fV):sV X (λx y H Q=>∃a v,x=.ref a/\nO H a y (aa v)/\Q v H):=by
 intro value slice pins s σ H x y v u Q I rx ry h hs
 obtain⟨a,z,rfl,g,q⟩:=h
 cases rx;have hT:=aiF I g;have h2:aQ (model X.prog X.w) X.A (ye (.ref a) u) (EP X pins σ Q) X.xe s:=ajI hu I g ry λw' s' I' r'=>⟨z,H,I',r',q⟩
 unfold subscriptTail;refine aC ?_;rw[getitemInPython_of_ne hT.not_modules];refine aC (wpAny_specialOf hT PySem.F.slot_dict_getitem.lookup ?_);have fin:aQ (model X.prog X.w) X.A (aaj slice aF (.ref a) u) (λr s₃=>aQ (model X.prog X.w) X.A (letTemporaryGo value (.ref a) r >>= λ_=>pure r) (EP X pins σ Q) X.xe s₃) X.xe s:=by
  rw[hs];exact wpAny_operating (pW h2 (λr s₃ h₃=>aC (wpAny_letTemporaryGo (aZ h₃))) λ_ _ x=>x)
 first
  |exact aZ (aC fin)
  |exact aC (aZ (aC fin))
  |exact aC fin
end
def pF{κ:Type}[DecidableEq κ](f:au->Option κ)(k:κ):List (au×au)->Option au
 |[]=>aj
 |p::r=>if f p.1=aa k then aa p.2 else pF f k r
def mG(kvs:List (au×au))(d:au):Option (Option au):=match cL d with
 |some k=>if(cH cL kvs).isSome then aa (pF cL k kvs) else aj
 |none=>match rY d with
  |some ks=>if(cH rY kvs).isSome then aa (pF rY ks kvs) else aj
  |none=>aj
theorem Ud[DecidableEq κ]:∀{kvs:List (au×au)}{ks:List κ}{vs:List V},cH f kvs=aa ks->jl E kvs vs->
  (∃d v,pF f k kvs=aa d/\oM (ks.zip vs) k=aa v/\RZ E d v)\/(pF f k kvs=aj/\oM (ks.zip vs) k=aj)
 |[],ks,vs,h,r=>by
  cases h
  cases(show vs=[] from r)
  exact .inr ⟨rfl,rfl⟩
 |(p,d)::kvs,ks,vs,h,r=>by
  unfold cH at h;split at h
  .rename_i k' t h1 h2;cases h
   obtain⟨v,w,rfl,q,s⟩:=r
   by_cases e:k'=k
   .subst e;refine .inl ⟨d,v,?_,?_,q⟩
    .unfold pF;rw[aV h1]
    .exact Ls (p:=(k',v)) rfl
   .have e1:pF f k ((p,d)::kvs)=pF f k kvs:=by
     show(if f p=aa k then aa d else pF f k kvs)=_
     rw[bf];intro z;rw[h1] at z;exact e (gP z)
    have e2:oM ((k'::t).zip (v::w)) k=oM (t.zip w) k:=Lw (p:=(k',v)) e;rw[e1,e2];exact Ud h2 s
  .cases h
theorem vL:∀{kvs:List (au×au)}{ks:List κ},cH f kvs=aa ks->ks.length=kvs.length
 |[],ks,h=>by cases h;rfl
 |p::kvs,ks,h=>by
  unfold cH at h;split at h
  .rename_i k' t h1 h2;cases h;rw[cA,cA,vL h2]
  .cases h
theorem adV(h:cL d=aa k)(r:RZ E d v):v=kV k:=by
 cases d<;>first|(cases h;exact r)|cases h
theorem adW(h:cL d=aa k)(g:rY d=aa ks):False:=by
 cases d<;>first|(cases h;done)|(cases g;done)
section
variable{K:aJ}{Z Θ:List aq}{env:En}{C:Ce}{σ:St}{H:Hp}{x y:V}
theorem xX(h:cH cL kvs=aa ks)(g:cH rY kvs=aa js):kvs=[]:=by
 cases kvs with
 |nil=>rfl
 |cons p r=>
  unfold cH at h g;split at h
  .rename_i h1 h2;split at g
   .rename_i h3 h4
    exact(adW h1 h3).elim
   .cases g
  .cases h
theorem gh.get(h:gh Z Θ env σ H (.dict kvs) x)(hy:gh Z Θ env σ H d y)(e:mG kvs d=aa o):
  ∃a r,x=.ref a/\qx H a y r/\((∃v,r=aa v/\∃d',o=aa d'/\RZ (er (aY Z Θ env σ) H) d' v/\nO H a y (aa v))\/(r=aj/\o=aj)):=by
 obtain⟨a,vs,rfl,dt,rd⟩:=h.dct
 unfold mG at e;split at e
 .rename_i k hk;split at e
  .rename_i hs;cases e;have yk:y=kV k:=by
    cases d<;>first|(cases hk;exact hy)|cases hk
   have dk:∃ks,cH cL kvs=aa ks/\H a=aa (.dK (ks.zip vs)):=by
    rcases dt with h|⟨ks,⟨ne,h2⟩,_⟩
    .exact h
    .obtain⟨ks',h1⟩:=xr.mp hs
     exact absurd (xX h1 h2) ne
   obtain⟨ks,h1,ha⟩:=dk
   have g:=nO.k (k:=k) ha;rw[<-yk] at g;rcases Ud (k:=k) h1 rd with⟨d',v,e1,e2,r⟩|⟨e1,e2⟩
   .rw[e2] at g
    exact⟨a,aa v,rfl,.inl g,.inl ⟨v,rfl,d',e1,r,g⟩⟩
   .rw[e2] at g
    exact⟨a,aj,rfl,.inl g,.inr ⟨rfl,e1⟩⟩
  .cases e
 .split at e
  .rename_i ks hks;split at e
   .rename_i hs;cases e
    obtain⟨b,hb,rfl⟩:∃b,H b=aa (.tup (ks.map kV))/\y=.ref b:=by
     cases d<;>first|cases hks|skip
     obtain⟨b,ws,rfl,hb,r⟩:=hy.tup
     rw[xW hks r] at hb
     exact⟨b,hb,rfl⟩
    rcases dt with⟨js,h1,ha⟩|⟨js,⟨ne,h1⟩,ha⟩
    .obtain⟨js',h2⟩:=xr.mp hs
     have:=xX h1 h2;subst this;cases h1
     exact⟨a,aj,rfl,.inr ⟨ha,⟨b,ks,rfl,hb⟩,rfl⟩,.inr ⟨rfl,rfl⟩⟩
    .have g:=nO.t (k:=ks) ha hb;rcases Ud (k:=ks) h1 rd with⟨d',v,e1,e2,r⟩|⟨e1,e2⟩
     .rw[e2] at g
      exact⟨a,aa v,rfl,.inl g,.inl ⟨v,rfl,d',e1,r,g⟩⟩
     .rw[e2] at g
      exact⟨a,aj,rfl,.inl g,.inr ⟨rfl,e1⟩⟩
   .cases e
  .cases e
end
def inD(d:au)(ds:List au):Bool:=ds.any λe=>uv (toV e) (toV d)
def inB(d:au):au->Option Bool
 |.list ds=>if lC d&&ds.all lC then aa (inD d ds) else aj
 |.tuple ds=>if lC d&&ds.all lC then aa (inD d ds) else aj
 |.dict kvs=>(mG kvs d).map (·.isSome)
 |_=>aj
def jM(d e:au):Option Vl:=(inB d e).map λb=>.im (.bool b)
def nD(d e:au):Option Vl:=(inB d e).map λb=>.im (.bool (!b))
def afc(K:aJ):R2:=λx y H Q=>O7 K aF x y H Q\/∃a o,y=.ref a/\qx H a x o/\Q (.bl o.isSome) H
def acY(K:aJ):R2:=λx y H Q=>O7 K ao x y H Q\/∃a o,y=.ref a/\qx H a x o/\Q (.bl (!o.isSome)) H
theorem rQ(hu:X.A.units+1<fV):cM X (fj .In) (afc X.K):=ajH.or (aoh hu)
theorem Dh(hu:X.A.units+1<fV):cM X (fj .NotIn) (acY X.K):=aif.or (aj1 hu)
theorem Tj(f:lC d=ao):qQ (toV d)=ao:=by
 cases d<;>first|rfl|cases f
theorem aeD:inV (toV d) (ds.map toV)=inD d ds:=by
 unfold inV inD;rw[Z6];rfl
theorem acZ{ds:List au}(f:ds.all lC=ao):(ds.map toV).all qQ=ao:=by
 rw[List.all_map,oX];intro d hd;exact Tj (oX.mp f d hd)
theorem abI{K:aJ}{Z Θ:List aq}{env:En}{σ:St}{H:Hp}{x y:V}{dx dy:au}{b:Bool}(bx:gh Z Θ env σ H dx x)(dm:gh Z Θ env σ H dy y)(e:inB dx dy=aa b):
  (∃p xs,y=.ref p/\(bO K H p xs\/cW K H p xs)/\qQ x=ao/\xs.all qQ=ao/\inV x xs=b)\/∃a o,y=.ref a/\qx H a x o/\o.isSome=b:=by
 unfold inB at e;split at e
 .split at e
  .rename_i ds hf;rw[jn] at hf;cases e
   obtain⟨a,vs,rfl,ha,r⟩:=dm.lst
   rw[Ub hf.2 r] at ha;rw[bx.flat hf.1];exact .inl ⟨a,_,rfl,.inl (bO.of ha),Tj hf.1,acZ hf.2,aeD⟩
  .cases e
 .split at e
  .rename_i ds hf;rw[jn] at hf;cases e
   obtain⟨a,vs,rfl,ha,r⟩:=dm.tup
   rw[Ub hf.2 r] at ha;rw[bx.flat hf.1];exact .inl ⟨a,_,rfl,.inr (cW.of ha),Tj hf.1,acZ hf.2,aeD⟩
  .cases e
 .rename_i kvs;cases hl:mG kvs dx with
  |none=>rw[hl] at e;cases e
  |some o=>
   rw[hl] at e;cases e
   obtain⟨a,r,rfl,g,q⟩:=dm.get bx hl
   refine .inr ⟨a,r,rfl,g,?_⟩;rcases q with⟨v,rfl,d',rfl,_⟩|⟨rfl,rfl⟩<;>rfl
 .cases e
theorem sr{K:aJ}:fY K (afc K) jM:=by
 intro Z Θ env C σ H x y dx dy res S bx dm e Q q;unfold jM at e;cases h:inB dx dy with
 |none=>rw[h] at e;cases e
 |some b=>
  rw[h] at e;cases e;have fin:=q (.bl b) H (aX.refl _ _) (jo S rfl rfl);rcases abI (K:=K) bx dm h with⟨p,xs,e1,e2,e3,e4,e5⟩|⟨a,o,e1,e2,e3⟩
  .rw[<-e5] at fin;exact .inl ⟨p,xs,e1,e2,e3,e4,fin⟩
  .rw[<-e3] at fin;exact .inr ⟨a,o,e1,e2,fin⟩
theorem Dk{K:aJ}:fY K (acY K) nD:=by
 intro Z Θ env C σ H x y dx dy res S bx dm e Q q;unfold nD at e;cases h:inB dx dy with
 |none=>rw[h] at e;cases e
 |some b=>
  rw[h] at e;cases e;have fin:=q (.bl (!b)) H (aX.refl _ _) (jo S rfl rfl);rcases abI (K:=K) bx dm h with⟨p,xs,e1,e2,e3,e4,e5⟩|⟨a,o,e1,e2,e3⟩
  .rw[<-e5] at fin;exact .inl ⟨p,xs,e1,e2,e3,e4,fin⟩
  .rw[<-e3] at fin;exact .inr ⟨a,o,e1,e2,fin⟩
def uy:au->au->Option au
 |.list ds,.int i=>fG ds i
 |.tuple ds,.int i=>fG ds i
 |.str z,.int i=>if z.length<=gF then(fG z.cps.toList i).map λc=>.str ⟨#[c]⟩ else aj
 |.dict kvs,d=>match mG kvs d with
  |some (some e)=>aa e
  |_=>aj
 |_,_=>aj
def bI(d e:au):Option Vl:=(uy d e).map .im
def afd(K:aJ):R2:=λx y H Q=>rIx K x y H Q\/∃a v,x=.ref a/\nO H a y (aa v)/\Q v H
theorem cO(hu:X.A.units+1<fV):sV X (afd X.K):=anW.or (amy hu)
theorem ac0(r:cB E ds vs)(e:fG ds i=aa d):∃v,fG vs i=aa v/\RZ E d v:=by
 unfold fG at e⊢;rw[jK r];cases h:pN ds.length i with
 |none=>rw[h] at e;cases e
 |some j=>
  rw[h] at e;exact yr r e
theorem cQ{K:aJ}:fY K (afd K) bI:=by
 intro Z Θ env C σ H x y dx dy res S bx dm e Q q;unfold bI at e;cases h:uy dx dy with
 |none=>rw[h] at e;cases e
 |some d=>
  rw[h] at e;cases e;unfold uy at h;split at h
  .obtain⟨a,vs,rfl,ha,r⟩:=bx.lst
   cases dm.int
   obtain⟨v,e1,r1⟩:=ac0 r h
   exact .inl (.inl ⟨a,vs,_,v,rfl,rfl,bO.of ha,e1,q _ _ (aX.refl _ _) ⟨S,r1⟩⟩)
  .obtain⟨a,vs,rfl,ha,r⟩:=bx.tup
   cases dm.int
   obtain⟨v,e1,r1⟩:=ac0 r h
   exact .inl (.inr (.inl ⟨a,vs,_,v,rfl,rfl,cW.of ha,e1,q _ _ (aX.refl _ _) ⟨S,r1⟩⟩))
  .split at h
   .rename_i z i hz;cases bx.str;cases dm.int;cases hc:fG z.cps.toList i with
    |none=>rw[hc] at h;cases h
    |some c=>
     rw[hc] at h;cases h;exact .inl (.inr (.inr ⟨z,i,c,rfl,rfl,uT hz,hc,q _ _ (aX.refl _ _) (jo S rfl rfl)⟩))
   .cases h
  .split at h
   .rename_i kvs e' hl;cases h
    obtain⟨a,r,rfl,g,hq⟩:=bx.get dm hl
    rcases hq with⟨v,rfl,d',e1,r1,g1⟩|⟨_,e1⟩
    .cases e1;exact .inr ⟨a,v,rfl,g1,q _ _ (aX.refl _ _) ⟨S,r1⟩⟩
    .cases e1
   .cases h
  .cases h
def Ip:au->Option Bool
 |.none=>aa aF
 |.bool b=>aa b
 |.int i=>aa (i != 0)
 |.str x=>if x.length<=gF then aa ((x.length:Int) != 0) else aj
 |.list ds=>aa (!ds.isEmpty)
 |.tuple ds=>aa (!ds.isEmpty)
 |.dict kvs=>if(cH cL kvs).isSome then aa (!kvs.isEmpty) else aj
def jN(f:FB):FT:=λenv C=>match f env C with
 |some (d,_,C')=>match Ip d with
  |some b=>aa (b,C')
  |none=>aj
 |none=>aj
def dU(f:FE):FT:=λenv C=>match f env C with
 |some (.im (.bool b),_,C')=>aa (b,C')
 |_=>aj
def qj(f:FT):FT:=λenv C=>match f env C with
 |some (b,C')=>aa (!b,C')
 |none=>aj
def qU(f g:FT):FT:=λenv C=>match f env C with
 |some (true,C')=>g env C'
 |some (false,C')=>aa (aF,C')
 |none=>aj
def qt(f g:FT):FT:=λenv C=>match f env C with
 |some (true,C')=>aa (ao,C')
 |some (false,C')=>g env C'
 |none=>aj
theorem aoi{K:aJ}{Z Θ:List aq}{env:En}{σ:St}{H:Hp}{x:V}{d:au}{b:Bool}(h:gh Z Θ env σ H d x)(e:Ip d=aa b):WT K x H b:=by
 cases d with
 |none=>cases e;cases(show x=_ from h);rfl
 |bool c=>cases e;cases(show x=_ from h);rfl
 |int i=>cases e;cases(show x=_ from h);rfl
 |str z=>
  simp only[Ip] at e;split at e
  .rename_i hz;cases e;cases(show x=_ from h);exact⟨uT hz,rfl⟩
  .cases e
 |list ds=>
  cases e
  obtain⟨a,vs,rfl,ha,r⟩:=h.lst
  refine .inl ⟨vs,bO.of ha,?_⟩;have:=jK r;cases ds<;>cases vs<;>first|rfl|cases this
 |tuple ds=>
  cases e
  obtain⟨a,vs,rfl,ha,r⟩:=h.tup
  refine .inr (.inl ⟨vs,cW.of ha,?_⟩);have:=jK r;cases ds<;>cases vs<;>first|rfl|cases this
 |dict kvs=>
  simp only[Ip] at e;split at e
  .rename_i hs;cases e
   obtain⟨a,vs,rfl,da,r⟩:=h.dct
   rcases da with⟨ks,h1,ha⟩|⟨ks,⟨ne,h2⟩,ha⟩
   .refine .inr (.inr ⟨_,ha,?_⟩);have l1:=vL h1;have l2:=Ds r;cases kvs<;>cases ks<;>cases vs<;>first|rfl|cases l1|cases l2
   .obtain⟨ks',h1⟩:=xr.mp hs
    exact absurd (xX h1 h2) ne
  .cases e
section
variable{X:Cx}{a b:Expr}{pos:Pos}
theorem lB(h:PE X a (dY X.K f))(he:∀whole,isTrue a X.env whole=(do let v <-whole;uU a.pos;rP [v] (truthy v)):=by intro _;rfl):PT X a (fX X.K (jN f)):=
 (akE h he).weak λσ H Q aN=>by
  obtain⟨Z,Θ,env,C,b,C',S,hf,q⟩:=aN
  unfold jN at hf;split at hf
  .rename_i d e1 C1 h1;split at hf
   .rename_i b' hb;cases hf
    exact⟨Z,Θ,env,C,d,e1,C',S,h1,λv H' k f S' bo=>⟨b,aoi bo hb,q H' k (S.go k S'.cell)⟩⟩
   .cases hf
  .cases hf
theorem abJ{K:aJ}{t:TE}{f:FE}(w:∀σ H Q,tE K f σ H Q->t σ H Q):∀σ H Q,fX K (dU f) σ H Q->Wh t σ H Q:=by
 rintro σ H Q ⟨Z,Θ,env,C,b,C',S,hf,q⟩;unfold dU at hf;split at hf
 .rename_i b' e1 C1 h1;cases hf;refine w _ _ _ ⟨Z,Θ,env,C,.im (.bool b),e1,C',S,h1,λv H' k f R=>?_⟩
  obtain⟨S',r⟩:=R
  exact⟨b,r,q H' k (S.go k S'.cell)⟩
 .cases hf
theorem gf(ho:cM X (fj o) r)(L:fY X.K r op)(ha:PE X a (dY X.K fa))(hb:PE X b (dY X.K fb))(hm:Gh o b=aF):
  PT X (.Compare a [o] [b] pos) (fX X.K (dU (aR op fa fb))):=(al2 ho ha hb hm).weak (abJ (LC L))
theorem vV(h:PT X a (fX X.K f)):PT X (.UnaryOp .Not a pos) (fX X.K (qj f)):=(anC h).weak λσ H Q aN=>by
 obtain⟨Z,Θ,env,C,b,C',S,hf,q⟩:=aN
 unfold qj at hf;split at hf
 .rename_i b' C1 h1;cases hf
  exact⟨Z,Θ,env,C,b',C',S,h1,q⟩
 .cases hf
theorem ak2{K:aJ}{f g:FT}:∀σ H Q,fX K (qU f g) σ H Q->aeQ (fX K f) (fX K g) σ H Q:=by
 rintro σ H Q ⟨Z,Θ,env,C,b,C',S,hf,q⟩;unfold qU at hf;split at hf
 .rename_i C1 h1
  exact⟨Z,Θ,env,C,ao,C1,S,h1,λH1 k1 S1=>yL ⟨Z,Θ,env,C1,b,C',S1,hf,λH2 k2 S2=>q H2 (k1.trans k2) S2⟩⟩
 .rename_i C1 h1;cases hf
  exact⟨Z,Θ,env,C,aF,C',S,h1,λH1 k1 S1=>yK (q H1 k1 S1)⟩
 .cases hf
theorem amz{K:aJ}{f g:FT}:∀σ H Q,fX K (qt f g) σ H Q->tOr (fX K f) (fX K g) σ H Q:=by
 rintro σ H Q ⟨Z,Θ,env,C,b,C',S,hf,q⟩;unfold qt at hf;split at hf
 .rename_i C1 h1;cases hf
  exact⟨Z,Θ,env,C,ao,C',S,h1,λH1 k1 S1=>yL (q H1 k1 S1)⟩
 .rename_i C1 h1
  exact⟨Z,Θ,env,C,aF,C1,S,h1,λH1 k1 S1=>yK ⟨Z,Θ,env,C1,b,C',S1,hf,λH2 k2 S2=>q H2 (k1.trans k2) S2⟩⟩
 .cases hf
variable{rest:List Expr}
theorem My(h:PT X a (fX X.K f)):PW X (.BoolOp .And [a] pos) (fX X.K f):=pw_and1 h
theorem Ai(h:PT X a (fX X.K f)):PW X (.BoolOp .Or [a] pos) (fX X.K f):=pw_or1 h
theorem yw(h:PT X a (fX X.K f))(hb:PW X (.BoolOp .And (b::rest) pos) (fX X.K g)):PW X (.BoolOp .And (a::b::rest) pos) (fX X.K (qU f g)):=(pw_and h hb).weak ak2
theorem wA(h:PT X a (fX X.K f))(hb:PW X (.BoolOp .Or (b::rest) pos) (fX X.K g)):PW X (.BoolOp .Or (a::b::rest) pos) (fX X.K (qt f g)):=(pw_or h hb).weak amz
end
def yO(op op':au->au->Option Vl)(fa fb fc:FB):FE:=λenv C=>match fa env C with
 |some (x,e1,C1)=>match fb e1 C1 with
  |some (y,e2,C2)=>match op x y with
   |some (.im (.bool true))=>match fc e2 C2 with
    |some (z,e3,C3)=>match op' y z with
     |some (.im (.bool b))=>aa (.im (.bool b),env,C3)
     |_=>aj
    |none=>aj
   |some (.im (.bool false))=>aa (.im (.bool aF),env,C2)
   |_=>aj
  |none=>aj
 |none=>aj
theorem abK{K:aJ}{r r':R2}{op op':au->au->Option Vl}(L:fY K r op)(L':fY K r' op'){fa fb fc:FB}:∀σ H Q,tE K (yO op op' fa fb fc) σ H Q->Vz r r' (dY K fa) (dY K fb) (dY K fc) σ H Q:=by
 rintro σ H Q ⟨Z,Θ,env,C,res,env',C',S,hf,q⟩;unfold yO at hf;split at hf
 .rename_i x e1 C1 h1;split at hf
  .rename_i y e2 C2 h2
   refine⟨Z,Θ,env,C,x,e1,C1,S,h1,λv H1 k1 f1 S1 b1=>⟨Z,Θ,e1,C1,y,e2,C2,S1,h2,λu H2 k2 f2 S2 b2=>?_⟩⟩
   split at hf
   .rename_i h3;split at hf
    .rename_i z e3 C3 h4;split at hf
     .rename_i b h5;cases hf;refine L Z Θ e2 C2 σ H2 v u x y _ S2 (b1.go S1 k2 f2) b2 h3 _ λw H3 k3 R=>⟨ao,R.2,yL ⟨Z,Θ,e2,C2,z,e3,C',R.1,h4,λw2 H4 k4 f4 S4 b4=>?_⟩⟩
      refine L' Z Θ e3 C' σ H4 u w2 y z _ S4 ((b2.go S2 k3 (Fz.refl _)).go R.1 k4 f4) b4 h5 Q λw3 H5 k5 R5=>?_
      have k:=(((k1.trans k2).trans k3).trans k4).trans k5;exact q w3 H5 k (Fz.refl _) ⟨S.go k R5.1.cell,R5.2⟩
     .cases hf
    .cases hf
   .rename_i h3;cases hf;refine L Z Θ e2 C' σ H2 v u x y _ S2 (b1.go S1 k2 f2) b2 h3 _ λw H3 k3 R=>⟨aF,R.2,yK ?_⟩
    have k:=(k1.trans k2).trans k3;exact q _ H3 k (Fz.refl _) ⟨S.go k R.1.cell,rfl⟩
   .cases hf
  .cases hf
 .cases hf
section
variable{X:Cx}{a b c:Expr}{pos:Pos}{r r':R2}{o o':CmpOp}{op op':au->au->Option Vl}{fa fb fc:FB}
theorem aoj(ho:cM X (fj o) r)(L:fY X.K r op)(ho':cM X (fj o') r')(L':fY X.K r' op')(ha:PE X a (dY X.K fa))(hb:PE X b (dY X.K fb))(hc:PE X c (dY X.K fc))
  (hm:S8 [o,o'] [b,c]=aF:=by with_unfolding_all rfl):PE X (.Compare a [o,o'] [b,c] pos) (tE X.K (yO op op' fa fb fc)):=(akC ho ho' ha hb hc hm).weak (abK L L')
theorem aok(ho:cM X (fj o) r)(L:fY X.K r op)(ho':cM X (fj o') r')(L':fY X.K r' op')(ha:PE X a (dY X.K fa))(hb:PE X b (dY X.K fb))(hc:PE X c (dY X.K fc))
  (hm:S8 [o,o'] [b,c]=aF:=by with_unfolding_all rfl):PT X (.Compare a [o,o'] [b,c] pos) (fX X.K (dU (yO op op' fa fb fc))):=(akD ho ho' ha hb hc hm).weak (abJ (abK L L'))
end
def lD(f g:FE):FE:=λenv C=>match f env C with
 |some (.im (.bool true),_,C')=>g env C'
 |some (.im (.bool false),_,C')=>aa (.im (.bool aF),env,C')
 |_=>aj
def Ay(f:FE):FE:=λenv C=>match f env C with
 |some (.im (.bool b),_,C')=>aa (.im (.bool (!b)),env,C')
 |_=>aj
def vf(c:FT)(f g:FE):FE:=λenv C=>match c env C with
 |some (true,C')=>f env C'
 |some (false,C')=>g env C'
 |none=>aj
def Ep(f:FB):FE:=λenv C=>match f env C with
 |some (.int i,_,C')=>aa (.im (.int (-i)),env,C')
 |_=>aj
section
variable{X:Cx}{a b c:Expr}{pos:Pos}{rest:List Expr}
theorem yx{o}(h:PE X a (tE X.K f)):PE X (.BoolOp o [a] pos) (tE X.K f):=anD h
theorem vW(ha:PE X a (tE X.K f))(hb:PE X (.BoolOp .And (b::rest) pos) (tE X.K g)):PE X (.BoolOp .And (a::b::rest) pos) (tE X.K (lD f g)):=(anE ha hb).weak λσ H Q aN=>by
 obtain⟨Z,Θ,env,C,r,env',C',S,hf,q⟩:=aN
 unfold lD at hf;split at hf
 .rename_i e1 C1 h1
  refine⟨Z,Θ,env,C,_,e1,C1,S,h1,λv H1 k1 f1 R1=>⟨ao,R1.2,yL ⟨Z,Θ,env,C1,r,env',C',S.go k1 R1.1.cell,hf,λw H2 k2 f2 R2=>q w H2 (k1.trans k2) f2 (R2.from k1)⟩⟩⟩
 .rename_i e1 C1 h1;cases hf
  exact⟨Z,Θ,env,C,_,e1,C',S,h1,λv H1 k1 f1 R1=>⟨aF,R1.2,yK (q _ H1 k1 (Fz.refl _) ⟨S.go k1 R1.1.cell,rfl⟩)⟩⟩
 .cases hf
theorem adX(ha:PE X a (tE X.K f)):PE X (.UnaryOp .Not a pos) (tE X.K (Ay f)):=(anF ha).weak λσ H Q aN=>by
 obtain⟨Z,Θ,env,C,r,env',C',S,hf,q⟩:=aN
 unfold Ay at hf;split at hf
 .rename_i b e1 C1 h1;cases hf
  exact⟨Z,Θ,env,C,_,e1,C',S,h1,λv H1 k1 f1 R1=>⟨b,R1.2,q _ H1 k1 (Fz.refl _) ⟨S.go k1 R1.1.cell,rfl⟩⟩⟩
 .cases hf
theorem Wo(hc:PT X c (fX X.K t))(ha:PE X a (tE X.K f))(hb:PE X b (tE X.K g)):PE X (.IfExp c a b pos) (tE X.K (vf t f g)):=(aky hc ha hb).weak λσ H Q aN=>by
 obtain⟨Z,Θ,env,C,r,env',C',S,hf,q⟩:=aN
 unfold vf at hf;split at hf
 .rename_i C1 h1
  exact⟨Z,Θ,env,C,ao,C1,S,h1,λH1 k1 S1=>yL ⟨Z,Θ,env,C1,r,env',C',S1,hf,λw H2 k2 f2 R2=>q w H2 (k1.trans k2) f2 (R2.from k1)⟩⟩
 .rename_i C1 h1
  exact⟨Z,Θ,env,C,aF,C1,S,h1,λH1 k1 S1=>yK ⟨Z,Θ,env,C1,r,env',C',S1,hf,λw H2 k2 f2 R2=>q w H2 (k1.trans k2) f2 (R2.from k1)⟩⟩
 .cases hf
theorem aol(ha:PE X a (dY X.K f)):PE X (.UnaryOp .USub a pos) (tE X.K (Ep f)):=(ao4 anN ha).weak λσ H Q aN=>by
 obtain⟨Z,Θ,env,C,r,env',C',S,hf,q⟩:=aN
 unfold Ep at hf;split at hf
 .rename_i i e1 C1 h1;cases hf
  exact⟨Z,Θ,env,C,_,e1,C',S,h1,λv H1 k1 f1 S1 b1=>⟨i,b1,q _ H1 k1 (Fz.refl _) ⟨S.go k1 S1.cell,rfl⟩⟩⟩
 .cases hf
end
def wB(K:aJ)(E:Hp)(Θ:List aq):Vl->V->Prop
 |.im d,v=>RZ E d v
 |.ow _,_=>False
 |.ce n,v=>∃a,v=.ref a/\Θ[n]?=aa a
 |.sc ns,v=>∃a,v=.ref a/\bO K E a (ns.map V.int)
 |.tp _ _ _,_=>False
inductive pC(K:aJ)(E:Hp)(Θ:List aq):List Vl->List V->Prop
 |nil:pC K E Θ [] []
 |cons {x:Vl} {v:V} {xs:List Vl} {vs:List V}:wB K E Θ x v->pC K E Θ xs vs->pC K E Θ (x::xs) (v::vs)
theorem wB.same{K:aJ}{E E':Hp}{Θ:List aq}(s:bJ E E'){x:Vl}{v:V}(h:wB K E Θ x v):wB K E' Θ x v:=by
 cases x with
 |im d=>exact RZ.same s h
 |ow d=>exact h
 |ce n=>exact h
 |sc ns=>obtain⟨a,e,q⟩:=h;exact⟨a,e,s.seq q⟩
 |tp=>exact h
theorem pC.same{K:aJ}{E E':Hp}{Θ:List aq}(s:bJ E E'){xs:List Vl}{vs:List V}(h:pC K E Θ xs vs):pC K E' Θ xs vs:=by
 induction h with
 |nil=>exact .nil
 |cons a _ ih=>exact .cons (a.same s) ih
inductive vp(K:aJ)(f:FA)(σ:St)(H:Hp)(Q:List V->Hp->Prop):Prop
 |mk (Z Θ:List aq) (env:En) (C:Ce) (xs:List Vl) (env':En) (C':Ce) (S:Sm K Z Θ env C σ H) (hf:f env C=aa (xs,env',C')) (q:∀vs H',aX Θ H H'->Fz env env'->Sm K Z Θ env' C' σ H'->pC K (er (aY Z Θ env' σ) H') Θ xs vs->Q vs H'):vp K f σ H Q
def aW:FA:=λenv C=>aa ([],env,C)
def az(f:FE)(g:FA):FA:=λenv C=>match f env C with
 |some (r,e1,C1)=>match g e1 C1 with
  |some (xs,e2,C2)=>aa (still r::xs,e2,C2)
  |none=>aj
 |none=>aj
def eX:zb:=λenv C=>aa ([],env,C)
def dM(f:FB)(g:zb):zb:=λenv C=>match f env C with
 |some (d,e1,C1)=>match g e1 C1 with
  |some (ds,e2,C2)=>aa (d::ds,e2,C2)
  |none=>aj
 |none=>aj
theorem Res.arg{K:aJ}{Z Θ:List aq}{env:En}{C:Ce}{σ:St}{H H':Hp}{r:Vl}{v:V}(h:Res K Z Θ env C σ H H' r v):Sm K Z Θ env C σ H'/\wB K (er (aY Z Θ env σ) H') Θ (L2.still r) v:=by
 have g:=h.still;cases r with
 |im d=>exact g
 |ow d=>exact g
 |ce n=>exact g
 |sc ns=>exact g
 |tp=>exact h.elim
theorem Bm.same(s:bJ E E')(t:bJ T T')(h:Bm E T ds vs):Bm E' T' ds vs:=by
 induction h with
 |nil=>exact .nil
 |cons a _ ih=>exact .cons (a.same s t) ih
section
variable{X:Cx}{e:Expr}{es:List Expr}{pos:Pos}
theorem bA:PA X [] (vp X.K aW):=tU.weak λσ H Q aN=>by
 obtain⟨Z,Θ,env,C,xs,env',C',S,hf,q⟩:=aN
 cases hf;exact q [] H (aX.refl _ _) (Fz.refl _) S .nil
theorem aD{f:FE}{g:FA}(h:PE X e (tE X.K f))(hr:PA X es (vp X.K g))(hs:bC (e::es) X.env=(aF,eval e X.env)::bC es X.env:=by rfl):PA X (e::es) (vp X.K (az f g)):=(pB h hr hs).weak λσ H Q aN=>by
 obtain⟨Z,Θ,env,C,xs,env',C',S,hf,q⟩:=aN
 unfold az at hf;split at hf
 .rename_i r e1 C1 h1;split at hf
  .rename_i ys e2 C2 h2;cases hf
   refine⟨Z,Θ,env,C,r,e1,C1,S,h1,λv H1 k1 f1 R1=>?_⟩
   obtain⟨S1,a1⟩:=R1.arg
   exact⟨Z,Θ,e1,C1,ys,env',C',S1,h2,λvs H2 k2 f2 S2 a2=>q _ H2 (k1.trans k2) (f1.trans f2) S2 (.cons (a1.same (Wl S1 k2 f2)) a2)⟩
  .cases hf
 .cases hf
theorem fZ:PA X [] (zc X.K eX):=tU.weak λσ H Q aN=>by
 obtain⟨Z,Θ,env,C,xs,env',C',S,hf,q⟩:=aN
 cases hf;exact q [] H (aX.refl _ _) (Fz.refl _) S .nil
theorem eU(h:PE X e (dY X.K f))(hr:PA X es (zc X.K g))(hs:bC (e::es) X.env=(aF,eval e X.env)::bC es X.env:=by rfl):PA X (e::es) (zc X.K (dM f g)):=(pB h hr hs).weak λσ H Q aN=>by
 obtain⟨Z,Θ,env,C,xs,env',C',S,hf,q⟩:=aN
 unfold dM at hf;split at hf
 .rename_i d e1 C1 h1;split at hf
  .rename_i ys e2 C2 h2;cases hf
   exact⟨Z,Θ,env,C,d,e1,C1,S,h1,λv H1 k1 f1 S1 b1=>⟨Z,Θ,e1,C1,ys,env',C',S1,h2,λvs H2 k2 f2 S2 b2=>q _ H2 (k1.trans k2) (f1.trans f2) S2 (.cons (b1.go S1 k2 f2) b2)⟩⟩
  .cases hf
 .cases hf
end
def Eg:List Vl->Option (List au)
 |[]=>aa []
 |.im d::r=>match Eg r with
  |some ds=>aa (d::ds)
  |none=>aj
 |_=>aj
theorem Ue{K:aJ}{E:Hp}{Θ:List aq}:∀{xs:List Vl}{ds:List au}{vs:List V},Eg xs=aa ds->pC K E Θ xs vs->cB E ds vs
 |[],ds,vs,h,a=>by cases h;cases a;rfl
 |.im d::r,ds,vs,h,a=>by
  unfold Eg at h;split at h
  .rename_i t ht;cases h;cases a with
   |cons a1 a2=>exact⟨_,_,rfl,a1,Ue ht a2⟩
  .cases h
 |.ow _::r,ds,vs,h,a=>by cases h
 |.ce _::r,ds,vs,h,a=>by cases h
 |.sc _::r,ds,vs,h,a=>by cases h
 |.tp _ _ _::r,ds,vs,h,a=>by cases h
def jD(g:FA):FE:=λenv C=>match g env C with
 |some (xs,e',C')=>match Eg xs with
  |some ds=>if ds.length<=gF then aa (.ow (.list ds),e',C') else aj
  |none=>aj
 |none=>aj
def ji(g:FA):FE:=λenv C=>match g env C with
 |some (xs,e',C')=>match Eg xs with
  |some ds=>if ds.length<=gF then aa (.im (.tuple ds),e',C') else aj
  |none=>aj
 |none=>aj
section
variable{X:Cx}{e:Expr}{es:List Expr}{pos:Pos}
theorem j8{g:FA}(h:PA X es (vp X.K g)):PE X (.List es pos) (tE X.K (jD g)):=(anP h).weak λσ H Q aN=>by
 obtain⟨Z,Θ,env,C,r,env',C',S,hf,q⟩:=aN
 unfold jD at hf;split at hf
 .rename_i xs e1 C1 h1;split at hf
  .rename_i ds hd;split at hf
   .rename_i hl;cases hf
    refine⟨Z,Θ,env,C,xs,env',C',S,h1,λvs H1 k1 f1 S1 a1=>?_⟩
    have r:=Ue hd a1
    exact⟨by rw[jK r];exact uT hl,λp hp=>q _ _ (k1.trans (aX.upd hp)) f1 ((oH S1 r hp).from k1)⟩
   .cases hf
  .cases hf
 .cases hf
theorem jL{x1}{g:FA}(h:PA X es (vp X.K g)):PE X (.Tuple es x1 pos) (tE X.K (ji g)):=(VD h).weak λσ H Q aN=>by
 obtain⟨Z,Θ,env,C,r,env',C',S,hf,q⟩:=aN
 unfold ji at hf;split at hf
 .rename_i xs e1 C1 h1;split at hf
  .rename_i ds hd;split at hf
   .rename_i hl;cases hf
    refine⟨Z,Θ,env,C,xs,env',C',S,h1,λvs H1 k1 f1 S1 a1=>?_⟩
    have r:=Ue hd a1
    exact⟨by rw[jK r];exact uT hl,λp hp=>q _ _ (k1.trans (aX.upd hp)) f1 ((Hi S1 r hp).from k1)⟩
   .cases hf
  .cases hf
 .cases hf
def vX:FE:=λenv C=>aa (.ow (.dict []),env,C)
theorem Ug:PE X (.Dict [] [] pos) (tE X.K vX):=akJ.weak λσ H Q aN=>by
 obtain⟨Z,Θ,env,C,r,env',C',S,hf,q⟩:=aN
 cases hf;exact λp hp=>q _ _ (aX.upd hp) (Fz.refl _) (amv (vs:=[]) S (λ_ z=>nomatch z) (.inl ⟨[],rfl,eN⟩) rfl hp)
end
def lX(K:aJ)(r:List V->Hp->VK->Prop)(op:List au->Option Vl):Prop:=
 ∀(Z Θ:List aq)(env:En)(C:Ce)(σ:St)(H:Hp)(xs:List V)(ds:List au)(res:Vl),Sm K Z Θ env C σ H->N5 Z Θ env σ H ds xs->op ds=aa res->
  ∀Q:VK,(∀v H',aX Θ H H'->Res K Z Θ env C σ H H' res v->Q v H')->r xs H Q
def eY(op:List au->Option Vl)(g:zb):FE:=λenv C=>match g env C with
 |some (ds,e',C')=>match op ds with
  |some r=>aa (r,rst r env e',C')
  |none=>aj
 |none=>aj
theorem abL{K:aJ}{r:List V->Hp->VK->Prop}{op:List au->Option Vl}(L:lX K r op){g:zb}:∀σ H Q,tE K (eY op g) σ H Q->Xe r (zc K g) σ H Q:=by
 rintro σ H Q ⟨Z,Θ,env,C,res,env',C',S,hf,q⟩;unfold eY at hf;split at hf
 .rename_i ds e1 C1 h1;split at hf
  .rename_i r0 h2;cases hf
   refine⟨Z,Θ,env,C,ds,e1,C',S,h1,λvs H1 k1 f1 S1 b1=>L Z Θ e1 C' σ H1 vs ds res S1 b1 h2 Q λz H2 k2 R=>?_⟩
   exact q z H2 (k1.trans k2) (f1.rst res) ((R.from k1).rst S (k1.trans k2))
  .cases hf
 .cases hf
section
variable{X:Cx}{x:Str}{p pos:Pos}{e:Expr}{es:List Expr}{g:zb}{id T:String}{r:List V->Hp->VK->Prop}{op:List au->Option Vl}
theorem jq(hc:gQ X (.builtin id) r)(L:lX X.K r op)(hg:Gl X x)(hm:X.mg x=aj)(hv:uM x=aa (.builtin id))(ha:PA X (e::es) (zc X.K g))(hn:x≠"__name__":=by decide)(hdb:(x==("__debug__":Str))=aF:=by decide)
  (he:bC (e::es) X.env=(aF,eval e X.env)::bC es X.env:=by rfl)(hpl:(f9 pos (bC es X.env)).any (·.1)=aF:=by rfl):PE X (.Call (.Name x p) (e::es) [] pos) (tE X.K (eY op g)):=(Lr hc hg hm hv ha hn hdb he hpl).weak (abL L)
theorem z6(hc:gQ X (.type T) r)(L:lX X.K r op)(hg:Gl X x)(hm:X.mg x=aj)(hv:uM x=aa (.type T))(ha:PA X (e::es) (zc X.K g))(hn:x≠"__name__":=by decide)(hdb:(x==("__debug__":Str))=aF:=by decide)
  (he:bC (e::es) X.env=(aF,eval e X.env)::bC es X.env:=by rfl)(hpl:(f9 pos (bC es X.env)).any (·.1)=aF:=by rfl):PE X (.Call (.Name x p) (e::es) [] pos) (tE X.K (eY op g)):=(ajG hc hg hm hv ha hn hdb he hpl).weak (abL L)
end
abbrev FN:=List Vl->Ce->Option (Vl×Ce)
def yP:Vl->Bool
 |.tp _ _ _=>ao
 |_=>aF
def Oi(K:aJ)(Z Θ:List aq)(C:Ce)(H H':Hp):Vl->V->Prop
 |.tp p d q,v=>∃t a vs us,v=.ref t/\H' t=aa (.tup (vs++.ref a::us))/\H a=aj/\Sm K (a::Z) Θ [] C [] H'/\kW (er (aY (a::Z) Θ [] []) H') H' a d/\cB (er (aY (a::Z) Θ [] []) H') p vs/\cB (er (aY (a::Z) Θ [] []) H') q us
 |r,v=>Res K Z Θ [] C [] H H' r v
theorem Oi.res{K:aJ}{Z Θ:List aq}{C:Ce}{H H':Hp}{r:Vl}{v:V}(n:yP r=aF)(h:Oi K Z Θ C H H' r v):Res K Z Θ [] C [] H H' r v:=by
 cases r<;>first|exact h|cases n
def spT(K:aJ)(f:FN):Sp:=λvs H Q _=>∃Z Θ C xs r C',Sm K Z Θ [] C [] H/\pC K (er (aY Z Θ [] []) H) Θ xs vs/\f xs C=aa (r,C')/\
 ∀v H',aX Θ H H'->Oi K Z Θ C' H H' r v->Q v H'
def bN(f:FN)(g:FA):FE:=λenv C=>match g env C with
 |some (xs,e',C1)=>match f xs C1 with
  |some (r,C2)=>if yP r then aj else aa (r,rst r env e',C2)
  |none=>aj
 |none=>aj
theorem rR(h:∀a,a∈P↔a∈P'):er P H=er P' H:=by
 funext b;unfold er;by_cases hb:b∈P
 .rw[aV hb,aV ((h b).mp hb)]
 .rw[bf hb,bf (λz=>hb ((h b).mpr z))]
theorem Va(a:aq):a∈aY (Z++bT env σ) Θ [] []↔a∈aY Z Θ env σ:=by
 simp only[aY,bT,dD,jd];constructor
 .rintro((h|h)|h)
  .exact .inl h
  .exact .inr (.inr h)
  .exact .inr (.inl h)
 .rintro(h|h|h)
  .exact .inl (.inl h)
  .exact .inr h
  .exact .inl (.inr h)
section
variable{K:aJ}{Z Θ:List aq}{env:En}{C C':Ce}{σ:St}{H H':Hp}{a:aq}
theorem Sm.Az(S:Sm K Z Θ env C σ H)(ha:H a=aj)(k:aX Θ H H')(h':NT (H' a))(c:p7 Θ C' H'):Sm K (a::Z) Θ env C' σ H':=by
 have sm:bJ (er (aY Z Θ env σ) H) (er (aY (a::Z) Θ env σ) H'):=mF k S.sW λb m=>by
  rcases bY.mp m with rfl|m
  .exact .inr ha
  .exact .inl m
 refine⟨S.len,je.mpr ⟨λm=>S.Bj a m ha,S.nd⟩,λb m=>?_,λi x e=>?_,c⟩
 .rcases bY.mp m with rfl|m
  .exact h'
  .obtain⟨u,e,n⟩:=S.dom b m
   exact⟨u,k.keep _ _ e λz=>by
    have h:=S.nd;rw[kE] at h;exact h.2.2 b m b (gO _ z) rfl,n⟩
 .obtain⟨v,e1,r⟩:=S.slot i x e
  refine⟨v,e1,r.same sm λd b ex ev o' ho=>k.keep _ _ ho ?_⟩
  subst ex ev
  exact(S.nH (nC.mpr ⟨i,d,e,e1⟩)).2
theorem Sm.bare(S:Sm K Z Θ env C σ H):Sm K (Z++bT env σ) Θ [] C [] H:=by
 refine⟨rfl,?_,λb m=>?_,λi x e=>by simp at e,S.cell⟩
 .have h:=S.nd
  show((Z++bT env σ)++(Θ++[])).Nodup
  rw[jd,lA];have p:(Z++(Θ++bT env σ)).Perm (Z++(bT env σ++Θ)):=agB Z List.perm_append_comm;exact p.nodup h
 .rcases dD.mp m with m|m
  .exact S.dom b m
  .exact S.Pb b (fK _ (fK _ m))
theorem Res.back(S:Sm K Z Θ env C σ H)(k:aX Θ H H')(h:Res K (Z++bT env σ) Θ [] C' [] H H' r v):Res K Z Θ env C' σ H H' r v:=by
 have e1:er (aY (Z++bT env σ) Θ [] []) H'=er (aY Z Θ env σ) H':=rR Va;cases r with
 |im d=>
  obtain⟨S',r⟩:=h
  rw[e1] at r
  exact⟨S.go k S'.cell,r⟩
 |ow d=>
  obtain⟨a,rfl,hn,S',r⟩:=h
  have e2:er (aY (a::(Z++bT env σ)) Θ [] []) H'=er (aY (a::Z) Θ env σ) H':=rR λb=>by
   show b∈a::aY (Z++bT env σ) Θ [] []↔b∈a::aY Z Θ env σ;rw[bY,bY,Va]
  rw[e2] at r
  exact⟨a,rfl,hn,S.Az hn k (S'.dom a dg) S'.cell,r⟩
 |ce n=>exact⟨S.go k h.1.cell,h.2⟩
 |sc ns=>
  obtain⟨S',a,rfl,q⟩:=h
  rw[e1] at q
  exact⟨S.go k S'.cell,a,rfl,q⟩
 |tp=>exact h
end
section
variable{X:Cx}{x:Str}{k:Nat}{ps:List Str}{p pos:Pos}{e:Expr}{es:List Expr}{f:FN}{g:FA}
theorem ak3{K:aJ}:∀σ H Q,tE K (bN f g) σ H Q->NK (spT K f) [] E0 (vp K g) σ H Q:=by
 rintro σ H Q ⟨Z,Θ,env,C,res,env',C',S,hf,q⟩;unfold bN at hf;split at hf
 .rename_i xs e1 C1 h1;split at hf
  .rename_i r C2 h2;split at hf
   .cases hf
   rename_i nt;cases hf
   refine⟨Z,Θ,env,C,xs,e1,C1,S,h1,λvs H1 k1 f1 S1 a1=>?_⟩
   show spT K f (vs++[]) H1 Q E0;rw[jd];have e2:er (aY (Z++bT e1 σ) Θ [] []) H1=er (aY Z Θ e1 σ) H1:=rR Va;rw[<-e2] at a1
   exact⟨Z++bT e1 σ,Θ,C1,xs,res,C',S1.bare,a1,h2,λv H2 k2 R=>q v H2 (k1.trans k2) (f1.rst res) (((Res.back S1 k2 (R.res (ahb.mpr nt))).from k1).rst S (k1.trans k2))⟩
  .cases hf
 .cases hf
theorem bZ(F:cZ X.prog X.w X.K X.mg X.base x k ps (spT X.K f))(hr:jh k X.A)(hg:Gl X x)(ha:PA X (e::es) (vp X.K g))(hdb:(x==("__debug__":Str))=aF:=by decide)
  (he:bC (e::es) X.env=(aF,eval e X.env)::bC es X.env:=by rfl)(hpl:(f9 pos (bC es X.env)).any (·.1)=aF:=by rfl):PE X (.Call (.Name x p) (e::es) [] pos) (tE X.K (bN f g)):=(aey F hr hg ha hdb he hpl).weak ak3
end
theorem Tn:∀{env:En}{σ:St},(∀(i j:Nat)(d e:au)(a:aq),env[i]?=aa (aa (Vl.ow d))->σ[i]?=aa (aa (V.ref a))->env[j]?=aa (aa (Vl.ow e))->σ[j]?=aa (aa (V.ref a))->i=j)->(bT env σ).Nodup
 |[],σ,_=>by cases σ<;>exact mj
 |_::_,[],_=>mj
 |x::en,v::s,h=>by
  rw[bT,kE]
  refine⟨?_,Tn λi j d e a h1 h2 h3 h4=>?_,λa ha b hb e=>?_⟩
  .unfold own1;split
   .exact je.mpr ⟨by simp,mj⟩
   .exact mj
  .have:=h (i+1) (j+1) d e a (by simpa using h1) (by simpa using h2) (by simpa using h3) (by simpa using h4);lia
  .subst e;unfold own1 at ha;split at ha
   .rw[jb] at ha;subst ha
    obtain⟨j,d,h1,h2⟩:=nC.mp hb
    have:=h 0 (j+1) _ d a rfl rfl (by simpa using h1) (by simpa using h2);lia
   .simp at ha
theorem get_set{α:Type}{l:List α}{i j:Nat}{x y:α}(h:(l.set i x)[j]?=aa y):(j=i/\y=x/\i<l.length)\/(j≠i/\l[j]?=aa y):=by
 by_cases e:i=j
 .subst e;rw[Fv,aV rfl] at h;split at h
  .rename_i hl;cases h;exact .inl ⟨rfl,rfl,hl⟩
  .cases h
 .rw[xx e] at h;exact .inr ⟨λz=>e z.symm,h⟩
theorem ac1{α:Type}{l:List α}{i:Nat}{x:α}(h:i<l.length):(l.set i x)[i]?=aa x:=by
 rw[Fv,aV rfl,aV h]
theorem Ad{env:En}{σ:St}{i:Nat}{x:Vl}{v:V}{a:aq}(h:a∈bT (env.set i (aa x)) (σ.set i (aa v))):a∈bT env σ\/(∃d,x=.ow d)/\v=.ref a:=by
 obtain⟨j,d,h1,h2⟩:=nC.mp h
 rcases get_set h1 with⟨rfl,e,_⟩|⟨n,h1⟩
 .rcases get_set h2 with⟨_,e2,_⟩|⟨n,_⟩
  .cases e;cases e2;exact .inr ⟨⟨d,rfl⟩,rfl⟩
  .exact absurd rfl n
 .rcases get_set h2 with⟨e,_,_⟩|⟨_,h2⟩
  .exact absurd e n
  .exact .inl (nC.mpr ⟨j,d,h1,h2⟩)
section
variable{K:aJ}{Z Θ:List aq}{env:En}{C:Ce}{σ:St}{H:Hp}{a:aq}{i:Nat}{v:V}
theorem Sm.c7(S:Sm K Z Θ env C σ H):Z.Nodup/\Θ.Nodup/\(bT env σ).Nodup/\(∀b∈Z,b∉Θ):=by
 have h:=S.nd;rw[kE,kE] at h
 obtain⟨h1,⟨h2,h3,_⟩,h4⟩:=h
 exact⟨h1,h2,h3,λb m m'=>h4 b m b (gO _ m') rfl⟩
theorem zf(h1:Z.Nodup)(h2:Θ.Nodup)(h3:O.Nodup)(h4:∀b∈Z,b∉Θ)(h5:∀b∈O,b∉Z/\b∉Θ):(Z++(Θ++O)).Nodup:=by
 rw[kE,kE]
 refine⟨h1,⟨h2,h3,λb m c m' e=>?_⟩,λb m c m' e=>?_⟩
 .subst e;exact(h5 b m').2 m
 .subst e;rcases dD.mp m' with m'|m'
  .exact h4 b m m'
  .exact(h5 b m').1 m
theorem Sm.Er(S:Sm K Z Θ env C σ H){x:Vl}(hx:∀d,x≠.ow d)(r:Eo K (er (aY Z Θ env σ) H) H Θ x v):Sm K Z Θ (env.set i (aa x)) C (σ.set i (aa v)) H:=by
 have sub:∀b,b∈bT (env.set i (aa x)) (σ.set i (aa v))->b∈bT env σ:=λb m=>by
  rcases Ad m with m|⟨⟨d,e⟩,_⟩
  .exact m
  .exact absurd e (hx d)
 have c7:=S.c7;have sm:bJ (er (aY Z Θ env σ) H) (er (aY Z Θ (env.set i (aa x)) (σ.set i (aa v))) H):=tX λb m=>by
  rcases dD.mp m with m|m
  .exact gO _ m
  .rcases dD.mp m with m|m
   .exact fK _ (gO _ m)
   .exact fK _ (fK _ (sub b m))
 refine⟨by rw[xN,xN];exact S.len,?_,S.dom,λj y e=>?_,S.cell⟩
 .refine zf c7.1 c7.2.1 (Tn λp q d e b h1 h2 h3 h4=>?_) c7.2.2.2 λb m=>S.nH (sub b m)
  rcases get_set h1 with⟨rfl,e1,_⟩|⟨n1,h1⟩
  .cases e1;exact absurd rfl (hx d)
  .rcases get_set h3 with⟨rfl,e1,_⟩|⟨n2,h3⟩
   .cases e1;exact absurd rfl (hx e)
   .rcases get_set h2 with⟨e2,_,_⟩|⟨_,h2⟩
    .exact absurd e2 n1
    .rcases get_set h4 with⟨e4,_,_⟩|⟨_,h4⟩
     .exact absurd e4 n2
     .exact Hh c7.2.2.1 h1 h2 h3 h4
 .rcases get_set e with⟨rfl,e1,hl⟩|⟨n,e⟩
  .cases e1
   exact⟨v,ac1 (by rw[S.len];exact hl),r.same sm λd b ex _=>absurd ex (hx d)⟩
  .obtain⟨u,e1,r1⟩:=S.slot j y e
   exact⟨u,by rw[xx (lO n)];exact e1,r1.same sm λ_ _ _ _ _ h=>h⟩
theorem Sm.afe(S:Sm K (a::Z) Θ env C σ H){d:au}(r:kW (er (aY (a::Z) Θ env σ) H) H a d):Sm K Z Θ (env.set i (aa (.ow d))) C (σ.set i (aa (.ref a))) H:=by
 have sub:∀b,b∈bT (env.set i (aa (.ow d))) (σ.set i (aa (.ref a)))->b∈bT env σ\/b=a:=λb m=>by
  rcases Ad m with m|⟨_,e⟩
  .exact .inl m
  .cases e;exact .inr rfl
 have c7:=S.c7;have Jh:=je.mp c7.1;have sm:bJ (er (aY (a::Z) Θ env σ) H) (er (aY Z Θ (env.set i (aa (.ow d))) (σ.set i (aa (.ref a)))) H):=tX λb m=>by
  rcases dD.mp m with m|m
  .exact gO _ (dZ _ m)
  .rcases dD.mp m with m|m
   .exact fK _ (gO _ m)
   .rcases sub b m with m|rfl
    .exact fK _ (fK _ m)
    .exact gO _ dg
 have afg:a∉bT env σ:=λm=>(S.nH m).1 dg
 refine⟨by rw[xN,xN];exact S.len,?_,λb m=>S.dom b (dZ _ m),λj y e=>?_,S.cell⟩
 .refine zf Jh.2 c7.2.1 (Tn λp q d1 e b h1 h2 h3 h4=>?_) (λb m=>c7.2.2.2 b (dZ _ m)) λb m=>?_
  .rcases get_set h1 with⟨rfl,e1,_⟩|⟨n1,h1⟩
   .rcases get_set h3 with⟨e3,_,_⟩|⟨n2,h3⟩
    .exact e3.symm
    .rcases get_set h2 with⟨_,e2,_⟩|⟨n,_⟩
     .cases e2;rcases get_set h4 with⟨e4,_,_⟩|⟨_,h4⟩
      .exact e4.symm
      .exact absurd (nC.mpr ⟨q,e,h3,h4⟩) afg
     .exact absurd rfl n
   .rcases get_set h2 with⟨e2,_,_⟩|⟨_,h2'⟩
    .exact absurd e2 n1
    .have mp:=nC.mpr ⟨p,d1,h1,h2'⟩;rcases get_set h3 with⟨rfl,e3,_⟩|⟨n2,h3⟩
     .rcases get_set h4 with⟨_,e4,_⟩|⟨n,_⟩
      .cases e4;exact absurd mp afg
      .exact absurd rfl n
     .rcases get_set h4 with⟨e4,_,_⟩|⟨_,h4⟩
      .exact absurd e4 n2
      .exact Hh c7.2.2.1 h1 h2' h3 h4
  .rcases sub b m with m|rfl
   .obtain⟨p,q⟩:=S.nH m
    exact⟨λz=>p (dZ _ z),q⟩
   .exact⟨Jh.1,c7.2.2.2 b dg⟩
 .rcases get_set e with⟨rfl,e1,hl⟩|⟨n,e⟩
  .cases e1
   exact⟨_,ac1 (by rw[S.len];exact hl),a,rfl,r.same sm λ_ h=>h⟩
  .obtain⟨u,e1,r1⟩:=S.slot j y e
   exact⟨u,by rw[xx (lO n)];exact e1,r1.same sm λ_ _ _ _ _ h=>h⟩
theorem Res.set(h:Res K Z Θ env C σ H0 H r v):Sm K Z Θ (env.set i (aa r)) C (σ.set i (aa v)) H:=by
 cases r with
 |im d=>exact h.1.Er (λ_ e=>nomatch e) h.2
 |ow d=>obtain⟨a,rfl,_,S,r⟩:=h;exact S.afe r
 |ce n=>exact h.1.Er (λ_ e=>nomatch e) h.2
 |sc ns=>exact h.1.Er (λ_ e=>nomatch e) h.2
 |tp=>exact h.elim
end
inductive Fl where
 |nx|rt (r:Vl)|bk|ct
abbrev FS:=En->Ce->Option (Fl×En×Ce)
structure lK(Θ Θ':List aq)(H:Hp):Prop where
 ex:∃Δ,Θ'=Θ++Δ/\∀a∈Δ,H a=aj
theorem lK.refl(Θ:List aq)(H:Hp):lK Θ Θ H:=⟨[],by rw[jd],λ_ m=>nomatch m⟩
structure eZ(K:aJ)(Z Θ:List aq)(env:En)(σ:St)(H:Hp)(Θ':List aq)(env':En)(C':Ce)(σ':St)(H':Hp):Prop where
 th:lK Θ Θ' H
 kp:aX (Θ++bT env σ) H H'
 own:∀a∈bT env' σ',a∈bT env σ\/H a=aj
 sm:Sm K Z Θ' env' C' σ' H'
def N6(K:aJ)(Z Θ:List aq)(C:Ce)(own:List aq)(H H':Hp):Vl->V->Prop
 |.im d,v=>Sm K Z Θ [] C [] H'/\RZ (er (aY Z Θ [] []) H') d v
 |.ow d,v=>∃a,v=.ref a/\(a∈own\/H a=aj)/\Sm K (a::Z) Θ [] C [] H'/\kW (er (aY (a::Z) Θ [] []) H') H' a d
 |.ce n,v=>Sm K Z Θ [] C [] H'/\∃a,v=.ref a/\Θ[n]?=aa a
 |.sc ns,v=>Sm K Z Θ [] C [] H'/\∃a,v=.ref a/\bO K (er (aY Z Θ [] []) H') a (ns.map V.int)
 |.tp p d q,v=>∃t a vs us,v=.ref t/\H' t=aa (.tup (vs++.ref a::us))/\(a∈own\/H a=aj)/\Sm K (a::Z) Θ [] C [] H'/\kW (er (aY (a::Z) Θ [] []) H') H' a d/\cB (er (aY (a::Z) Θ [] []) H') p vs/\cB (er (aY (a::Z) Θ [] []) H') q us
structure Xn(K:aJ)(Z Θ:List aq)(env:En)(σ:St)(H:Hp)(Θ':List aq)(C':Ce)(r:Vl)(v:V)(H':Hp):Prop where
 th:lK Θ Θ' H
 kp:aX (Θ++bT env σ) H H'
 ok:N6 K Z Θ' C' (bT env σ) H H' r v
def Oj(K:aJ)(Z Θ:List aq)(env:En)(σ:St)(H:Hp)(env':En)(C':Ce)(D:Ends):Fl->Prop
 |.nx=>∀Θ' σ' H',eZ K Z Θ env σ H Θ' env' C' σ' H'->D.nx σ' H'
 |.bk=>∀Θ' σ' H',eZ K Z Θ env σ H Θ' env' C' σ' H'->D.bk σ' H'
 |.ct=>∀Θ' σ' H',eZ K Z Θ env σ H Θ' env' C' σ' H'->D.ct σ' H'
 |.rt r=>∀Θ' v H',Xn K Z Θ env σ H Θ' C' r v H'->D.rt v H'
inductive tS(K:aJ)(f:FS)(D:Ends)(σ:St)(H:Hp):Prop
 |mk (Z Θ:List aq) (env:En) (C:Ce) (fl:Fl) (env':En) (C':Ce) (S:Sm K Z Θ env C σ H) (hf:f env C=aa (fl,env',C')) (q:Oj K Z Θ env σ H env' C' D fl):tS K f D σ H
section
variable{K:aJ}{Z Θ Θ1 Θ2:List aq}{env e1 e2:En}{C C1 C2:Ce}{σ σ1 σ2:St}{H H1 H2:Hp}
theorem lK.trans(h:lK Θ Θ1 H)(k:∀a,H a≠aj->H1 a≠aj)(g:lK Θ1 Θ2 H1):lK Θ Θ2 H:=by
 obtain⟨Δ,e,n⟩:=h.ex
 obtain⟨Δ',e',n'⟩:=g.ex
 refine⟨Δ++Δ',by rw[e',e,lA],λa m=>?_⟩
 rcases dD.mp m with m|m
 .exact n a m
 .cases h:H a with
  |none=>rfl
  |some o=>exact absurd (n' a m) (k a (by rw[h];exact xH _))
theorem abM(th:lK Θ Θ1 H)(k1:aX (Θ++bT env σ) H H1)(ow:∀a∈bT e1 σ1,a∈bT env σ\/H a=aj)(k2:aX (Θ1++bT e1 σ1) H1 H2):aX (Θ++bT env σ) H H2:=by
 refine⟨λa o e n=>k2.keep a o (k1.keep a o e n) λm=>n ?_,λa e=>k2.dom a (k1.dom a e)⟩
 have hn:H a≠aj:=by rw[e];exact xH _
 rcases dD.mp m with m|m
 .obtain⟨Δ,e',n'⟩:=th.ex
  rw[e'] at m;rcases dD.mp m with m|m
  .exact gO _ m
  .exact absurd (n' a m) hn
 .rcases ow a m with m|m
  .exact fK _ m
  .exact absurd m hn
theorem eZ.trans(p:eZ K Z Θ env σ H Θ1 e1 C1 σ1 H1)(q:eZ K Z Θ1 e1 σ1 H1 Θ2 e2 C2 σ2 H2):eZ K Z Θ env σ H Θ2 e2 C2 σ2 H2 where
 th:=p.th.trans p.kp.dom q.th
 kp:=abM p.th p.kp p.own q.kp
 own:=λa m=>by
  rcases q.own a m with m|m
  .exact p.own a m
  .exact .inr (p.kp.none m)
 sm:=q.sm
theorem eZ.ret(p:eZ K Z Θ env σ H Θ1 e1 C1 σ1 H1)(q:Xn K Z Θ1 e1 σ1 H1 Θ2 C2 r v H2):Xn K Z Θ env σ H Θ2 C2 r v H2 where
 th:=p.th.trans p.kp.dom q.th
 kp:=abM p.th p.kp p.own q.kp
 ok:=by
  have h:=q.ok;cases r with
  |im d=>exact h
  |ow d=>
   obtain⟨a,e,m,S,r⟩:=h
   refine⟨a,e,?_,S,r⟩
   rcases m with m|m
   .exact p.own a m
   .exact .inr (p.kp.none m)
  |ce n=>exact h
  |sc ns=>exact h
  |tp=>
   obtain⟨t,a,vs,us,e,e',m,R⟩:=h
   exact⟨t,a,vs,us,e,e',m.elim (p.own a) λm=>.inr (p.kp.none m),R⟩
theorem Oj.trans(p:eZ K Z Θ env σ H Θ1 e1 C1 σ1 H1)(h:Oj K Z Θ env σ H e2 C2 D fl):Oj K Z Θ1 e1 σ1 H1 e2 C2 D fl:=by
 cases fl with
 |nx=>exact λΘ' σ' H' q=>h Θ' σ' H' (p.trans q)
 |bk=>exact λΘ' σ' H' q=>h Θ' σ' H' (p.trans q)
 |ct=>exact λΘ' σ' H' q=>h Θ' σ' H' (p.trans q)
 |rt r=>exact λΘ' v H' q=>h Θ' v H' (p.ret q)
theorem yh(k:aX Θ H H1):aX (Θ++O) H H1:=⟨λa o e n=>k.keep a o e λm=>n (gO _ m),k.dom⟩
theorem eZ.uz(k:aX Θ H H1)(f:Fz env e1)(S:Sm K Z Θ e1 C1 σ H1):eZ K Z Θ env σ H Θ e1 C1 σ H1:=
 ⟨lK.refl _ _,yh k,λa m=>.inl (f.own.subset m),S⟩
end
def iR:FS:=λenv C=>aa (.nx,env,C)
def bG(f g:FS):FS:=λenv C=>match f env C with
 |some (.nx,e1,C1)=>g e1 C1
 |r=>r
def gW(c:FT)(f g:FS):FS:=λenv C=>match c env C with
 |some (true,C1)=>f env C1
 |some (false,C1)=>g env C1
 |none=>aj
def dX(f:FE):FS:=λenv C=>match f env C with
 |some (r,e1,C1)=>aa (.rt r,e1,C1)
 |none=>aj
def oJ(i:Nat):FS:=λenv C=>match env[i]? with
 |some (some x)=>aa (.rt x,env,C)
 |_=>aj
def dH(i:Nat)(f:FE):FS:=λenv C=>match f env C with
 |some (r,e1,C1)=>aa (.nx,e1.set i (aa r),C1)
 |none=>aj
section
variable{X:Cx}{st:cX}{rest:List cX}{pos:Pos}
theorem eZ.same{K:aJ}{Z Θ:List aq}{env:En}{C:Ce}{σ:St}{H:Hp}(S:Sm K Z Θ env C σ H):eZ K Z Θ env σ H Θ env C σ H:=eZ.uz (aX.refl _ _) (Fz.refl _) S
theorem jA:jO X [] (tS X.K iR):=alZ.weak λD σ H aN=>by
 obtain⟨Z,Θ,env,C,fl,env',C',S,hf,q⟩:=aN
 cases hf;exact q Θ σ H (eZ.same S)
theorem bV(h:PS X st (tS X.K f)):jO X [st] (tS X.K f):=al0 h
theorem ak4{K:aJ}{f g:FS}:∀D σ H,tS K (bG f g) D σ H->aeR (tS K f) (tS K g) D σ H:=by
 rintro D σ H ⟨Z,Θ,env,C,fl,env',C',S,hf,q⟩;unfold bG at hf;split at hf
 .rename_i e1 C1 h1
  exact⟨Z,Θ,env,C,.nx,e1,C1,S,h1,λΘ1 σ1 H1 p=>⟨Z,Θ1,e1,C1,fl,env',C',p.sm,hf,q.trans p⟩⟩
 .rename_i hne
  refine⟨Z,Θ,env,C,fl,env',C',S,hf,?_⟩
  cases fl with
  |nx=>exact absurd hf (hne _ _)
  |bk=>exact q
  |ct=>exact q
  |rt r=>exact q
theorem bK(h:PS X st (tS X.K f))(hr:jO X rest (tS X.K g)):jO X (st::rest) (tS X.K (bG f g)):=(akz h hr).weak ak4
theorem jB(hc:PT X c (fX X.K t))(ha:jO X a (tS X.K f))(hb:jO X b (tS X.K g)):PS X (.If c a b pos) (tS X.K (gW t f g)):=(ao0 hc ha hb).weak λD σ H aN=>by
 obtain⟨Z,Θ,env,C,fl,env',C',S,hf,q⟩:=aN
 unfold gW at hf;split at hf
 .rename_i C1 h1
  exact⟨Z,Θ,env,C,ao,C1,S,h1,λH1 k1 S1=>yL ⟨Z,Θ,env,C1,fl,env',C',S1,hf,q.trans (eZ.uz k1 (Fz.refl _) S1)⟩⟩
 .rename_i C1 h1
  exact⟨Z,Θ,env,C,aF,C1,S,h1,λH1 k1 S1=>yK ⟨Z,Θ,env,C1,fl,env',C',S1,hf,q.trans (eZ.uz k1 (Fz.refl _) S1)⟩⟩
 .cases hf
theorem Sm.none{K:aJ}{Z Θ:List aq}{env:En}{C:Ce}{σ:St}{H:Hp}(S:Sm K Z Θ env C σ H):Sm K Z Θ [] C [] H:=by
 have c7:=S.c7
 exact⟨rfl,zf c7.1 c7.2.1 mj c7.2.2.2 (λ_ m=>nomatch m),S.dom,λi x e=>by simp at e,S.cell⟩
theorem GP:bJ (er (aY Z Θ env σ) H) (er (aY Z Θ [] []) H):=tX λb m=>by
 rcases dD.mp m with m|m
 .exact gO _ m
 .rcases dD.mp m with m|m
  .exact fK _ (gO _ m)
  .nomatch m
theorem Res.ret{K:aJ}{Z Θ:List aq}{env:En}{C:Ce}{σ:St}{H H':Hp}{O:List aq}{r:Vl}{v:V}(h:Res K Z Θ env C σ H H' r v):N6 K Z Θ C O H H' r v:=by
 cases r with
 |im d=>exact⟨h.1.none,h.2.same GP⟩
 |ow d=>obtain⟨a,e,n,S,r⟩:=h;exact⟨a,e,.inr n,S.none,r.same GP λ_ h=>h⟩
 |ce n=>exact⟨h.1.none,h.2⟩
 |sc ns=>obtain⟨S,a,e,q⟩:=h;exact⟨S.none,a,e,GP.seq q⟩
 |tp=>exact h.elim
theorem eV(h:PE X e (tE X.K f)):PS X (.Return (aa e) pos) (tS X.K (dX f)):=(adH h).weak λD σ H aN=>by
 obtain⟨Z,Θ,env,C,fl,env',C',S,hf,q⟩:=aN
 unfold dX at hf;split at hf
 .rename_i r e1 C1 h1;cases hf
  exact⟨Z,Θ,env,C,r,env',C',S,h1,λv H1 k f R=>q Θ v H1 ⟨lK.refl _ _,yh k,R.ret⟩⟩
 .cases hf
theorem tQ(h:PE X e (sH i)):PS X (.Return (aa e) pos) (tS X.K (oJ i)):=(adH h).weak λD σ H aN=>by
 obtain⟨Z,Θ,env,C,fl,env',C',S,hf,q⟩:=aN
 unfold oJ at hf;split at hf
 .rename_i x hx;cases hf
  obtain⟨v,e1,r⟩:=S.slot i x hx
  refine⟨v,e1,q Θ v H ⟨lK.refl _ _,aX.refl _ _,?_⟩⟩
  cases x with
  |im d=>exact⟨S.none,RZ.same GP r⟩
  |ow d=>
   obtain⟨a,rfl,r⟩:=r
   have m:a∈bT env σ:=nC.mpr ⟨i,d,hx,e1⟩;have sm:bJ (er (aY Z Θ env σ) H) (er (aY (a::Z) Θ [] []) H):=tX λb mb=>by
    rcases dD.mp mb with mb|mb
    .rcases bY.mp mb with rfl|mb
     .exact fK _ (fK _ m)
     .exact gO _ mb
    .rcases dD.mp mb with mb|mb
     .exact fK _ (gO _ mb)
     .nomatch mb
   have c7:=S.c7
   refine⟨a,rfl,.inl m,⟨rfl,zf (je.mpr ⟨(S.nH m).1,c7.1⟩) c7.2.1 mj (λb mb=>?_) (λ_ m=>nomatch m),λb mb=>?_,λi x e=>by simp at e,S.cell⟩,r.same sm λ_ h=>h⟩
   .rcases bY.mp mb with rfl|mb
    .exact(S.nH m).2
    .exact c7.2.2.2 b mb
   .rcases bY.mp mb with rfl|mb
    .exact r.nt
    .exact S.dom b mb
  |ce n=>exact⟨S.none,r⟩
  |sc ns=>obtain⟨a,e,q⟩:=r;exact⟨S.none,a,e,GP.seq q⟩
  |tp=>exact r.elim
 .cases hf
theorem Uh{K:aJ}{i:Nat}{t:TE}{f:FE}(w:∀σ H Q,tE K f σ H Q->t σ H Q):∀D σ H,tS K (dH i f) D σ H->Il t (Am i) D σ H:=by
 rintro D σ H ⟨Z,Θ,env,C,fl,env',C',S,hf,q⟩;unfold dH at hf;split at hf
 .rename_i r e1 C1 h1;cases hf;refine w _ _ _ ⟨Z,Θ,env,C,r,e1,C',S,h1,λv H1 k f R=>q Θ _ H1 ⟨lK.refl _ _,yh k,λa m=>?_,R.set⟩⟩;rcases Ad m with m|⟨⟨d,e⟩,e2⟩
  .exact .inl (f.own.subset m)
  .subst e
   obtain⟨b,e3,n,_⟩:=R
   rw[e2] at e3;cases e3;exact .inr n
 .cases hf
theorem gM(hN:X.N.Nodup)(hi:X.N[i]?=aa x)(hx:Loc X.env.scope x)(he:PE X e (tE X.K f))(hs:xV e (aa (.Name x pos')) pos.line X.env=pure aF:=by rfl)(hf:X.fn x=ao\/X.env.scope.names.lookup x=aa .local:=by first|exact .inl rfl|exact .inr rfl|assumption):
  PS X (.Assign [.Name x pos'] e pos) (tS X.K (dH i f)):=(anH hN hi hx he hs hf).weak (Uh λ_ _ _ h=>h)
end
abbrev FG:=au->En->Option En
abbrev Ji:=List au->En->Option En
def Ey(K:aJ)(g:TG)(fg:FG):Prop:=∀(Z Θ:List aq)(env:En)(C:Ce)(σ:St)(H:Hp)(v:V)(d:au)(env':En),Sm K Z Θ env C σ H->RZ (er (aY Z Θ env σ) H) d v->fg d env=aa env'->
 ∀Q:St->Hp->Prop,(∀σ',Sm K Z Θ env' C σ' H->(∀a∈bT env' σ',a∈bT env σ)->Q σ' H)->g v σ H Q
def Ol(K:aJ)(g:wU)(fg:Ji):Prop:=∀(Z Θ:List aq)(env:En)(C:Ce)(σ:St)(H:Hp)(vs:List V)(ds:List au)(env':En),Sm K Z Θ env C σ H->cB (er (aY Z Θ env σ) H) ds vs->fg ds env=aa env'->
 ∀Q:St->Hp->Prop,(∀σ',Sm K Z Θ env' C σ' H->(∀a∈bT env' σ',a∈bT env σ)->Q σ' H)->g vs σ H Q
def dz(i:Nat):FG:=λd env=>aa (env.set i (aa (.im d)))
def Ba:Ji:=λds env=>match ds with
 |[]=>aa env
 |_=>aj
def qe(g:FG)(u:Ji):Ji:=λds env=>match ds with
 |d::r=>match g d env with
  |some e1=>u r e1
  |none=>aj
 |[]=>aj
def BR(n:Nat)(u:Ji):FG:=λd env=>match d with
 |.tuple ds=>if ds.length=n then u ds env else aj
 |_=>aj
theorem adY(h:∀a∈bT e1 σ1,a∈bT env σ):bJ (er (aY Z Θ env σ) H) (er (aY Z Θ e1 σ1) H):=tX λb m=>by
 rcases dD.mp m with m|m
 .exact gO _ m
 .rcases dD.mp m with m|m
  .exact fK _ (gO _ m)
  .exact fK _ (fK _ (h b m))
section
variable{K:aJ}
theorem jR:Ey K (Am i) (dz i):=by
 intro Z Θ env C σ H v d env' S r e Q q;cases e;refine q _ (S.Er (λ_ z=>nomatch z) r) λa m=>?_
 rcases Ad m with m|⟨⟨_,z⟩,_⟩
 .exact m
 .cases z
theorem Mz:Ol K WL Ba:=by
 intro Z Θ env C σ H vs ds env' S r e Q q;unfold Ba at e;split at e
 .cases e
  exact⟨r,q _ S λ_ m=>m⟩
 .cases e
theorem tL(h:Ey K g fg)(hu:Ol K u fu):Ol K (We g u) (qe fg fu):=by
 intro Z Θ env C σ H vs ds env' S r e Q q;unfold qe at e;split at e
 .rename_i d r'
  obtain⟨v,ws,rfl,r1,r2⟩:=r
  split at e
  .rename_i e1 h1
   refine⟨v,ws,rfl,h Z Θ env C σ H v d e1 S r1 h1 _ λσ1 S1 o1=>?_⟩
   exact hu Z Θ e1 C σ1 H ws r' env' S1 (r2.same (adY o1)) e Q λσ2 S2 o2=>q σ2 S2 λa m=>o1 a (o2 a m)
  .cases e
 .cases e
theorem Nk(hu:Ol K u fu):Ey K (WM K n u) (BR n fu):=by
 intro Z Θ env C σ H v d env' S r e Q q;unfold BR at e;split at e
 .rename_i ds;split at e
  .rename_i hl
   obtain⟨a,vs,rfl,ha,r⟩:=r
   exact⟨a,vs,rfl,cW.of (jJ ha),(jK r).trans hl,hu Z Θ env C σ H vs ds env' S r e Q q⟩
  .cases e
 .cases e
end
def Bq(f:FE)(g:FG):FS:=λenv C=>match f env C with
 |some (r,e1,C1)=>match still r with
  |.im d=>match g d e1 with
   |some e2=>aa (.nx,e2,C1)
   |none=>aj
  |_=>aj
 |none=>aj
theorem Res.wC{K:aJ}{Z Θ:List aq}{env:En}{C:Ce}{σ:St}{H H':Hp}{r:Vl}{v:V}{d:au}(h:Res K Z Θ env C σ H H' r v)(e:L2.still r=.im d):Sm K Z Θ env C σ H'/\RZ (er (aY Z Θ env σ) H') d v:=by
 have g:=h.still;rw[e] at g;exact g
section
variable{X:Cx}{pos:Pos}
theorem Nm{tg e:Expr}{f:FE}{g:TG}{fg:FG}(he:PE X e (tE X.K f))(hg:PG X tg g)(L:Ey X.K g fg)(hs:zO [tg] e pos.line X.env=pure aF:=by rfl)(hw:zP [tg] e X.env=pure aj:=by rfl)(h1:(uN [tg] X.env).map (·.2)=[assign tg X.env]:=by rfl):
  PS X (.Assign [tg] e pos) (tS X.K (Bq f fg)):=(Vw he hg hs hw h1).weak λD σ H aN=>by
 obtain⟨Z,Θ,env,C,fl,env',C',S,hf,q⟩:=aN
 unfold Bq at hf;split at hf
 .rename_i r e1 C1 h1;split at hf
  .rename_i d hd;split at hf
   .rename_i e2 h2;cases hf
    refine⟨Z,Θ,env,C,r,e1,C',S,h1,λv H1 k f R=>?_⟩
    obtain⟨S1,r1⟩:=R.wC hd
    exact L Z Θ e1 C' σ H1 v d env' S1 r1 h2 D.nx λσ' S' o=>q Θ σ' H1 ⟨lK.refl _ _,yh k,λa m=>.inl (f.own.subset (o a m)),S'⟩
   .cases hf
  .cases hf
 .cases hf
end
inductive pG(K:aJ)(E H:Hp)(Θ:List aq):List aq->List Vl->List V->Prop
 |nil:pG K E H Θ [] [] []
 |cons {as:List aq} {x:Vl} {v:V} {xs:List Vl} {vs:List V}:wB K E Θ x v->pG K E H Θ as xs vs->pG K E H Θ as (x::xs) (v::vs)
 |own {as:List aq} {a:aq} {d:au} {xs:List Vl} {vs:List V}:kW E H a d->pG K E H Θ as xs vs->pG K E H Θ (as++[a]) (.ow d::xs) (.ref a::vs)
theorem pG.same{K:aJ}{E E' H:Hp}{Θ as:List aq}{xs:List Vl}{vs:List V}(s:bJ E E')(h:pG K E H Θ as xs vs):pG K E' H Θ as xs vs:=by
 induction h with
 |nil=>exact .nil
 |cons a _ ih=>exact .cons (a.same s) ih
 |own r _ ih=>exact .own (r.same s λ_ h=>h) ih
theorem pG.heap{K:aJ}{E H H':Hp}{Θ as:List aq}{xs:List Vl}{vs:List V}(s:bJ H H')(h:pG K E H Θ as xs vs):pG K E H' Θ as xs vs:=by
 induction h with
 |nil=>exact .nil
 |cons a _ ih=>exact .cons a ih
 |own r _ ih=>exact .own (r.same (bJ.refl _) λo ho=>s _ _ ho) ih
inductive zg(K:aJ)(f:FA)(σ:St)(H:Hp)(Q:List V->Hp->Prop):Prop
 |mk (Z Θ:List aq) (env:En) (C:Ce) (xs:List Vl) (env':En) (C':Ce) (S:Sm K Z Θ env C σ H) (hf:f env C=aa (xs,env',C')) (q:∀vs as H',aX Θ H H'->Fz env env'->(∀a∈as,H a=aj)->Sm K (as++Z) Θ env' C' σ H'->pG K (er (aY (as++Z) Θ env' σ) H') H' Θ as xs vs->Q vs H'):zg K f σ H Q
def jC(f:FE)(g:FA):FA:=λenv C=>match f env C with
 |some (r,e1,C1)=>match g e1 C1 with
  |some (xs,e2,C2)=>aa (r::xs,e2,C2)
  |none=>aj
 |none=>aj
section
variable{K:aJ}{Z Z' Θ:List aq}{env:En}{C:Ce}{σ:St}{H:Hp}
theorem iQ:a∈aY Z Θ env σ↔a∈Z\/a∈Θ\/a∈bT env σ:=by rw[dD,dD]
theorem Sm.perm(S:Sm K Z Θ env C σ H)(p:Z.Perm Z'):Sm K Z' Θ env C σ H:=by
 have e:er (aY Z Θ env σ) H=er (aY Z' Θ env σ) H:=rR λa=>by rw[iQ,iQ,p.mem_iff]
 refine⟨S.len,(List.Perm.append_right _ p).nodup S.nd,λa m=>S.dom a (p.mem_iff.mpr m),λi x h=>?_,S.cell⟩
 rw[<-e];exact S.slot i x h
end
section
variable{X:Cx}{e:Expr}{es:List Expr}{pos:Pos}
theorem tY:PA X [] (zg X.K aW):=tU.weak λσ H Q aN=>by
 obtain⟨Z,Θ,env,C,xs,env',C',S,hf,q⟩:=aN
 cases hf;exact q [] [] H (aX.refl _ _) (Fz.refl _) (λ_ m=>nomatch m) S .nil
theorem j6(h:PE X e (tE X.K f))(hr:PA X es (zg X.K g))(hs:bC (e::es) X.env=(aF,eval e X.env)::bC es X.env:=by rfl):PA X (e::es) (zg X.K (jC f g)):=(pB h hr hs).weak λσ H Q aN=>by
 obtain⟨Z,Θ,env,C,xs,env',C',S,hf,q⟩:=aN
 unfold jC at hf;split at hf
 .rename_i r e1 C1 h1;split at hf
  .rename_i ys e2 C2 h2;cases hf
   refine⟨Z,Θ,env,C,r,e1,C1,S,h1,λv H1 k1 f1 R1=>?_⟩
   have plain:∀{x:Vl},Sm X.K Z Θ e1 C1 σ H1->wB X.K (er (aY Z Θ e1 σ) H1) Θ x v->r=x->zg X.K g σ H1 λxs H2=>Q (v::xs) H2:=λ{x} S1 a1 ex=>by
    subst ex
    refine⟨Z,Θ,e1,C1,ys,env',C',S1,h2,λvs as H2 k2 f2 n2 S2 a2=>q _ as H2 (k1.trans k2) (f1.trans f2) (λa m=>k1.none (n2 a m)) S2 (.cons (a1.same (mF k2 S1.sW λa m=>?_)) a2)⟩
    rcases dD.mp m with m|m
    .rcases dD.mp m with m|m
     .exact .inr (n2 a m)
     .exact .inl (gO _ m)
    .exact .inl (f2.sub (Z:=Z) a (fK _ m))
   cases r with
   |im d=>exact plain (x:=.im d) R1.1 R1.2 rfl
   |ce n=>exact plain (x:=.ce n) R1.1 R1.2 rfl
   |sc ns=>exact plain (x:=.sc ns) R1.1 R1.2 rfl
   |tp=>exact R1.elim
   |ow d=>
    obtain⟨a,rfl,hn,S1,r1⟩:=R1
    refine⟨a::Z,Θ,e1,C1,ys,env',C',S1,h2,λvs as H2 k2 f2 n2 S2 a2=>?_⟩
    have ez:as++a::Z=(as++[a])++Z:=by rw[lA];rfl
    rw[ez] at S2 a2;have na:a∉Θ:=λm=>(S1.c7.2.2.2 a dg) m
    refine q _ (as++[a]) H2 (k1.trans k2) (f1.trans f2) (λb m=>?_) S2 (.own (r1.same (mF k2 S1.sW λb m=>?_) λo ho=>k2.keep _ _ ho na) a2)
    .rcases dD.mp m with m|m
     .exact k1.none (n2 b m)
     .rw[jb.mp m];exact hn
    .rcases dD.mp m with m|m
     .rcases dD.mp m with m|m
      .rcases dD.mp m with m|m
       .exact .inr (n2 b m)
       .rw[jb.mp m];exact .inl dg
      .exact .inl (gO _ (dZ _ m))
     .exact .inl (f2.sub (Z:=a::Z) b (fK _ m))
  .cases hf
 .cases hf
end
def setM{α:Type}:List Nat->List α->List (Option α)->List (Option α)
 |i::is,x::xs,e=>setM is xs (e.set i (aa x))
 |_,_,e=>e
theorem Vb{K:aJ}{Z Θ:List aq}{C:Ce}{H:Hp}{E:Hp}:∀{as:List aq}{xs:List Vl}{vs:List V},pG K E H Θ as xs vs->∀{is:List Nat}{env:En}{σ:St},is.length=xs.length->bJ E (er (aY (as++Z) Θ env σ) H)->Sm K (as++Z) Θ env C σ H->
  Sm K Z Θ (setM is xs env) C (setM is vs σ) H/\∀a∈bT (setM is xs env) (setM is vs σ),a∈bT env σ\/a∈as:=by
 intro as xs vs h;induction h with
 |nil=>
  intro is env σ hl _ S;cases is with
  |nil=>exact⟨S,λa m=>.inl m⟩
  |cons _ _=>cases hl
 |@cons as x v xs vs a1 _ ih=>
  intro is env σ hl sm S;cases is with
  |nil=>cases hl
  |cons i is=>
   have hx:∀d,x≠.ow d:=λd z=>by subst z;exact a1
   have sl:Eo K (er (aY (as++Z) Θ env σ) H) H Θ x v:=by
    have a2:=a1.same sm;cases x with
    |im d=>exact a2
    |ow d=>exact absurd rfl (hx d)
    |ce n=>exact a2
    |sc ns=>exact a2
    |tp=>exact a2
   have S1:Sm K (as++Z) Θ (env.set i (aa x)) C (σ.set i (aa v)) H:=S.Er hx sl;have o1:∀b∈bT (env.set i (aa x)) (σ.set i (aa v)),b∈bT env σ:=λb m=>by
    rcases Ad m with m|⟨⟨d,z⟩,_⟩
    .exact m
    .exact absurd z (hx d)
   obtain⟨S2,o2⟩:=ih (is:=is) (by simpa using hl) (sm.trans (adY o1)) S1
   refine⟨S2,λb m=>?_⟩
   rcases o2 b m with m|m
   .exact .inl (o1 b m)
   .exact .inr m
 |@own as a d xs vs r _ ih=>
  intro is env σ hl sm S;cases is with
  |nil=>cases hl
  |cons i is=>
   have pm:((as++[a])++Z).Perm (a::(as++Z)):=by
    rw[lA];exact List.perm_middle
   have S0:=S.perm pm;have ee:er (aY ((as++[a])++Z) Θ env σ) H=er (aY (a::(as++Z)) Θ env σ) H:=rR λb=>by rw[iQ,iQ,pm.mem_iff]
   rw[ee] at sm;have S1:Sm K (as++Z) Θ (env.set i (aa (.ow d))) C (σ.set i (aa (.ref a))) H:=S0.afe (r.same sm λ_ h=>h);have o1:∀b∈bT (env.set i (aa (.ow d))) (σ.set i (aa (.ref a))),b∈bT env σ\/b=a:=λb m=>by
    rcases Ad m with m|⟨_,z⟩
    .exact .inl m
    .cases z;exact .inr rfl
   obtain⟨S2,o2⟩:=ih (is:=is) (by simpa using hl) (sm.trans (tX λb m=>by
    rcases dD.mp m with m|m
    .exact gO _ (dZ _ m)
    .rcases dD.mp m with m|m
     .exact fK _ (gO _ m)
     .rcases o1 b m with m|rfl
      .exact fK _ (fK _ m)
      .exact gO _ dg)) S1
   refine⟨S2,λb m=>?_⟩
   rcases o2 b m with m|m
   .rcases o1 b m with m|rfl
    .exact .inl m
    .exact .inr (fK _ (jb.mpr rfl))
   .exact .inr (gO _ m)
theorem MF{K:aJ}{E H:Hp}{Θ as:List aq}{xs:List Vl}{vs:List V}(h:pG K E H Θ as xs vs):vs.length=xs.length:=by
 induction h with
 |nil=>rfl
 |cons _ _ ih=>rw[cA,cA,ih]
 |own _ _ ih=>rw[cA,cA,ih]
def mX(is:List Nat)(g:FA):FS:=λenv C=>match g env C with
 |some (xs,e1,C1)=>if is.length=xs.length/\xs.length<=gF then aa (.nx,setM is xs e1,C1) else aj
 |none=>aj
def Xo(is:List Nat):wU:=match is with
 |[]=>WL
 |i::r=>We (Am i) (Xo r)
theorem ac2:∀{is:List Nat}{vs:List V}{σ:St}{H:Hp}{Q:St->Hp->Prop},is.length=vs.length->Q (setM is vs σ) H->Xo is vs σ H Q
 |[],[],σ,H,Q,_,q=>⟨rfl,q⟩
 |i::is,v::vs,σ,H,Q,h,q=>⟨v,vs,rfl,ac2 (by simpa using h) q⟩
 |[],_::_,_,_,_,h,_=>by cases h
 |_::_,[],_,_,_,h,_=>by cases h
section
variable{X:Cx}{pos:Pos}
theorem vY{i j:Nat}{x y:Str}{a b:Expr}{g:FA}{px py pt:Pos}{kt k2 pM}(hc:X.calm=ao)(hN:X.N.Nodup)(hi:X.N[i]?=aa x)(hj:X.N[j]?=aa y)(hij:i≠j)
  (hx:X.env.scope.names.lookup x=aa .local)(hy:X.env.scope.names.lookup y=aa .local)(ha:PA X [a,b] (zg X.K g))
  (hw:zP [.Tuple [.Name x px,.Name y py] kt pt] (.Tuple [a,b] k2 pM) X.env=pure (aa [x,y]))
  (hs:zO [.Tuple [.Name x px,.Name y py] kt pt] (.Tuple [a,b] k2 pM) pos.line X.env=pure aF:=by rfl):
  PS X (.Assign [.Tuple [.Name x px,.Name y py] kt pt] (.Tuple [a,b] k2 pM) pos) (tS X.K (mX [i,j] g)):=(anI hc hN hi hj hij hx hy ha hw hs).weak λD σ H aN=>by
 obtain⟨Z,Θ,env,C,fl,env',C',S,hf,q⟩:=aN
 unfold mX at hf;split at hf
 .rename_i xs e1 C1 h1;split at hf
  .rename_i hl;cases hf
   refine⟨Z,Θ,env,C,xs,e1,C',S,h1,λvs as H1 k1 f1 n1 S1 a1=>?_⟩
   have l2:=MF a1
   obtain⟨S2,o2⟩:=Vb a1 hl.1 (bJ.refl _) S1
   have e2:∃v w,vs=[v,w]:=by
    have:vs.length=2:=by rw[l2,<-hl.1];rfl
    match vs,this with
    |[v,w],_=>exact⟨v,w,rfl⟩
   obtain⟨v,w,rfl⟩:=e2
   refine⟨v,w,rfl,q Θ _ H1 ⟨lK.refl _ _,yh k1,λb m=>?_,S2⟩⟩
   rcases o2 b m with m|m
   .exact .inl (f1.own.subset m)
   .exact .inr (n1 b m)
  .cases hf
 .cases hf
theorem amA{tg:Expr}{es:List Expr}{g:FA}{is:List Nat}{n:Nat}{x1 pt}(ha:PA X es (zg X.K g))(hg:PG X tg (WM X.K n (Xo is)))(hn:n=is.length:=by rfl)
  (hs:zO [tg] (.Tuple es x1 pt) pos.line X.env=pure aF:=by rfl)(hw:zP [tg] (.Tuple es x1 pt) X.env=pure aj:=by rfl)(h1:(uN [tg] X.env).map (·.2)=[assign tg X.env]:=by rfl):
  PS X (.Assign [tg] (.Tuple es x1 pt) pos) (tS X.K (mX is g)):=(Vw (VD ha) hg hs hw h1).weak λD σ H aN=>by
 obtain⟨Z,Θ,env,C,fl,env',C',S,hf,q⟩:=aN
 unfold mX at hf;split at hf
 .rename_i xs e1 C1 h1;split at hf
  .rename_i hl;cases hf
   refine⟨Z,Θ,env,C,xs,e1,C',S,h1,λvs as H1 k1 f1 n1 S1 a1=>⟨by rw[MF a1];exact uT hl.2,λp hp=>?_⟩⟩
   have l2:=MF a1
   refine⟨p,vs,rfl,cW.of eN,by rw[l2,hn,hl.1],ac2 (by rw[hl.1,l2]) ?_⟩
   have kp:aX Θ H1 (upd H1 p (.tup vs)):=aX.upd hp;have S1':=S1.Av (bJ.upd (o:=.tup vs) hp);have a1':pG X.K (er (aY (as++Z) Θ e1 σ) H1) (upd H1 p (.tup vs)) Θ as xs vs:=a1.heap λb o ho=>by rw[cV (qL ho hp)];exact ho
   obtain⟨S2,o2⟩:=Vb a1' hl.1 (mF kp S1.sW λb m=>.inl m) S1'
   refine q Θ _ _ ⟨lK.refl _ _,yh (k1.trans kp),λb m=>?_,S2⟩;rcases o2 b m with m|m
   .exact .inl (f1.own.subset m)
   .exact .inr (n1 b m)
  .cases hf
 .cases hf
end
theorem Ui:∀{env:En}{σ:St}{i:Nat}{d d':au},env[i]?=aa (aa (.ow d))->bT (env.set i (aa (.ow d'))) σ=bT env σ
 |[],σ,i,d,d',h=>by simp at h
 |x::e,[],i,d,d',h=>by cases i<;>rfl
 |x::e,v::s,0,d,d',h=>by
  simp at h;subst h;show own1 (aa (.ow d')) v++bT e s=own1 (aa (.ow d)) v++bT e s;rcases v with _|v
  .rfl
  .cases v<;>rfl
 |x::e,v::s,i+1,d,d',h=>by
  show own1 x v++bT (e.set i (aa (.ow d'))) s=own1 x v++bT e s;rw[Ui (by simpa using h)]
section
variable{K:aJ}{Z Θ:List aq}{env:En}{C:Ce}{σ:St}{H:Hp}{a:aq}{i:Nat}{d d':au}{o:HO}
theorem Np(h:a∈P):er P (upd H a o)=er P H:=by
 funext b;unfold er;by_cases hb:b=a
 .subst hb;rw[aV h,aV h]
 .rw[cV hb]
theorem Sm.write(S:Sm K Z Θ env C σ H)(e1:env[i]?=aa (aa (.ow d)))(e2:σ[i]?=aa (aa (.ref a)))(r:kW (er (aY Z Θ env σ) H) (upd H a o) a d'):eZ K Z Θ env σ H Θ (env.set i (aa (.ow d'))) C σ (upd H a o):=by
 have m:a∈bT env σ:=nC.mpr ⟨i,d,e1,e2⟩;have no:=S.nH m;have eo:bT (env.set i (aa (.ow d'))) σ=bT env σ:=Ui e1;have mp:a∈aY Z Θ env σ:=fK _ (fK _ m);have ep:aY Z Θ (env.set i (aa (.ow d'))) σ=aY Z Θ env σ:=by show _++(_++_)=_;rw[eo]
 refine⟨lK.refl _ _,⟨λb u hb n=>?_,λb hb=>?_⟩,λb mb=>.inl (by rw[eo] at mb;exact mb),⟨by rw[xN];exact S.len,by rw[ep];exact S.nd,λb mb=>?_,λj y ej=>?_,⟨S.cell.len,λn b ns h1 h2=>?_⟩⟩⟩
 .rw[cV (λz=>n (fK _ (by rw[z];exact m)))];exact hb
 .by_cases z:b=a
  .subst z;rw[eN];exact xH _
  .rw[cV z];exact hb
 .rw[cV (λz=>no.1 (by rw[<-z];exact mb))];exact S.dom b mb
 .rw[ep,Np mp];rcases get_set ej with⟨rfl,ex,hl⟩|⟨n,ej⟩
  .cases ex
   exact⟨_,e2,a,rfl,r⟩
  .obtain⟨v,e3,r3⟩:=S.slot j y ej
   refine⟨v,e3,r3.same (bJ.refl _) λd2 b ex ev u hu=>?_⟩
   subst ex ev;rw[cV]
   .exact hu
   .intro z;subst z;exact n (Hh S.c7.2.2.1 ej e3 e1 e2)
 .rw[cV (λz=>no.2 (by rw[<-z];exact qF h1))];exact S.cell.at_ n b ns h1 h2
end
def yE:Option (Option Vl)->Bool
 |some (some (.ow (.list _)))=>ao
 |_=>aF
def sO(i:Nat)(f:FE):FS:=λenv C=>if yE env[i]? then match f env C with
  |some (r,e1,C1)=>match still r,e1[i]? with
   |.im d,some (some (.ow (.list ds)))=>if ds.length<gF then aa (.nx,e1.set i (aa (.ow (.list (ds++[d])))),C1) else aj
   |_,_=>aj
  |none=>aj
 else aj
theorem ak5(h:yE x=ao):∃ds,x=aa (aa (.ow (.list ds))):=by
 unfold yE at h;split at h
 .exact⟨_,rfl⟩
 .cases h
section
variable{X:Cx}{pos:Pos}
theorem HB(ho:PE X o (sH i))(he:PE X e (tE X.K f))
  (hs0:xV (.Call (.Attribute o "append" apos) [e] [] cpos) aj pos.line X.env=pure aF:=by rfl)
  (hbase:xT o "append" X.env (eval o X.env)=eval o X.env:=by rfl)
  (hfew:((f9 cpos (bC [e] X.env)).all (λx=>!x.1)&&(Dj cpos (CT [] X.env)).all (λx=>x.1.isSome)
   &&decide (([e]:List Expr).length+([]:List pY).length+(if([]:List pY).isEmpty then 0 else 1)<30))=ao:=by rfl)
  (hline:(apos.endLine==cpos.line)=ao:=by rfl)(hs:bC [e] X.env=(aF,eval e X.env)::bC [] X.env:=by rfl)(hplain:(f9 cpos (bC [] X.env)).any (·.1)=aF:=by rfl):
  PS X (.Expr (.Call (.Attribute o "append" apos) [e] [] cpos) pos) (tS X.K (sO i f)):=
 (acz (NQ X4 Yp agi (wW.r Tc) ho (pB he tU hs) hbase hfew hline hs hplain) hs0).weak λD σ H aN=>by
  obtain⟨Z,Θ,env,C,fl,env',C',S,hf,q⟩:=aN
  unfold sO at hf;split at hf
  .rename_i h0
   obtain⟨ds0,h0⟩:=ak5 h0
   obtain⟨v0,zj,a,rfl,Jd,ha0,r0⟩:=S.slot i _ h0
   split at hf
   .rename_i r e1 C1 h1;split at hf
    .rename_i d ds hd hi;split at hf
     .rename_i hl;cases hf
      refine⟨_,zj,.inl ⟨rfl,Jd,bO.of ha0⟩,Z,Θ,env,C,r,e1,C',S,h1,λv H1 k f R=>?_⟩
      obtain⟨S1,r1⟩:=R.wC hd
      obtain⟨v1,ev1,a1,ea1,vs,ha1,r2⟩:=S1.slot i _ hi
      subst ea1;rw[zj] at ev1;cases ev1
      refine⟨a,vs,v,rfl,rfl,ha1,by rw[jK r2,iM];unfold gF at hl;lia,?_⟩
      have w:eZ X.K Z Θ e1 σ H1 Θ (e1.set i (aa (.ow (.list (ds++[d]))))) C' σ (upd H1 a (.lst (vs++[v]))):=S1.write hi zj ⟨_,eN,Ac r2 ⟨v,[],rfl,r1,rfl⟩⟩;exact q Θ σ _ ((eZ.uz k f S1).trans w)
     .cases hf
    .cases hf
   .cases hf
  .cases hf
def mL{κ:Type}[DecidableEq κ](f:au->Option κ)(k:κ)(dk d:au)(kvs:List (au×au)):List (au×au):=
 if(kvs.any λp=>decide (f p.1=aa k))=ao then kvs.map (λp=>if f p.1=aa k then(p.1,d) else p) else kvs++[(dk,d)]
def putD(kvs:List (au×au))(dk d:au):Option (List (au×au)):=match cL dk with
 |some k=>if(cH cL kvs).isSome then aa (mL cL k dk d kvs) else aj
 |none=>match rY dk with
  |some ks=>if(cH rY kvs).isSome then aa (mL rY ks dk d kvs) else aj
  |none=>aj
theorem ac3[DecidableEq κ]:∀{kvs:List (au×au)}{ks:List κ}{vs:List V},cH f kvs=aa ks->jl E kvs vs->(kvs.any λp=>decide (f p.1=aa k))=((ks.zip vs).any λkv=>decide (kv.1=k))
 |[],ks,vs,h,r=>by
  cases h
  cases(show vs=[] from r)
  rfl
 |(p,d)::kvs,ks,vs,h,r=>by
  unfold cH at h;split at h
  .rename_i k' t h1 h2;cases h
   obtain⟨v,w,rfl,q,s⟩:=r
   show(decide (f p=aa k)||_)=(decide (k'=k)||_)
   rw[ac3 h2 s,h1];congr 1;rw[pU,decide_eq_true_iff,decide_eq_true_iff]
   exact⟨λe=>gP e,λe=>by rw[e]⟩
  .cases h
theorem ac4[DecidableEq κ](hv:RZ E d v):∀{kvs:List (au×au)}{ks:List κ}{vs:List V},cH f kvs=aa ks->jl E kvs vs->
  ∃vs',cH f (kvs.map λp=>if f p.1=aa k then(p.1,d) else p)=aa ks/\jl E (kvs.map λp=>if f p.1=aa k then(p.1,d) else p) vs'/\ks.zip vs'=(ks.zip vs).map λkv=>if kv.1=k then(kv.1,v) else kv
 |[],ks,vs,h,r=>by
  cases h
  exact⟨[],rfl,rfl,rfl⟩
 |(p,e)::kvs,ks,vs,h,r=>by
  unfold cH at h;split at h
  .rename_i k' t h1 h2;cases h
   obtain⟨u,w,rfl,q,s⟩:=r
   obtain⟨vs',g1,g2,g3⟩:=ac4 (k:=k) hv h2 s
   have h1':f p=aa k':=h1;by_cases ek:k'=k
   .subst ek
    refine⟨v::vs',?_,?_,?_⟩
    .rw[cj];show cH f ((if f p=aa k' then(p,d) else(p,e))::_)=_;rw[aV h1'];unfold cH;rw[g1];simp only[h1']
    .rw[cj];show jl E ((if f p=aa k' then(p,d) else(p,e))::_) _;rw[aV h1']
     exact⟨v,vs',rfl,hv,g2⟩
    .show(k',v)::t.zip vs'=(if k'=k' then(k',v) else(k',u))::_
     rw[aV rfl,g3];rfl
   .have ne:¬f p=aa k:=λz=>ek (gP (h1'.symm.trans z))
    refine⟨u::vs',?_,?_,?_⟩
    .rw[cj];show cH f ((if f p=aa k then(p,d) else(p,e))::_)=_;rw[bf ne];unfold cH;rw[g1];simp only[h1']
    .rw[cj];show jl E ((if f p=aa k then(p,d) else(p,e))::_) _;rw[bf ne]
     exact⟨u,vs',rfl,q,g2⟩
    .show(k',u)::t.zip vs'=(if k'=k then(k',v) else(k',u))::_
     rw[bf ek,g3];rfl
  .cases h
theorem abN{κ:Type}{f:au->Option κ}{k:κ}{E:Hp}{dk d:au}{v:V}(hk:f dk=aa k)(hv:RZ E d v):∀{kvs:List (au×au)}{ks:List κ}{vs:List V},cH f kvs=aa ks->jl E kvs vs->
  cH f (kvs++[(dk,d)])=aa (ks++[k])/\jl E (kvs++[(dk,d)]) (vs++[v])/\(ks++[k]).zip (vs++[v])=ks.zip vs++[(k,v)]
 |[],ks,vs,h,r=>by
  cases h
  cases(show vs=[] from r)
  refine⟨?_,⟨v,[],rfl,hv,rfl⟩,rfl⟩
  show cH f [(dk,d)]=_;unfold cH cH;simp only[hk];rfl
 |(p,e)::kvs,ks,vs,h,r=>by
  unfold cH at h;split at h
  .rename_i k' t h1 h2;cases h
   obtain⟨u,w,rfl,q,s⟩:=r
   obtain⟨g1,g2,g3⟩:=abN hk hv h2 s
   refine⟨?_,⟨u,_,rfl,q,g2⟩,?_⟩
   .show cH f ((p,e)::(kvs++[(dk,d)]))=_;unfold cH;rw[g1];simp only[show f p=aa k' from h1];rfl
   .show(k',u)::(t++[k]).zip (w++[v])=_
    rw[g3];rfl
  .cases h
theorem MJ{κ:Type}[DecidableEq κ]{f:au->Option κ}{k:κ}{E:Hp}{dk d:au}{v:V}(hk:f dk=aa k)(hv:RZ E d v){kvs:List (au×au)}{ks:List κ}{vs:List V}(h:cH f kvs=aa ks)(r:jl E kvs vs):
  ∃ks' vs',cH f (mL f k dk d kvs)=aa ks'/\jl E (mL f k dk d kvs) vs'/\ks'.zip vs'=putK (ks.zip vs) k v:=by
 unfold mL putK;rw[ac3 h r];split
 .obtain⟨vs',g1,g2,g3⟩:=ac4 (k:=k) hv h r
  exact⟨ks,vs',g1,g2,g3⟩
 .obtain⟨g1,g2,g3⟩:=abN hk hv h r
  exact⟨_,_,g1,g2,g3⟩
theorem set_dict(hu:X.A.units+1<fV):wM X (λo i v H Q=>∃a H',o=.ref a/\uf H a i v H'/\Q H'):=by
 intro pins s σ H o i v ov iv u Q I ro ri rv h
 obtain⟨a,H',rfl,g,q⟩:=h
 cases ro;exact aaZ hu I g ri rv λs' I'=>⟨H',I',q⟩
theorem aj2(hu:X.A.units+1<fV):wM X (λo i v H Q=>∃(a b:aq)(ks:List Key),o=.ref a/\H a=aa (.dK [])/\i=.ref b/\H b=aa (.tup (ks.map kV))/\Q (upd H a (.dT [(ks,v)]))):=by
 intro pins s σ H o i v ov iv u Q I ro ri rv h
 obtain⟨a,b,ks,rfl,ha,rfl,hb,q⟩:=h
 cases ro;have hb':(upd H a (.dT [])) b=aa (.tup (ks.map kV)):=by rw[cV (Wc hb ha (λz=>nomatch z))];exact hb
 refine aaZ hu (I.Jg ha) (uf.t (kvs:=[]) (k:=ks) (v:=v) eN hb' (by rw[iM];decide)) ri rv λs' I'=>⟨_,I',?_⟩
 rw[acs];exact q
theorem wM.or(h:wM X t)(h':wM X t'):wM X (λo i v H Q=>t o i v H Q\/t' o i v H Q):=by
 intro pins s σ H o i v ov iv u Q I ro ri rv q;rcases q with q|q
 .exact h pins s σ H o i v ov iv u Q I ro ri rv q
 .exact h' pins s σ H o i v ov iv u Q I ro ri rv q
theorem amB(hu:X.A.units+1<fV):wM X (λo i v H Q=>(Wj o i v H Q\/∃a H',o=.ref a/\uf H a i v H'/\Q H')\/∃(a b:aq)(ks:List Key),o=.ref a/\H a=aa (.dK [])/\i=.ref b/\H b=aa (.tup (ks.map kV))/\Q (upd H a (.dT [(ks,v)]))):=
 (set_list.or (set_dict hu)).or (aj2 hu)
def qW:Option (Option Vl)->Bool
 |some (some _)=>ao
 |_=>aF
theorem amC(h:qW x=ao):∃y,x=aa (aa y):=by
 unfold qW at h;split at h
 .exact⟨_,rfl⟩
 .cases h
def Es(i:Nat)(d dk:au)(e:En)(C:Ce):Option Vl->Option (Fl×En×Ce)
 |some (.ow (.list ds))=>(intD dk).bind λz=>(pN ds.length z).bind λj=>aa (.nx,e.set i (aa (.ow (.list (ds.set j d)))),C)
 |some (.ow (.dict kvs))=>(putD kvs dk d).bind λkvs'=>bif decide (kvs.length<gF) then aa (.nx,e.set i (aa (.ow (.dict kvs'))),C) else aj
 |some (.ce n)=>(intD dk).bind λz=>(intD d).bind λy=>(C[n]?).bind λns=>(pN ns.length z).bind λj=>aa (.nx,e,C.set n (ns.set j y))
 |_=>aj
def oN(i:Nat)(fk:FB)(fe:FE):FS:=λenv C=>(fe env C).bind λp=>(ux (still p.1)).bind λd=>(fk p.2.1 p.2.2).bind λk=>bif qW p.2.1[i]? then(k.2.1[i]?).bind (Es i d k.1 k.2.1 k.2.2) else aj
def HR(o i v:V)(H:Hp)(Q:Hp->Prop):Prop:=(Wj o i v H Q\/∃a H',o=.ref a/\uf H a i v H'/\Q H')\/∃(a b:aq)(ks:List Key),o=.ref a/\H a=aa (.dK [])/\i=.ref b/\H b=aa (.tup (ks.map kV))/\Q (upd H a (.dT [(ks,v)]))
section
variable{K:aJ}{Z Θ:List aq}{e2:En}{C2:Ce}{σ:St}{H2:Hp}{i:Nat}{d dk:au}{v w:V}{a:aq}{R:Hp->Prop}{p:Fl×En×Ce}
theorem ak6(S2:Sm K Z Θ e2 C2 σ H2)(eu:σ[i]?=aa (aa (.ref a)))(hi:e2[i]?=aa (aa (.ow (.list ds))))(rt:kW (er (aY Z Θ e2 σ) H2) H2 a (.list ds))(r2:RZ (er (aY Z Θ e2 σ) H2) d v)(b2:gh Z Θ e2 σ H2 dk w)(hf:Es i d dk e2 C2 (aa (.ow (.list ds)))=aa p):
  p.1=.nx/\((∀Hx,eZ K Z Θ e2 σ H2 Θ p.2.1 p.2.2 σ Hx->R Hx)->HR (.ref a) w v H2 R):=by
 obtain⟨z,hz,hf⟩:=jf hf
 obtain⟨j,hj,hf⟩:=jf hf
 cases hf;have hz:=Mx hz;subst hz
 obtain⟨vs,ha,r3⟩:=rt
 have b2:w=.int z:=b2;subst b2
 exact⟨rfl,λq=>.inl (.inl ⟨a,vs,z,j,rfl,rfl,ha,by rw[jK r3];exact hj,q _ (S2.write hi eu ⟨_,eN,acV r2 j r3⟩)⟩)⟩
theorem ac5(kvs:List (au×au)):mL rY Xp dk d kvs≠[]:=λz=>by
 unfold mL at z;split at z
 .rename_i hz;cases kvs with
  |nil=>cases hz
  |cons _ _=>cases z
 .cases kvs<;>cases z
theorem ak7{kvs:List (au×au)}(S2:Sm K Z Θ e2 C2 σ H2)(eu:σ[i]?=aa (aa (.ref a)))(hi:e2[i]?=aa (aa (.ow (.dict kvs))))(rt:kW (er (aY Z Θ e2 σ) H2) H2 a (.dict kvs))(r2:RZ (er (aY Z Θ e2 σ) H2) d v)(b2:gh Z Θ e2 σ H2 dk w)(hf:Es i d dk e2 C2 (aa (.ow (.dict kvs)))=aa p):
  p.1=.nx/\((∀Hx,eZ K Z Θ e2 σ H2 Θ p.2.1 p.2.2 σ Hx->R Hx)->HR (.ref a) w v H2 R):=by
 refine hide λGG gg=>?_
 obtain⟨kvs',hp,hf⟩:=jf hf
 cases hl:decide (kvs.length<gF) with
 |false=>rw[hl] at hf;cases hf
 |true=>
 rw[hl] at hf;cases hf;have hl:=of_decide_eq_true hl;have hl':∀{κ:Type}(ks:List κ)(vs:List V),ks.length=kvs.length->(ks.zip vs).length<bW:=λks vs e=>by
  rw[JQ,iM,e];unfold gF at hl;lia
 obtain⟨vs,da,r3⟩:=rt
 unfold putD at hp;split at hp
 .rename_i k hk;split at hp
  case isFalse=>cases hp
  rename_i hs';cases hp;have wk:w=kV k:=by
   cases dk<;>first|(cases hk;exact b2)|cases hk
  rcases da with⟨ks,g1,ha⟩|⟨ks,⟨ne,g2⟩,ha⟩
  .obtain⟨ks',vs',g3,g4,g5⟩:=MJ hk r2 g1 r3
   subst wk;exact gg ⟨rfl,λq=>.inl (.inr ⟨a,_,rfl,uf.k (k:=k) (v:=v) ha (hl' ks vs (vL g1)),q _ (S2.write hi eu ⟨vs',.inl ⟨ks',g3,by rw[g5];exact eN⟩,g4⟩)⟩)⟩
  .obtain⟨aqi,g1⟩:=xr.mp hs'
   exact absurd (xX g1 g2) ne
 .split at hp
  case h_2=>cases hp
  rename_i Xp hks;split at hp
  case isFalse=>cases hp
  rename_i hs';cases hp
  obtain⟨b,hb,rfl⟩:∃b,H2 b=aa (.tup (Xp.map kV))/\w=.ref b:=by
   cases dk<;>first|cases hks|skip
   obtain⟨b,ws,rfl,hb,rr⟩:=b2.tup
   rw[xW hks rr] at hb
   exact⟨b,hb,rfl⟩
  rcases da with⟨ks,g1,ha⟩|⟨ks,⟨ne,g1⟩,ha⟩
  .obtain⟨aqi,g2⟩:=xr.mp hs'
   have e0:=xX g1 g2;subst e0;cases g1;have e0:vs=[]:=r3;subst e0
   obtain⟨ks',vs',g3,g4,g5⟩:=MJ (kvs:=[]) (vs:=[]) (ks:=[]) hks r2 rfl rfl
   exact gg ⟨rfl,λq=>.inr ⟨a,b,Xp,rfl,ha,rfl,hb,q _ (S2.write hi eu ⟨vs',.inr ⟨ks',⟨ac5 [],g3⟩,by rw[g5];exact eN⟩,g4⟩)⟩⟩
  .obtain⟨ks',vs',g3,g4,g5⟩:=MJ hks r2 g1 r3
   exact gg ⟨rfl,λq=>.inl (.inr ⟨a,_,rfl,uf.t ha hb (hl' ks vs (vL g1)),q _ (S2.write hi eu ⟨vs',.inr ⟨ks',⟨ac5 kvs,g3⟩,by rw[g5];exact eN⟩,g4⟩)⟩)⟩
theorem ak8(S2:Sm K Z Θ e2 C2 σ H2)(hth:Θ[n]?=aa a)(r2:RZ (er (aY Z Θ e2 σ) H2) d v)(b2:gh Z Θ e2 σ H2 dk w)(hf:Es i d dk e2 C2 (aa (.ce n))=aa p):
  p.1=.nx/\((∀Hx,eZ K Z Θ e2 σ H2 Θ p.2.1 p.2.2 σ Hx->R Hx)->HR (.ref a) w v H2 R):=by
 refine hide λGG gg=>?_
 obtain⟨z,hz,hf⟩:=jf hf
 obtain⟨y,hy,hf⟩:=jf hf
 obtain⟨ns,hns,hf⟩:=jf hf
 obtain⟨j,hj,hf⟩:=jf hf
 cases hf;have hz:=Mx hz;have hy:=Mx hy;subst hz hy;have b2:w=.int z:=b2;have ev:v=.int y:=r2;subst ev b2;have ha:=S2.cell.at_ n a ns hth hns;have am:a∈Θ:=qF hth;refine gg ⟨rfl,λq=>.inl (.inl ⟨a,_,z,j,rfl,rfl,ha,by rw[bw];exact hj,q _ ?_⟩)⟩;have kc:aX Θ H2 (upd H2 a (.lst ((ns.map V.int).set j (.int y)))):=⟨λb o hb nb=>by rw[cV (λzz=>nb (by rw[zz];exact am))];exact hb,λb hb=>by
  by_cases zz:b=a
  .subst zz;rw[eN];exact xH _
  .rw[cV zz];exact hb⟩
 refine eZ.uz kc (Fz.refl _) (S2.go kc ⟨by rw[xN];exact S2.cell.len,λm b ms h5 h6=>?_⟩);rcases get_set h6 with⟨rfl,e6,_⟩|⟨nm,h6⟩
 .rw[hth] at h5;cases h5;cases e6;rw[eN,List.map_set]
 .rw[cV]
  .exact S2.cell.at_ m b ms h5 h6
  .intro zz;subst zz
   obtain⟨l1,l1'⟩:=jW.mp h5
   obtain⟨l2,l2'⟩:=jW.mp hth
   rcases ahc m n with hlt|heq|hgt
   .exact Jx.mp S2.c7.2.1 m n l1 l2 hlt (l1'.trans l2'.symm)
   .exact nm heq
   .exact Jx.mp S2.c7.2.1 n m l2 l1 hgt (l2'.trans l1'.symm)
theorem amD(S2:Sm K Z Θ e2 C2 σ H2)(eu:σ[i]?=aa (aa u))(hi:e2[i]?=aa s)(r2:RZ (er (aY Z Θ e2 σ) H2) d v)(b2:gh Z Θ e2 σ H2 dk w)(hf:Es i d dk e2 C2 s=aa p):
  p.1=.nx/\((∀Hx,eZ K Z Θ e2 σ H2 Θ p.2.1 p.2.2 σ Hx->R Hx)->HR u w v H2 R):=by
 cases s with
 |none=>cases hf
 |some s=>
 obtain⟨u',eu',sl⟩:=S2.slot i _ hi
 rw[eu] at eu';cases eu';cases s with
 |im _=>cases hf
 |sc _=>cases hf
 |tp=>cases hf
 |ce n=>
  obtain⟨a,rfl,hth⟩:=sl
  exact ak8 S2 hth r2 b2 hf
 |ow x=>
  obtain⟨a,rfl,rt⟩:=sl
  cases x<;>first|exact ak6 S2 eu hi rt r2 b2 hf|exact ak7 S2 eu hi rt r2 b2 hf|cases hf
end
theorem DR(hu:X.A.units+1<fV)(ho:PE X o (sH i))(hk:PE X k (dY X.K fk))(he:PE X e (tE X.K fe))
  (ha:∀v,assign (.Subscript o k p) X.env v=(do
   let ov <-rP [v] (eval o X.env)
   let iv <-rP [v,ov] (eval k X.env)
   uU p
   rP [v,ov,iv] (setItem ov iv v)
   release [v,ov,iv] []):=by intro _;rfl)
  (hs:zO [.Subscript o k p] e pos.line X.env=pure aF:=by rfl)(hw:zP [.Subscript o k p] e X.env=pure aj:=by rfl)(h1:(uN [.Subscript o k p] X.env).map (·.2)=[assign (.Subscript o k p) X.env]:=by rfl):
  PS X (.Assign [.Subscript o k p] e pos) (tS X.K (oN i fk fe)):=(Vw he (anG (t:=HR) ho hk (amB hu) ha) hs hw h1).weak λD σ H aN=>by
 obtain⟨Z,Θ,env,C,fl,env',C',S,hf,q⟩:=aN
 obtain⟨p,h1,hf⟩:=jf hf
 obtain⟨d,hd,hf⟩:=jf hf
 obtain⟨kp,h2,hf⟩:=jf hf
 cases h3:qW p.2.1[i]? with
 |false=>rw[h3] at hf;cases hf
 |true=>
 rw[h3] at hf
 obtain⟨s,hi,hf⟩:=jf hf
 obtain⟨y3,h3⟩:=amC h3
 refine⟨Z,Θ,env,C,p.1,p.2.1,p.2.2,S,h1,λv H1 k1 f1 R1=>?_⟩
 obtain⟨S1,r1⟩:=R1.wC (Hz hd)
 obtain⟨u,eu,_⟩:=S1.slot i _ h3
 refine⟨u,eu,Z,Θ,p.2.1,p.2.2,kp.1,kp.2.1,kp.2.2,S1,h2,λw H2 k2 f2 S2 b2=>?_⟩
 obtain⟨e0,go⟩:=amD (R:=λHx=>D.nx σ Hx) S2 eu hi (r1.same (Wl S1 k2 f2)) b2 hf
 have e0:fl=.nx:=e0;subst e0;exact go λHx st=>q Θ σ _ ((eZ.uz (k1.trans k2) (f1.trans f2) S2).trans st)
end
def intsOf:List au->Option (List Int)
 |[]=>aa []
 |.int i::r=>match intsOf r with
  |some t=>aa (i::t)
  |none=>aj
 |_=>aj
theorem LQ:∀{ds:List au}{ns:List Int}{vs:List V},intsOf ds=aa ns->cB E ds vs->vs=ns.map V.int
 |[],ns,vs,h,r=>by cases h;exact r
 |.int i::ds,ns,vs,h,r=>by
  unfold intsOf at h;split at h
  .rename_i t ht;cases h
   obtain⟨u,w,rfl,q,s⟩:=r
   rw[LQ ht s];have:u=.int i:=q;rw[this];rfl
  .cases h
 |.none::_,_,_,h,_=>by cases h
 |.bool _::_,_,_,h,_=>by cases h
 |.str _::_,_,_,h,_=>by cases h
 |.list _::_,_,_,h,_=>by cases h
 |.tuple _::_,_,_,h,_=>by cases h
 |.dict _::_,_,_,h,_=>by cases h
section
variable{X:Cx}{pos:Pos}
theorem Sm.aom{K:aJ}{Z Θ:List aq}{e1:En}{C1:Ce}{σ:St}{H1:Hp}{a:aq}{ns:List Int}(S1:Sm K (a::Z) Θ e1 C1 σ H1)(ha:H1 a=aa (.lst (ns.map V.int))):Sm K Z (Θ++[a]) e1 (C1++[ns]) σ H1:=by
 have c7:=S1.c7;have Jh:=je.mp c7.1;have cl:=S1.cell.len;have c':p7 (Θ++[a]) (C1++[ns]) H1:=by
  refine⟨by rw[fU,fU,cl];rfl,λm b ms h5 h6=>?_⟩
  by_cases hm:m<Θ.length
  .rw[oh hm] at h5;rw[oh (by rw[cl];exact hm)] at h6;exact S1.cell.at_ m b ms h5 h6
  .rw[qD (by lia)] at h5;rw[qD (by lia)] at h6;rw[cl] at h6;cases hm0:m-Θ.length with
   |zero=>rw[hm0] at h5 h6;cases h5;cases h6;exact ha
   |succ j=>rw[hm0] at h5;simp at h5
 have mm:∀b,b∈aY Z (Θ++[a]) e1 σ↔b∈aY (a::Z) Θ e1 σ:=λb=>by
  rw[iQ,iQ,dD,jb,bY];constructor
  .rintro(h|(h|h)|h)
   .exact .inl (.inr h)
   .exact .inr (.inl h)
   .exact .inl (.inl h)
   .exact .inr (.inr h)
  .rintro((h|h)|h|h)
   .exact .inr (.inl (.inr h))
   .exact .inl h
   .exact .inr (.inl (.inl h))
   .exact .inr (.inr h)
 refine⟨S1.len,zf Jh.2 ?_ c7.2.2.1 (λb m=>?_) λb m=>?_,λb m=>S1.dom b (dZ _ m),λj x e=>?_,c'⟩
 .rw[kE]
  exact⟨c7.2.1,je.mpr ⟨by simp,mj⟩,λb m c m' e=>by
   rw[jb] at m';subst e m';exact c7.2.2.2 b dg m⟩
 .intro m';rcases dD.mp m' with m'|m'
  .exact c7.2.2.2 b (dZ _ m) m'
  .rw[jb.mp m'] at m;exact Jh.1 m
 .obtain⟨p1,p2⟩:=S1.nH m
  refine⟨λz=>p1 (dZ _ z),λm'=>?_⟩
  rcases dD.mp m' with m'|m'
  .exact p2 m'
  .rw[jb.mp m'] at p1;exact p1 dg
 .obtain⟨v,e3,r3⟩:=S1.slot j x e
  rw[rR mm]
  refine⟨v,e3,?_⟩
  cases x with
  |im d=>exact r3
  |ow d=>exact r3
  |ce n=>
   obtain⟨b,e5,e6⟩:=r3
   exact⟨b,e5,by rw[oh (jW.mp e6).1];exact e6⟩
  |sc ns=>exact r3
  |tp=>exact r3
def Om(i:Nat)(f:FB):FS:=λenv C=>match env[i]? with
 |some (some (.im (.int x)))=>match f env C with
  |some (.int y,_,C1)=>aa (.nx,env.set i (aa (.im (.int (x+y)))),C1)
  |_=>aj
 |_=>aj
theorem aon(hN:X.N.Nodup)(hi:X.N[i]?=aa x)(hx:Loc X.env.scope x)(he:PE X e (dY X.K f))(hf:X.fn x=ao\/X.env.scope.names.lookup x=aa .local:=by first|exact .inl rfl|exact .inr rfl|assumption):
  PS X (.AugAssign (.Name x pos') .Add e pos) (tS X.K (Om i f)):=(anJ hN hi hx he anK hf).weak λD σ H aN=>by
 obtain⟨Z,Θ,env,C,fl,env',C',S,hf,q⟩:=aN
 unfold Om at hf;split at hf
 .rename_i z h0;split at hf
  .rename_i y e1 C1 h1;cases hf
   obtain⟨v,ev,r⟩:=S.slot i _ h0
   refine⟨v,ev,Z,Θ,env,C,_,e1,C',S,h1,λw H1 k f S1 b1=>⟨z,y,r,b1,?_⟩⟩
   have S2:=S.go k S1.cell;refine q Θ _ H1 ⟨lK.refl _ _,yh k,λa m=>?_,S2.Er (λ_ z=>nomatch z) (rfl:RZ _ (.int (z+y)) _)⟩;rcases Ad m with m|⟨⟨_,z⟩,_⟩
   .exact .inl m
   .cases z
  .cases hf
 .cases hf
end
def j9(c:FT)(body:FS):Nat->FS
 |0=>λ_ _=>aj
 |n+1=>λenv C=>match c env C with
  |some (false,C1)=>aa (.nx,env,C1)
  |some (true,C1)=>match body env C1 with
   |some (.nx,e2,C2)=>j9 c body n e2 C2
   |some (.ct,e2,C2)=>j9 c body n e2 C2
   |some (.bk,e2,C2)=>aa (.nx,e2,C2)
   |some (.rt r,e2,C2)=>aa (.rt r,e2,C2)
   |none=>aj
  |none=>aj
def Eh:Nat:=100000
def uA(c:FT)(body:FS):FS:=j9 c body Eh
theorem ajd{K:aJ}{c:FT}{body:FS}{n:Nat}:∀D σ H,tS K (j9 c body n) D σ H->adI (fX K c) (tS K body) D σ H:=by
 rintro D σ H ⟨Z,Θ,env,C,fl,env',C',S,hf,q⟩
 refine⟨λm σ1 H1=>∃Θ1 e1 C1,eZ K Z Θ env σ H Θ1 e1 C1 σ1 H1/\j9 c body m e1 C1=aa (fl,env',C'),⟨n,Θ,env,C,eZ.same S,hf⟩,?_⟩
 rintro m σ1 H1 ⟨Θ1,e1,C1,p,hf⟩;cases m with
 |zero=>cases hf
 |succ m=>
  unfold j9 at hf;split at hf
  .rename_i C2 h1;cases hf
   exact⟨Z,Θ1,env',C1,aF,C',p.sm,h1,λH2 k2 S2=>yK (q Θ1 σ1 H2 (p.trans (eZ.uz k2 (Fz.refl _) S2)))⟩
  .rename_i C2 h1
   refine⟨Z,Θ1,e1,C1,ao,C2,p.sm,h1,λH2 k2 S2=>yL ⟨λσ' H'=>∃Θ1 e1 C1,eZ K Z Θ env σ H Θ1 e1 C1 σ' H'/\j9 c body m e1 C1=aa (fl,env',C'),λσ' H' h=>⟨m,YT m,h⟩,?_⟩⟩
   have p2:=p.trans (eZ.uz k2 (Fz.refl _) S2);split at hf
   .rename_i e3 C3 h2
    exact⟨Z,Θ1,e1,C2,.nx,e3,C3,S2,h2,λΘ3 σ3 H3 p3=>⟨Θ3,e3,C3,p2.trans p3,hf⟩⟩
   .rename_i e3 C3 h2
    exact⟨Z,Θ1,e1,C2,.ct,e3,C3,S2,h2,λΘ3 σ3 H3 p3=>⟨Θ3,e3,C3,p2.trans p3,hf⟩⟩
   .rename_i e3 C3 h2;cases hf
    exact⟨Z,Θ1,e1,C2,.bk,env',C',S2,h2,λΘ3 σ3 H3 p3=>q Θ3 σ3 H3 (p2.trans p3)⟩
   .rename_i r e3 C3 h2;cases hf
    exact⟨Z,Θ1,e1,C2,.rt r,env',C',S2,h2,λΘ3 v H3 p3=>q Θ3 v H3 (p2.ret p3)⟩
   .cases hf
  .cases hf
theorem GQ(hp:S7 (model X.prog X.w) X.A X.env X.xe)(hc:PT X c (fX X.K t))(hb:jO X body (tS X.K f)):PS X (.While c body [] pos) (tS X.K (uA t f)):=(akA hp hc hb).weak ajd
abbrev FI:=En->Ce->Option (List au×En×Ce)
def Br(P T:List aq)(H:Hp)(J:It)(its:List au):Prop:=∀(i:Nat)(H2:Hp)(P2:List aq),bJ (er P H) (er P2 H2)->bJ (er T H) (er T H2)->(∀a∈P2,H2 a≠aj)->
 (∀d,its[i]?=aa d->J.go i H2/\∀x H3,J.yS i H2 x H3->bJ H2 H3/\RZ (er P2 H3) d x)/\(i=its.length->J.stop i H2)
inductive tI(K:aJ)(b:Bool)(f:FI)(σ:St)(H:Hp)(R:It->Hp->Prop):Prop
 |mk (Z Θ:List aq) (env:En) (C:Ce) (its:List au) (env':En) (C':Ce) (S:Sm K Z Θ env C σ H) (hf:f env C=aa (its,env',C')) (q:∀J H',aX Θ H H'->Fz env env'->Sm K Z Θ env' C' σ H'->Br (aY Z Θ env' σ) (if b then Θ else aY Z Θ env' σ) H' J its->R J H'):tI K b f σ H R
theorem PI.weak(h:PI X tg e t)(w:∀σ H Q,t' σ H Q->t σ H Q):PI X tg e t':=λpins s σ H Q I q=>h pins s σ H Q I (w σ H Q q)
theorem PI.or(h:PI X tg e t)(h':PI X tg e t'):PI X tg e (λσ H R=>t σ H R\/t' σ H R):=λpins s σ H R I q=>q.elim (h pins s σ H R I) (h' pins s σ H R I)
section
variable{K:aJ}{P T:List aq}{H:Hp}{a:aq}{ds:List au}{vs:List V}
theorem Vc(ha:er T H a=aa (.lst vs))(r:cB (er P H) ds vs):Br P T H (W8 K a) ds:=λi H2 P2 s1 s2 n=>by
 have h2:bO K H2 a vs:=bO.of (jJ (s2 _ _ ha))
 refine⟨λd hd=>?_,λhi=>⟨vs,h2,by rw[jK r,hi];exact bU _⟩⟩
 obtain⟨v,ev,rv⟩:=yr r hd
 refine⟨⟨vs,v,h2,ev⟩,λx H3 y=>?_⟩
 obtain⟨rfl,y⟩:=y
 have:=y vs h2;rw[ev] at this;cases this
 exact⟨bJ.refl _,rv.same s1⟩
theorem VM(ha:er P H a=aa (.tup vs))(r:cB (er P H) ds vs):Br P T H (W9 K a) ds:=λi H2 P2 s1 s2 n=>by
 have h2:cW K H2 a vs:=cW.of (jJ (s1 _ _ ha))
 refine⟨λd hd=>?_,λhi=>⟨vs,h2,by rw[jK r,hi];exact bU _⟩⟩
 obtain⟨v,ev,rv⟩:=yr r hd
 refine⟨⟨vs,v,h2,ev⟩,λx H3 y=>?_⟩
 obtain⟨rfl,y⟩:=y
 have:=y vs h2;rw[ev] at this;cases this
 exact⟨bJ.refl _,rv.same s1⟩
def chars(z:Str):List au:=z.cps.toList.map λc=>.str ⟨#[c]⟩
theorem adZ(z:Str):Br P T H (Xi z) (chars z):=λi H2 P2 s1 s2 n=>by
 refine⟨λd hd=>?_,λhi=>?_⟩
 .unfold chars at hd;rw[jm] at hd;cases hc:z.cps.toList[i]? with
  |none=>rw[hc] at hd;cases hd
  |some c=>
   rw[hc] at hd;cases hd;have hc':z.cps[i]?=aa c:=by rw[<-Fe];exact hc
   have hlt:i<z.cps.size:=by
    obtain⟨h,_⟩:=Array.getElem?_eq_some_iff.mp hc'
    exact h
   refine⟨hlt,λx H3 y=>?_⟩
   obtain⟨rfl,c',ec,rfl⟩:=y
   rw[hc'] at ec;cases ec
   exact⟨bJ.refl _,rfl⟩
 .show z.cps.size<=i;rw[hi];unfold chars;rw[bw,jF];exact bU _
def jV(lo:Int)(n:Nat):List au:=(fP n).map λ(k:Nat)=>.int (lo+(k:Int))
theorem ak9(lo:Int)(n:Nat):Br P T H (O5 lo n) (jV lo n):=λi H2 P2 s1 s2 nn=>by
 refine⟨λd hd=>?_,λhi=>?_⟩
 .unfold jV at hd;rw[jm] at hd;by_cases hlt:i<n
  .rw[agN hlt] at hd;cases hd
   refine⟨hlt,λx H3 y=>?_⟩
   obtain⟨rfl,rfl⟩:=y
   exact⟨bJ.refl _,rfl⟩
  .rw[Cj (by rw[ou];lia)] at hd;cases hd
 .show n<=i;rw[hi];unfold jV;rw[bw,ou];exact bU _
end
def Jj:au->Option (List au)
 |.list ds=>aa ds
 |.tuple ds=>aa ds
 |.str z=>aa (chars z)
 |_=>aj
def iB(f:FB):FI:=λenv C=>match f env C with
 |some (d,e1,C1)=>match Jj d with
  |some its=>aa (its,e1,C1)
  |none=>aj
 |none=>aj
def iV(f:FE):FI:=λenv C=>match f env C with
 |some (r,e1,C1)=>match still r with
  |.im d=>match Jj d with
   |some its=>aa (its,e1,C1)
   |none=>aj
  |_=>aj
 |none=>aj
def qy(f:FB):FI:=λenv C=>match f env C with
 |some (.int j,_,C1)=>if -(2^62)<=j/\j<2^62 then aa (jV 0 j.toNat,env,C1) else aj
 |_=>aj
section
variable{X:Cx}{tg e:Expr}
theorem Bs(h:PE X e (dY X.K f))(hgo:∀i u,zG tg i u=pure ():=by intro _ _;rfl):PI X tg e (tI X.K ao (iB f)):=(((UL h).or (Vx h)).or (adO h hgo)).weak λσ H R aN=>by
 obtain⟨Z,Θ,env,C,its,env',C',S,hf,q⟩:=aN
 unfold iB at hf;split at hf
 .rename_i d e1 C1 h1;split at hf
  .rename_i ys hi;cases hf;cases d<;>first|cases hi|skip
   .refine .inr ⟨Z,Θ,env,C,_,env',C',S,h1,λv H1 k f S1 b=>⟨_,b,q _ H1 k f S1 (adZ _)⟩⟩
   .refine .inl (.inl ⟨Z,Θ,env,C,_,env',C',S,h1,λv H1 k f S1 b=>?_⟩)
    obtain⟨a,vs,rfl,ha,r⟩:=b
    exact⟨a,rfl,⟨vs,bO.of (jJ ha)⟩,q _ H1 k f S1 (Vc ha r)⟩
   .refine .inl (.inr ⟨Z,Θ,env,C,_,env',C',S,h1,λv H1 k f S1 b=>?_⟩)
    obtain⟨a,vs,rfl,ha,r⟩:=b
    exact⟨a,rfl,⟨vs,cW.of (jJ ha)⟩,q _ H1 k f S1 (VM ha r)⟩
  .cases hf
 .cases hf
theorem yQ(h:PE X e (tE X.K f))(hgo:∀i u,zG tg i u=pure ():=by intro _ _;rfl):PI X tg e (tI X.K aF (iV f)):=(((UL h).or (Vx h)).or (adO h hgo)).weak λσ H R aN=>by
 obtain⟨Z,Θ,env,C,its,env',C',S,hf,q⟩:=aN
 unfold iV at hf;split at hf
 .rename_i r e1 C1 h1;split at hf
  .rename_i d hd;split at hf
   .rename_i ys hi;cases hf;cases d<;>first|cases hi|skip
    .refine .inr ⟨Z,Θ,env,C,_,env',C',S,h1,λv H1 k f R=>?_⟩
     obtain⟨S1,b⟩:=R.wC hd
     exact⟨_,b,q _ H1 k f S1 (adZ _)⟩
    .refine .inl (.inl ⟨Z,Θ,env,C,_,env',C',S,h1,λv H1 k f R=>?_⟩)
     obtain⟨S1,a,vs,rfl,ha,r⟩:=R.wC hd
     exact⟨a,rfl,⟨vs,bO.of (jJ ha)⟩,q _ H1 k f S1 (Vc ha r)⟩
    .refine .inl (.inr ⟨Z,Θ,env,C,_,env',C',S,h1,λv H1 k f R=>?_⟩)
     obtain⟨S1,a,vs,rfl,ha,r⟩:=R.wC hd
     exact⟨a,rfl,⟨vs,cW.of (jJ ha)⟩,q _ H1 k f S1 (VM ha r)⟩
   .cases hf
  .cases hf
 .cases hf
theorem z7(hg:Gl X "range")(hm:X.mg "range"=aj)(ha:PE X a (dY X.K f))(hs:bC [a] X.env=(aF,eval a X.env)::bC [] X.env:=by rfl)(hs':bC [a] X.env=[(aF,eval a X.env)]:=by rfl):PI X tg (.Call (.Name "range" p) [a] [] pos) (tI X.K b (qy f)):=
 (ajA hg hm (eU ha fZ hs) hs').weak λσ H R aN=>by
  obtain⟨Z,Θ,env,C,its,env',C',S,hf,q⟩:=aN
  unfold qy at hf;split at hf
  .rename_i j e1 C1 h1;split at hf
   .rename_i hj;cases hf
    refine⟨Z,Θ,env,C,[.int j],e1,C',S,by unfold dM eX;rw[h1],λvs H1 k f S1 b1=>?_⟩
    cases b1 with
    |cons b1 b2=>
     cases b2
     exact⟨j,by rw[show _=V.int j from b1],hj.1,hj.2,q _ H1 k (Fz.refl _) (S.go k S1.cell) (ak9 0 j.toNat)⟩
   .cases hf
  .cases hf
end
def gC(g:FG)(body:FS):List au->FS
 |[]=>λenv C=>aa (.nx,env,C)
 |d::r=>λenv C=>match g d env with
  |some e1=>match body e1 C with
   |some (.nx,e2,C2)=>gC g body r e2 C2
   |some (.ct,e2,C2)=>gC g body r e2 C2
   |some (.bk,e2,C2)=>aa (.nx,e2,C2)
   |some (.rt v,e2,C2)=>aa (.rt v,e2,C2)
   |none=>aj
  |none=>aj
def jt(fi:FI)(g:FG)(body:FS):FS:=λenv C=>match fi env C with
 |some (its,e1,C1)=>gC g body its e1 C1
 |none=>aj
theorem eZ.er{K:aJ}{Z Θ Θ1:List aq}{env e1:En}{C1:Ce}{σ σ1:St}{H H1:Hp}(p:eZ K Z Θ env σ H Θ1 e1 C1 σ1 H1):bJ (er (aY Z Θ env σ) H) (er (aY Z Θ1 e1 σ1) H1):=λb o h=>by
 unfold L2.er at h⊢;split at h
 .cases h
 .rename_i n;have hb:H b≠aj:=by rw[h];exact xH _
  rw[bf]
  .refine p.kp.keep b o h λm=>n ?_
   rcases dD.mp m with m|m
   .exact iQ.mpr (.inr (.inl m))
   .exact iQ.mpr (.inr (.inr m))
  .intro m;rcases iQ.mp m with m|m|m
   .exact n (iQ.mpr (.inl m))
   .obtain⟨Δ,e,hn⟩:=p.th.ex
    rw[e] at m;rcases dD.mp m with m|m
    .exact n (iQ.mpr (.inr (.inl m)))
    .exact hb (hn b m)
   .rcases p.own b m with m|m
    .exact n (iQ.mpr (.inr (.inr m)))
    .exact hb m
theorem amE(s:bJ (er P H) (er P2 H2)):bJ (er P H) (er P H2):=λb o h=>by
 have h2:=jJ (s b o h);unfold er at h⊢;split at h
 .cases h
 .rename_i n;rw[bf n];exact h2
theorem ala{K:aJ}{fi:FI}{g:TG}{fg:FG}{body:FS}(L:Ey K g fg):∀D σ H,tS K (jt fi fg body) D σ H->aeS (tI K aF fi) g (tS K body) D σ H:=by
 rintro D σ H ⟨Z,Θ,env,C,fl,env',C',S,hf,q⟩;unfold jt at hf;split at hf
 .rename_i its e1 C1 h1
  refine⟨Z,Θ,env,C,its,e1,C1,S,h1,λJ H1 k1 f1 S1 it=>?_⟩
  have p1:=eZ.uz k1 f1 S1
  refine⟨λi m σ2 H2=>m=its.length-i/\i<=its.length/\∃Θ2 e2 C2,eZ K Z Θ e1 σ H1 Θ2 e2 C2 σ2 H2/\gC fg body (its.drop i) e2 C2=aa (fl,env',C'),⟨its.length,rfl,kI _,Θ,e1,C1,eZ.same S1,hf⟩,?_⟩
  rintro i m σ2 H2 ⟨rfl,hi,Θ2,e2,C2,p2,hl⟩
  obtain⟨Xq,Xr⟩:=it i H2 (aY Z Θ2 e2 σ2) p2.er (amE p2.er) p2.sm.Bj
  cases hd:its[i]? with
  |none=>
   have hi2:i=its.length:=by
    have:=XN.mp hd;lia
   rw[hi2,ahu] at hl;cases hl;exact .inl ⟨Xr hi2,q Θ2 σ2 H2 (p1.trans p2)⟩
  |some d=>
   have hlt:i<its.length:=(jW.mp hd).1;have ed:its.drop i=d::its.drop (i+1):=by
    rw[agf hlt]
    obtain⟨_,e⟩:=jW.mp hd
    rw[e]
   rw[ed] at hl;unfold gC at hl
   obtain⟨go,yl⟩:=Xq d hd
   refine .inr ⟨go,λσ' H'=>∃Θ2 e2 C2,eZ K Z Θ e1 σ H1 Θ2 e2 C2 σ' H'/\gC fg body (its.drop (i+1)) e2 C2=aa (fl,env',C'),λσ' H' h=>⟨its.length-(i+1),by lia,rfl,hlt,h⟩,λx H3 y=>?_⟩
   obtain⟨s3,r3⟩:=yl x H3 y
   have S3:=p2.sm.Av s3;have p3:=p2.trans (eZ.uz (aX.of s3) (Fz.refl _) S3);split at hl
   .rename_i e4 h4;refine L Z Θ2 e2 C2 σ2 H3 x d e4 S3 r3 h4 _ λσ4 S4 o4=>?_
    have p4:eZ K Z Θ e1 σ H1 Θ2 e4 C2 σ4 H3:=p3.trans ⟨lK.refl _ _,aX.refl _ _,λa m=>.inl (o4 a m),S4⟩;split at hl
    .rename_i e5 C5 h5
     exact⟨Z,Θ2,e4,C2,.nx,e5,C5,S4,h5,λΘ5 σ5 H5 p5=>⟨Θ5,e5,C5,p4.trans p5,hl⟩⟩
    .rename_i e5 C5 h5
     exact⟨Z,Θ2,e4,C2,.ct,e5,C5,S4,h5,λΘ5 σ5 H5 p5=>⟨Θ5,e5,C5,p4.trans p5,hl⟩⟩
    .rename_i e5 C5 h5;cases hl
     exact⟨Z,Θ2,e4,C2,.bk,env',C',S4,h5,λΘ5 σ5 H5 p5=>q Θ5 σ5 H5 (p1.trans (p4.trans p5))⟩
    .rename_i r e5 C5 h5;cases hl
     exact⟨Z,Θ2,e4,C2,.rt r,env',C',S4,h5,λΘ5 v H5 p5=>q Θ5 v H5 (p1.ret (p4.ret p5))⟩
    .cases hl
   .cases hl
 .cases hf
theorem qP(hp:S7 (model X.prog X.w) X.A X.env X.xe)(hc:X.calm=ao)(hi:PI X tg iter (tI X.K aF fi))(hg:PG X tg g)(L:Ey X.K g fg)(hb:jO X body (tS X.K f))
  (hs:∀x,vB iter X.env x=pure x:=by intro _;rfl):PS X (.For tg iter body [] pos) (tS X.K (jt fi fg f)):=(anL hp hc hi hg hb hs).weak (ala L)
def vq:gY->au->Option (List au)
 |.one,d=>aa [d]
 |.many n,.tuple ds=>if ds.length=n then aa ds else aj
 |_,_=>aj
def frB(js:List Nat)(env:En):En:=js.map λj=>((env[j]?).join).map still
def dN(ds:List au):En:=ds.map λd=>aa (.im d)
def jU(T:gY)(ft:FT)(fe:FE)(fs:En):List au->Ce->Option (List au×Ce)
 |[],C=>aa ([],C)
 |d::r,C=>match vq T d with
  |some ts=>match ft (dN ts++fs) C with
   |some (false,C1)=>jU T ft fe fs r C1
   |some (true,C1)=>match fe (dN ts++fs) C1 with
    |some (x,_,C2)=>match still x with
     |.im y=>match jU T ft fe fs r C2 with
      |some (ys,C3)=>aa (y::ys,C3)
      |none=>aj
     |_=>aj
    |none=>aj
   |none=>aj
  |none=>aj
def gZ(js:List Nat)(env:En):En:=env.mapIdx λi x=>if i∈js then x.map still else x
def lY(fi:FI)(T:gY)(ft:FT)(fe:FE)(js:List Nat):FE:=λenv C=>match fi env C with
 |some (its,e1,C1)=>match jU T ft fe (frB js e1) its C1 with
  |some (ys,C2)=>if ys.length<=gF then aa (.ow (.list ys),if fQ ys then e1 else gZ js e1,C2) else aj
  |none=>aj
 |none=>aj
theorem aeE:∀{a b:En},a.length=b.length->(∀(i:Nat)(x y:Option Vl),a[i]?=aa x->b[i]?=aa y->Xm x y)->Fz a b
 |[],[],_,_=>trivial
 |x::r,y::t,hl,h=>⟨h 0 x y rfl rfl,aeE (by simpa using hl) λi u v h1 h2=>h (i+1) u v (by simpa using h1) (by simpa using h2)⟩
 |[],_::_,hl,_=>by cases hl
 |_::_,[],hl,_=>by cases hl
theorem DW(js:List Nat)(env:En):Fz env (gZ js env):=aeE (by unfold gZ;rw[List.length_mapIdx]) λi x y h1 h2=>by
 unfold gZ at h2;rw[agI,h1] at h2;have h2:(if i∈js then zY still x else x)=y:=gP h2;rw[<-h2];split
 .cases x with
  |none=>exact .inl rfl
  |some x=>
   cases x with
   |ow d=>exact .inr ⟨d,rfl,rfl⟩
   |im d=>exact .inl rfl
   |ce n=>exact .inl rfl
   |sc ns=>exact .inl rfl
   |tp=>exact .inl rfl
 .exact .inl rfl
theorem ad0{js:List Nat}{env:En}{k:Nat}{x:Vl}(h:(frB js env)[k]?=aa (aa x)):∃j:Nat,js[k]?=aa j/\(gZ js env)[j]?=aa (aa x)/\∀d,x≠.ow d:=by
 unfold frB at h;rw[jm] at h;cases hj:js[k]? with
 |none=>rw[hj] at h;cases h
 |some j=>
  rw[hj] at h;have h':((env[j]?).join).map still=aa x:=gP h
  refine⟨j,rfl,?_,?_⟩
  .unfold gZ;rw[agI];cases hv:env[j]? with
   |none=>rw[hv] at h';cases h'
   |some y=>
    rw[hv] at h';show aa (if j∈js then zY still y else y)=_;rw[aV (qF hj)];exact congrArg aa h'
  .cases hv:(env[j]?).join with
   |none=>rw[hv] at h';cases h'
   |some y=>
    rw[hv] at h';have e:still y=x:=gP h';rw[<-e];intro d z;cases y<;>cases z
theorem DX:∀{env:En}{σ:St},(∀(i:Nat)(d:au),env[i]?≠aa (aa (.ow d)))->bT env σ=[]
 |[],σ,_=>by cases σ<;>rfl
 |_::_,[],_=>rfl
 |x::e,v::s,h=>by
  rw[bT,DX (env:=e) (σ:=s) λi d z=>h (i+1) d (by simpa using z)];have h0:=h 0;simp at h0;unfold own1;split
  .rename_i d a;exact absurd rfl (h0 d)
  .rfl
section
variable{K:aJ}{Z Θ:List aq}{env:En}{C C2:Ce}{σ:St}{H H2:Hp}{D:aq}
abbrev lV(D:aq)(Z:List aq)(env:En)(σ:St):List aq:=D::(Z++bT env σ)
theorem pZ{js:List Nat}{a:aq}{eB:En}{sB:St}(h:bT eB sB=[]):a∈aY (lV D Z env σ) Θ eB sB↔a=D\/a∈aY Z Θ env σ:=by
 rw[iQ,iQ,h,bY,dD];constructor
 .rintro((h|h|h)|h|h)
  .exact .inl h
  .exact .inr (.inl h)
  .exact .inr (.inr (.inr h))
  .exact .inr (.inr (.inl h))
  .nomatch h
 .rintro(h|h|h|h)
  .exact .inl (.inl h)
  .exact .inl (.inr (.inl h))
  .exact .inr (.inl h)
  .exact .inl (.inr (.inr h))
theorem Nq{js:List Nat}{ts:List au}:∀(i:Nat)(d:au),(dN ts++frB js env)[i]?≠aa (aa (.ow d)):=λi d z=>by
 by_cases hi:i<(dN ts).length
 .rw[oh hi] at z;unfold dN at z;rw[jm] at z;cases h:ts[i]? with
  |none=>rw[h] at z;cases z
  |some t=>rw[h] at z;cases z
 .rw[qD (by lia)] at z
  obtain⟨j,_,_,h⟩:=ad0 z
  exact h d rfl
theorem Sm.blk{js:List Nat}{ts:List au}{vs:List V}(S:Sm K Z Θ (gZ js env) C σ H)(hD:H D=o7)(k:aX Θ H H2)(nt:NT (H2 D))(c:p7 Θ C2 H2)(r:cB (er (aY (lV D Z (gZ js env) σ) Θ [] []) H2) ts vs):
  Sm K (lV D Z (gZ js env) σ) Θ (dN ts++frB js env) C2 (vs.map aa++frees js σ) H2:=by
 have no:=DX (env:=dN ts++frB js env) (σ:=vs.map aa++frees js σ) Nq;have c7:=S.c7;have lv:=jK r;have Ph:(dN ts).length=ts.length:=by unfold dN;rw[bw]
 have ee:er (aY (lV D Z (gZ js env) σ) Θ (dN ts++frB js env) (vs.map aa++frees js σ)) H2=er (aY (lV D Z (gZ js env) σ) Θ [] []) H2:=rR λa=>by rw[pZ (js:=js) no,pZ (js:=js) rfl]
 have sm:bJ (er (aY Z Θ (gZ js env) σ) H) (er (aY (lV D Z (gZ js env) σ) Θ [] []) H2):=mF k S.sW λb m=>by
  rcases(pZ (js:=js) rfl).mp m with rfl|m
  .exact .inr hD
  .exact .inl m
 refine⟨?_,?_,λb m=>?_,λi x e=>?_,c⟩
 .rw[fU,fU,bw,lv,Ph];unfold frees frB;rw[bw,bw]
 .show(lV D Z (gZ js env) σ++(Θ++bT (dN ts++frB js env) (vs.map aa++frees js σ))).Nodup
  rw[no];refine zf (je.mpr ⟨λm=>?_,?_⟩) c7.2.1 mj (λb m m'=>?_) (λ_ m=>nomatch m)
  .rcases dD.mp m with m|m
   .exact(S.dom D m).ne hD
   .exact S.Bj D (iQ.mpr (.inr (.inr m))) hD
  .rw[kE]
   exact⟨c7.1,c7.2.2.1,λb m c' m' e=>by subst e;exact(S.nH m').1 m⟩
  .rcases bY.mp m with rfl|m
   .exact S.Bj b (iQ.mpr (.inr (.inl m'))) hD
   .rcases dD.mp m with m|m
    .exact c7.2.2.2 b m m'
    .exact(S.nH m).2 m'
 .rcases bY.mp m with rfl|m
  .exact nt
  .have:NT (H b)/\b∉Θ:=by
    rcases dD.mp m with m|m
    .exact⟨S.dom b m,c7.2.2.2 b m⟩
    .exact⟨S.Pb b (iQ.mpr (.inr (.inr m))),(S.nH m).2⟩
   obtain⟨⟨u,e,n⟩,nb⟩:=this
   exact⟨u,k.keep _ _ e nb,n⟩
 .rw[ee];by_cases hi:i<ts.length
  .rw[oh (by rw[Ph];exact hi)] at e;unfold dN at e;rw[jm] at e;cases ht:ts[i]? with
   |none=>rw[ht] at e;cases e
   |some t=>
    rw[ht] at e;cases e
    obtain⟨v,ev,rv⟩:=yr r ht
    exact⟨v,by rw[oh (by rw[bw,lv];exact hi),jm,ev];rfl,rv⟩
  .rw[qD (by rw[Ph];lia),Ph] at e
   obtain⟨j,hj,hx,nx⟩:=ad0 e
   obtain⟨v,ev,rv⟩:=S.slot j x hx
   refine⟨v,?_,rv.same sm λd _ z=>absurd z (nx d)⟩
   rw[qD (by rw[bw,lv];lia),bw,lv];unfold frees;rw[jm,hj];show aa ((σ[j]?).join)=_;rw[ev];rfl
end
def iZ:FT:=λ_ C=>aa (ao,C)
theorem vN{X:Cx}:oU X [] (fX X.K iZ):=λpins s σ H Q I aN=>by
 obtain⟨Z,Θ,env,C,b,C',S,hf,q⟩:=aN
 cases hf;exact amf pins s σ H Q I (q H (aX.refl _ _) S)
theorem yj{X:Cx}{c:Expr}{f:FT}(h:PT X c (fX X.K f)):oU X [c] (fX X.K f):=amg h
theorem apj{K:aJ}{T:gY}{E H:Hp}{d:au}{x:V}{ts:List au}(h:vq T d=aa ts)(r:RZ E d x)(s:bJ E H):∃vs,yV K T x H vs/\cB E ts vs:=by
 cases T with
 |one=>cases h;exact⟨[x],rfl,x,[],rfl,r,rfl⟩
 |many n=>
  cases d<;>first|cases h|skip
  rename_i ds;have h:(if ds.length=n then aa ds else aj)=aa ts:=h;split at h
  .rename_i hl;cases h
   obtain⟨a,vs,rfl,ha,r⟩:=r
   exact⟨vs,⟨a,rfl,cW.of (s _ _ ha),(jK r).trans hl⟩,r⟩
  .cases h
def uZ{α:Type}(T:gY)(ft:FT)(st:En->α->Ce->Option (α×Ce))(fs:En):List au->α->Ce->Option (α×Ce)
 |[],a,C=>aa (a,C)
 |d::r,a,C=>(vq T d).bind λts=>(ft (dN ts++fs) C).bind λp=>bif p.1 then(st (dN ts++fs) a p.2).bind λq=>uZ T ft st fs r q.1 q.2 else uZ T ft st fs r a p.2
inductive afh{α:Type}(Θ:List aq)(H1:Hp)(n:Nat)(Ob:α->Hp->Prop)(run:Nat->α->Ce->Prop)(i m:Nat)(H2:Hp):Prop
 |mk (a:α) (Ci:Ce) (hm:m=n-i) (hi:i<=n) (ki:aX Θ H1 H2) (ci:p7 Θ Ci H2) (ob:Ob a H2) (hc:run i a Ci):afh Θ H1 n Ob run i m H2
section
variable{K:aJ}{α:Type}{T:gY}{ft:FT}{st:En->α->Ce->Option (α×Ce)}{js:List Nat}{Z Θ:List aq}{e1:En}{C1 C':Ce}{σ:St}{H1:Hp}{J:It}{its:List au}{D:aq}{o0:HO}{a0 aE:α}
theorem VN{Hx Hy:Hp}{u:HO}(hD:H1 D=o7)(kk:aX Θ H1 Hx):aX Θ H1 (upd Hx D u):=by
 refine⟨λa o ha na=>?_,λa ha=>?_⟩
 .rw[cV (qL ha hD)];exact kk.keep _ _ ha na
 .by_cases z:a=D
  .subst z;rw[eN];exact xH _
  .rw[cV z];exact kk.dom a ha
theorem LR{Hx:Hp}{u:HO}(hD:D∉Θ)(c:p7 Θ C1 Hx):p7 Θ C1 (upd Hx D u):=by
 refine⟨c.len,λn b ns e2 e3=>?_⟩
 rw[cV]
 .exact c.at_ n b ns e2 e3
 .intro z;subst z;exact hD (qF e2)
theorem Uj{em:TM}{Ob:α->Hp->Prop}{done:Hp->Prop}(S1:Sm K Z Θ e1 C1 σ H1)(it:Br (aY Z Θ e1 σ) Θ H1 J its)(hD:H1 D=o7)(ob0:Ob a0 (upd H1 D o0))(Ez:∀a Hx Hy,aX Θ Hx Hy->Ob a Hx->Ob a Hy)(obn:∀a Hx,Ob a Hx->NT (Hx D))
  (hem:∀(ts:List au)(a:α)(C2:Ce)(p:α×Ce)(vs:List V)(H4:Hp)(Q:Hp->Prop),st (dN ts++frB js e1) a C2=aa p->Sm K (lV D Z (gZ js e1) σ) Θ (dN ts++frB js e1) C2 (vs.map aa++frees js σ) H4->aX Θ H1 H4->Ob a H4->(∀H6,aX Θ H1 H6->p7 Θ p.2 H6->Ob p.1 H6->Q H6)->em (vs.map aa++frees js σ) H4 Q)
  (hc:uZ T ft st (frB js e1) its a0 C1=aa (aE,C'))(hq:∀H2,aX Θ H1 H2->p7 Θ C' H2->Ob aE H2->done H2):yM K T (fX K ft) em (frees js σ) J (upd H1 D o0) done:=by
 have sU:D∉Θ:=λm=>(S1.cell.dom D m).ne hD
 have S1f:=S1.fz (DW js e1)
 refine⟨afh Θ H1 its.length Ob (λi a Ci=>uZ T ft st (frB js e1) (its.drop i) a Ci=aa (aE,C')),⟨its.length,⟨a0,C1,rfl,kI _,aX.upd hD,LR sU S1.cell,ob0,hc⟩⟩,λi m H2 hh=>?_⟩
 cases hh with
 |mk a Ci hm hi ki ci ob hc=>
 subst hm;have nt:=obn a H2 ob;have smP:bJ (er (aY Z Θ e1 σ) H1) (er (aY (lV D Z (gZ js e1) σ) Θ [] []) H2):=mF ki S1.sW λb m=>by
  rcases(pZ (js:=js) rfl).mp m with rfl|m
  .exact .inr hD
  .exact .inl ((DW js e1).sub b m)
 have aqj:∀a∈aY (lV D Z (gZ js e1) σ) Θ [] [],H2 a≠o7:=λa m=>(S1f.blk hD ki nt ci (show cB _ [] [] from rfl)).Bj a ((pZ (js:=js) (DX (env:=dN []++frB js e1) Nq)).mpr ((pZ (js:=js) rfl).mp m))
 obtain⟨Xq,Xr⟩:=it i H2 _ smP (adT ki) aqj
 cases hd:its[i]? with
 |none=>
  have hi2:i=its.length:=Nat.le_antisymm hi (XN.mp hd);rw[hi2,ahu] at hc;cases hc;exact .inl ⟨Xr hi2,hq H2 ki ci ob⟩
 |some d=>
  obtain⟨hlt,ed⟩:=jW.mp hd
  rw[agf hlt,ed] at hc
  obtain⟨go,yl⟩:=Xq d hd
  refine .inr ⟨go,λx H3 y=>?_⟩
  obtain⟨s3,r3⟩:=yl x H3 y
  obtain⟨ts,ht,hc⟩:=jf hc
  obtain⟨p,hft,hc⟩:=jf hc
  obtain⟨vs,tv,rvs⟩:=apj (K:=K) ht r3 (Ed _ _)
  refine⟨vs,tv,?_⟩
  have k3:aX Θ H1 H3:=ki.trans (aX.of s3);have Xu:=Ez a _ _ (aX.of s3) ob;have SB:=S1f.blk (js:=js) hD k3 (obn a H3 Xu) ⟨ci.len,λn b ns e2 e3=>s3 _ _ (ci.at_ n b ns e2 e3)⟩ rvs;have lt:its.length-(i+1)<its.length-i:=by lia
  refine⟨_,Θ,_,Ci,p.1,p.2,SB,hft,λH4 k4 S4=>?_⟩
  cases hp:p.1 with
  |false=>
   rw[hp] at hc;exact yK ⟨_,lt,⟨a,p.2,rfl,hlt,k3.trans k4,S4.cell,Ez a _ _ k4 Xu,hc⟩⟩
  |true=>
   rw[hp] at hc
   obtain⟨q,hs,hc⟩:=jf hc
   exact yL (hem ts a p.2 q vs H4 _ hs S4 (k3.trans k4) (Ez a _ _ k4 Xu) λH6 k6 c6 o6=>⟨_,lt,⟨q.1,q.2,rfl,hlt,k6,c6,o6,hc⟩⟩)
end
def WY(fe:FE):En->List au->Ce->Option (List au×Ce):=λenv acc C=>(fe env C).bind λq=>(ux (still q.1)).bind λy=>bif decide (acc.length<gF) then aa (acc++[y],q.2.2) else aj
theorem Vd{T:gY}{ft:FT}{fe:FE}{fs:En}{C':Ce}:∀{its:List au}{ys acc:List au}{C:Ce},jU T ft fe fs its C=aa (ys,C')->acc.length+ys.length<=gF->uZ T ft (WY fe) fs its acc C=aa (acc++ys,C')
 |[],ys,acc,C,h,_=>by
  cases h;rw[jd];rfl
 |d::r,ys,acc,C,h,hl=>by
  unfold jU at h;unfold uZ;split at h
  case h_2=>cases h
  rename_i ts ht;rw[ht,iJ];split at h
  case h_3=>cases h
  .rename_i C1 hf;rw[hf,iJ];exact Vd h hl
  .rename_i C1 hf;rw[hf,iJ];split at h
   case h_2=>cases h
   rename_i x e2 C2 hx;split at h
   case h_2=>cases h
   rename_i y hy;split at h
   case h_2=>cases h
   rename_i zs C3 hz;cases h;rw[cA] at hl
   show(WY fe (dN ts++fs) acc C1).bind _=_
   unfold WY;rw[hx,iJ,hy,show ux (.im y)=aa y from rfl,iJ,cY (by lia),show acc++y::zs=(acc++[y])++zs by rw[lA];rfl];exact Vd hz (by rw[fU];show acc.length+1+_<=_;lia)
theorem ac6{K:aJ}{fi:FI}{T:gY}{ft:FT}{fe:FE}{js:List Nat}:∀σ H Q,tE K (lY fi T ft fe js) σ H Q->Xg K (tI K ao fi) T (λ_=>fX K ft) (λ_=>tE K fe) js σ H Q:=by
 rintro σ H Q ⟨Z,Θ,env,C,res,env',C',S,hf,q⟩;unfold lY at hf;split at hf
 case h_2=>cases hf
 rename_i its e1 C1 h1;split at hf
 case h_2=>cases hf
 rename_i ys C2 h2;split at hf
 case isFalse=>cases hf
 rename_i hl;cases hf
 refine⟨Z,Θ,env,C,its,e1,C1,S,h1,λJ H1 k1 f1 S1 it D hD b=>?_⟩
 have sU:D∉Θ:=λm=>(S1.cell.dom D m).ne hD
 have Xv:D∈aY (lV D Z (gZ js e1) σ) Θ [] []:=(pZ (js:=js) rfl).mpr (.inl rfl);refine Uj (a0:=[]) (Ob:=λacc Hx=>kW (er (aY (lV D Z (gZ js e1) σ) Θ [] []) Hx) Hx D (.list acc)) S1 it hD ⟨[],eN,rfl⟩ (λa Hx Hy kk r=>r.same (mF kk (λa m=>iQ.mpr (.inr (.inl m))) λa m=>.inl m) λo h=>kk.keep _ _ h sU)
  (λa Hx r=>by obtain⟨vs,e,_⟩:=r;exact⟨_,e,λ_ z=>nomatch z⟩) ?_ (Vd (acc:=[]) h2 (by rw[FP,Rp];exact hl)) λH2 ki ci r=>?_
 .intro ts acc C2 p vs H4 Q hs S4 k4 r4 hQ
  obtain⟨w,hfe,hs⟩:=jf hs
  obtain⟨yd,uB,hs⟩:=jf hs
  have uB:=Hz uB;cases hlt:decide (acc.length<gF) with
  |false=>rw[hlt] at hs;cases hs
  |true=>
  rw[hlt] at hs;cases hs
  refine⟨_,Θ,_,C2,w.1,w.2.1,w.2.2,S4,hfe,λy H5 k5 f5 R5=>?_⟩
  obtain⟨S5,r5⟩:=R5.wC uB
  obtain⟨wO,hD5,rr⟩:=r4.same (mF k5 (λa m=>iQ.mpr (.inr (.inl m))) λa m=>.inl m) λo h=>k5.keep _ _ h sU
  have Xw:bT w.2.1 (vs.map aa++frees js σ)=[]:=by
   have:=(Fz.own (σ:=vs.map aa++frees js σ) f5)
   rw[DX Nq] at this;exact ahv.mp this
  have e5:er (aY (lV D Z (gZ js e1) σ) Θ w.2.1 (vs.map aa++frees js σ)) H5=er (aY (lV D Z (gZ js e1) σ) Θ [] []) H5:=rR λa=>by rw[pZ (js:=js) Xw,pZ (js:=js) rfl]
  rw[e5] at r5;have lt:=of_decide_eq_true hlt
  refine⟨wO,hD5,by rw[jK rr,iM];unfold gF at lt;lia,hQ _ (VN (Hy:=H5) hD (k4.trans k5)) (LR sU S5.cell) ⟨_,eN,?_⟩⟩
  rw[Np Xv];exact Ac rr ⟨y,[],rfl,r5,rfl⟩
 .obtain⟨wO,hDi,ri⟩:=r
  refine q _ H2 (k1.trans ki) ?_ ?_
  .split
   .exact f1
   .exact f1.trans (DW js e1)
  .refine⟨D,rfl,k1.none hD,?_⟩
   split
   .rename_i hn;have SD:=S1.Az hD ki ⟨_,hDi,λ_ z=>nomatch z⟩ ci
    exact⟨SD,wO,hDi,ri.lg (λa vs e=>DN SD (jJ e)) hn⟩
   .refine⟨(S1.fz (DW js e1)).Az hD ki ⟨_,hDi,λ_ z=>nomatch z⟩ ci,wO,hDi,?_⟩
    rw[rR (P':=aY (D::Z) Θ (gZ js e1) σ) λa=>by rw[pZ (js:=js) rfl];show _↔a∈D::aY Z Θ (gZ js e1) σ;rw[bY]] at ri;exact ri
section
variable{X:Cx}{NT NF:List Str}{js:List Nat}{elt tg iter:Expr}{ifs:List Expr}{T:gY}{fi:FI}{ft:FT}{fe:FE}{scope:jT}{pos:Pos}
theorem wF(B:qR X NT NF js scope)(tk:qm tg NT T)(hc:X.calm=ao)(hi:PI X tg iter (tI X.K ao fi))
  (hin:∀b,oU (X.bk (NT++NF) scope b) ifs (fX X.K ft)/\PE (X.bk (NT++NF) scope b) elt (tE X.K fe))
  (hs:∀x,vB iter X.env x=pure x:=by intro _;rfl):PE X (.ListComp elt [⟨tg,iter,ifs,0⟩] scope pos) (tE X.K (lY fi T ft fe js)):=(apf B tk hc hi hin hs).weak ac6
theorem GR{i:Nat}{y:Str}{pos' spos:Pos}(B:qR X NT NF js scope)(tk:qm tg NT T)(hc:X.calm=ao)(hi:PI X tg iter (tI X.K ao fi))
  (hin:∀b,oU (X.bk (NT++NF) scope b) ifs (fX X.K ft)/\PE (X.bk (NT++NF) scope b) elt (tE X.K fe))
  (hsw:xV (.ListComp elt [⟨tg,iter,ifs,0⟩] scope pos) (aa (.Name y pos')) spos.line X.env=pure ao)(hN:X.N.Nodup)(hI:X.N[i]?=aa y)(hy:X.env.scope.names.lookup y=aa .local)
  (hs:∀x,vB iter X.env x=pure x:=by intro _;rfl):PS X (.Assign [.Name y pos'] (.ListComp elt [⟨tg,iter,ifs,0⟩] scope pos) spos) (tS X.K (dH i (lY fi T ft fe js))):=(akN B tk hc hi hin hsw hN hI hy hs).weak (Uh ac6)
end
def wG(n:Nat):Vl->Bool
 |.ce m=>decide (m<n)
 |_=>ao
def fN(k n:Nat)(body:FS):FN:=λxs C=>if xs.length=k then match body (xs.map aa++dI (n-xs.length) aj) C with
  |some (.rt r,_,C')=>if wG C.length r then aa (r,C'.take C.length) else aj
  |some (.nx,_,C')=>aa (.im .none,C'.take C.length)
  |_=>aj
 else aj
section
variable{K:aJ}{Z Θ:List aq}{C:Ce}{H:Hp}{xs:List Vl}{vs:List V}
theorem Uk(a:pC K E Θ xs vs):vs.length=xs.length:=by
 induction a with
 |nil=>rfl
 |cons _ _ ih=>rw[cA,cA,ih]
theorem amF(a:pC K E Θ xs vs):∀{i:Nat}{x:Vl},xs[i]?=aa x->∃v,vs[i]?=aa v/\wB K E Θ x v:=by
 induction a with
 |nil=>intro i x e;simp at e
 |cons h _ ih=>
  intro i x e;cases i with
  |zero=>simp at e;subst e;exact⟨_,rfl,h⟩
  |succ i=>
   obtain⟨v,e2,h2⟩:=ih (i:=i) (by simpa using e)
   exact⟨v,by simpa using e2,h2⟩
theorem Sm.start(S:Sm K Z Θ [] C [] H)(a:pC K (er (aY Z Θ [] []) H) Θ xs vs):Sm K Z Θ (xs.map aa++dI n o7) C (vs.map aa++dI n o7) H/\bT (xs.map aa++dI n o7) (vs.map aa++dI n o7)=[]:=by
 have lv:=Uk a;have at':∀{i:Nat}{x:Vl},(xs.map aa++dI n o7)[i]?=aa (aa x)->∃v,vs[i]?=aa v/\wB K (er (aY Z Θ [] []) H) Θ x v/\i<vs.length:=λ{i x} e=>by
  by_cases hi:i<xs.length
  .rw[oh (by rw[bw];exact hi),jm] at e;cases hx:xs[i]? with
   |none=>rw[hx] at e;cases e
   |some y=>
    rw[hx] at e;cases e
    obtain⟨v,e1,h⟩:=amF a hx
    exact⟨v,e1,h,by rw[lv];exact hi⟩
  .rw[qD (by rw[bw];lia)] at e;have:=qF e;exact nomatch(List.eq_of_mem_replicate this)
 have no:bT (xs.map aa++dI n o7) (vs.map aa++dI n o7)=[]:=DX λi d e=>by
  obtain⟨v,_,h,_⟩:=at' e
  exact h
 refine⟨⟨by simp[lv],?_,S.dom,λi x e=>?_,S.cell⟩,no⟩
 .show(Z++(Θ++bT _ _)).Nodup
  rw[no];exact S.nd
 .obtain⟨v,e1,h,hl⟩:=at' e
  refine⟨v,by rw[oh (by rw[bw];exact hl),jm,e1];rfl,?_⟩
  have ee:er (aY Z Θ (xs.map aa++dI n o7) (vs.map aa++dI n o7)) H=er (aY Z Θ [] []) H:=by
   show er (Z++(Θ++bT _ _)) H=_;rw[no];rfl
  rw[ee];cases x with
  |im d=>exact h
  |ow d=>exact h.elim
  |ce m=>exact h
  |sc ns=>exact h
  |tp=>exact h.elim
theorem Sm.cut(S:Sm K Z (Θ++Δ) [] C [] H):Sm K Z Θ [] (C.take Θ.length) [] H:=by
 have c7:=S.c7;have cl:=S.cell.len;rw[fU] at cl
 refine⟨rfl,zf c7.1 (kE.mp c7.2.1).1 mj (λb m m'=>c7.2.2.2 b m (gO _ m')) (λ_ m=>nomatch m),S.dom,λi x e=>by simp at e,⟨by rw[xM];lia,λn a ns e1 e2=>?_⟩⟩
 have hn:n<Θ.length:=(jW.mp e1).1;rw[Qi,aV hn] at e2;exact S.cell.at_ n a ns (by rw[oh hn];exact e1) e2
theorem N6.cut(t:lK Θ Θ' H)(ok:wG Θ.length r=ao)(no:O=[])(h:N6 K Z Θ' C' O H H' r v):Oi K Z Θ (C'.take Θ.length) H H' r v:=by
 obtain⟨Δ,rfl,hn⟩:=t.ex
 have sm:∀{Y:List aq},bJ (er (aY Y (Θ++Δ) [] []) H') (er (aY Y Θ [] []) H'):=λ{Y}=>tX λa m=>by
  rcases iQ.mp m with m|m|m
  .exact iQ.mpr (.inl m)
  .exact iQ.mpr (.inr (.inl (gO _ m)))
  .nomatch m
 cases r with
 |im d=>exact⟨h.1.cut,h.2.same sm⟩
 |ow d=>
  obtain⟨a,e,m,S,r⟩:=h
  refine⟨a,e,?_,S.cut,r.same sm λ_ h=>h⟩
  rcases m with m|m
  .rw[no] at m;nomatch m
  .exact m
 |ce n=>
  obtain⟨S,a,e,e2⟩:=h
  refine⟨S.cut,a,e,?_⟩
  rw[oh (of_decide_eq_true ok)] at e2;exact e2
 |sc ns=>
  obtain⟨S,a,e,q⟩:=h
  exact⟨S.cut,a,e,sm.seq q⟩
 |tp=>
  obtain⟨t,a,vs,us,e,e',m,S,r,p,q⟩:=h
  refine⟨t,a,vs,us,e,e',?_,S.cut,r.same sm λ_ h=>h,p.same sm,q.same sm⟩
  rcases m with m|m
  .rw[no] at m;nomatch m
  .exact m
end
section
variable{P:bD}{w:bB}{K:aJ}{mg:Str->Option Value}{base:bz}
theorem iD{x qual:Str}{st:cX}{f:aq}{fd:dF}{N ps:List Str}{k:Nat}{body:FS}{k1 k2:Nat}(F:fH K x qual st f fd)(S:gA N ps (cG st))
  (hb:∀(cdv:Value)(A:cD)(outer:List Env)(s:aB)(H:Hp)(E:XK),jh k (A.deeper (envOfC qual (cG st) s.heap.objs.size f cdv))->jO (Bh eG P w K mg base N qual (cG st) f cdv A outer s H E).wR (yg st) (tS K body))
  (e1:k1=ps.length:=by rfl)(e2:k2=N.length:=by rfl):dw P w K mg base eG (k+1) f fd ps (spT K (fN k1 k2 body)):=by
 subst e1 e2;refine F.ok S (λvs H Q E h=>?_) (λcdv A outer s H vs Q E hr h=>⟨_,hb cdv A outer s H E hr,?_⟩)
 .obtain⟨Z,Θ,C,xs,r,C',S0,a,hf,_⟩:=h
  unfold fN at hf;split at hf
  .rename_i hl;rw[Uk a,hl]
  .cases hf
 .obtain⟨Z,Θ,C,xs,r,C',S0,a,hf,q⟩:=h
  unfold fN at hf;split at hf
  case isFalse=>cases hf
  rename_i hl;have lv:=Uk a
  obtain⟨S1,no⟩:=S0.start (n:=N.length-vs.length) a
  rw[lv] at S1 no;have hs:start N vs=vs.map aa++dI (N.length-xs.length) aj:=by unfold start;rw[lv]
  rw[hs];have cl:=S0.cell.len;split at hf
  .rename_i r0 e' C1 hb';split at hf
   .rename_i hok;cases hf
    refine⟨Z,Θ,_,C,.rt r,e',C1,S1,hb',λΘ' v H' R=>?_⟩
    have kp:=R.kp;rw[no,jd] at kp;rw[cl] at q hok;exact q v H' kp (R.ok.cut R.th hok no)
   .cases hf
  .rename_i e' C1 hb';cases hf
   refine⟨Z,Θ,_,C,.nx,e',C1,S1,hb',λΘ' σ' H' R=>?_⟩
   have kp:=R.kp;rw[no,jd] at kp
   obtain⟨Δ,e,hn⟩:=R.th.ex
   have S2:=R.sm.none;rw[e] at S2;rw[cl] at q;exact q .non H' kp ⟨S2.cut,rfl⟩
  .cases hf
theorem aoo(hS:bO K H a (ns.map V.int))(h:f [.sc ns] []=aa (.im (.bool ao),C')):spT K f [.ref a] H (λv _=>v=.bl ao) E:=by
 refine⟨[],[],[],[.sc ns],_,C',⟨rfl,mj,(λ_ m=>nomatch m),λi x e=>by simp at e,⟨rfl,λn b ms e _=>by simp at e⟩⟩,.cons ⟨a,rfl,?_⟩ .nil,h,λv H' _ R=>R.2⟩
 show bO K (er [] H) a _;rw[Hv];exact hS
end
def Ei(i:Nat):FE:=λenv C=>match env[i]? with
 |some (some (.sc ns))=>aa (.im (.int ns.length),env,C)
 |_=>aj
def Ir(i:Nat)(f:FB):FE:=λenv C=>match env[i]? with
 |some (some (.sc ns))=>match f env C with
  |some (.int k,_,C1)=>match fG ns k with
   |some z=>aa (.im (.int z),env,C1)
   |none=>aj
  |_=>aj
 |_=>aj
section
variable{X:Cx}{o k:Expr}{i:Nat}{p pos:Pos}
theorem amG(ho:PE X o (sH i))(hg:Gl X "len")(hm:X.mg "len"=aj)(hv:uM "len"=aa (.builtin "len"))
  (he:bC [o] X.env=(aF,eval o X.env)::bC [] X.env:=by rfl)(hpl:(f9 pos (bC [] X.env)).any (·.1)=aF:=by rfl):PE X (.Call (.Name "len" p) [o] [] pos) (tE X.K (Ei i)):=
 (Lr ZZ hg hm hv (pB ho tU he) (by decide) (by decide) he hpl).weak λσ H Q aN=>by
  obtain⟨Z,Θ,env,C,r,env',C',S,hf,q⟩:=aN
  unfold Ei at hf;split at hf
  .rename_i ns h0;cases hf
   obtain⟨v,ev,a,rfl,sq⟩:=S.slot i _ h0
   have:=q (.int ns.length) H (aX.refl _ _) (Fz.refl _) ⟨S,rfl⟩
   exact⟨_,ev,a,_,rfl,.inl ((Ed _ _).seq sq),by rw[bw];exact this⟩
  .cases hf
theorem aop(ho:PE X o (sH i))(hk:PE X k (dY X.K f))(hs:Mt k):PE X (.Subscript o k pos) (tE X.K (Ir i f)):=(Wi U4 ho hk hs).weak λσ H Q aN=>by
 obtain⟨Z,Θ,env,C,r,env',C',S,hf,q⟩:=aN
 unfold Ir at hf;split at hf
 case h_2=>cases hf
 rename_i ns h0;split at hf
 case h_2=>cases hf
 rename_i z e1 C1 h1;split at hf
 case h_2=>cases hf
 rename_i y hy;cases hf
 obtain⟨v,ev,a,rfl,sq⟩:=S.slot i _ h0
 refine⟨_,ev,Z,Θ,env,C,_,e1,C',S,h1,λw H1 k1 f1 S1 b1=>?_⟩
 have S2:=S.go k1 S1.cell
 obtain⟨v2,ev2,a2,ea2,sq2⟩:=S2.slot i _ h0
 rw[ev] at ev2;cases ev2;cases ea2
 refine⟨a,_,z,.int y,rfl,b1,(Ed _ _).seq sq2,?_,q _ H1 k1 (Fz.refl _) ⟨S2,rfl⟩⟩
 unfold fG at hy⊢;rw[bw];cases hj:pN ns.length z with
 |none=>rw[hj] at hy;cases hy
 |some j=>
  rw[hj] at hy
  show(ns.map V.int)[j]?=_
  rw[jm,show ns[j]?=aa y from hy];rfl
end
section
variable{K:aJ}{X:Cx}
theorem pH(h:N5 Z Θ env σ H [d] vs):∃v,vs=[v]/\gh Z Θ env σ H d v:=by
 cases h with
 |cons a b=>cases b;exact⟨_,rfl,a⟩
theorem aeF(h:N5 Z Θ env σ H [d,e] vs):∃v w,vs=[v,w]/\gh Z Θ env σ H d v/\gh Z Θ env σ H e w:=by
 cases h with
 |cons a b=>
  cases b with
  |cons b c=>cases c;exact⟨_,_,rfl,a,b⟩
def Oo:au->Option Nat
 |.list ds=>aa ds.length
 |.tuple ds=>aa ds.length
 |.str z=>if z.length<=gF then aa z.length else aj
 |.dict kvs=>if(cH cL kvs).isSome then aa kvs.length else aj
 |_=>aj
def mH:List au->Option Vl
 |[d]=>(Oo d).map λn=>.im (.int n)
 |_=>aj
def aeG(K:aJ):List V->Hp->VK->Prop:=λxs H Q=>((∃p ys,xs=[.ref p]/\(bO K H p ys\/cW K H p ys)/\Q (.int ys.length) H)\/∃z,xs=[.str z]/\z.length<=bW/\Q (.int z.length) H)\/∃a kvs,xs=[V.ref a]/\H a=aa (.dK kvs)/\Q (.int kvs.length) H
theorem rN:gQ X (.builtin "len") (aeG X.K):=(ZZ.or aih).or ajL
theorem rT:lX K (aeG K) mH:=by
 intro Z Θ env C σ H xs ds res S b e Q q;unfold mH at e;split at e
 case h_2=>cases e
 rename_i d
 obtain⟨v,rfl,bb⟩:=pH b
 cases hn:Oo d with
 |none=>rw[hn] at e;cases e
 |some n=>
  rw[hn] at e;cases e;have fin:=q (.int n) H (aX.refl _ _) (jo S rfl rfl);cases d<;>first|cases hn|skip
  .rename_i z;simp only[Oo] at hn;split at hn
   .rename_i hl;cases hn;cases bb.str;exact .inl (.inr ⟨z,rfl,uT hl,fin⟩)
   .cases hn
  .obtain⟨a,vs,rfl,ha,r⟩:=bb.lst
   exact .inl (.inl ⟨a,vs,rfl,.inl (bO.of ha),by rw[jK r];exact fin⟩)
  .obtain⟨a,vs,rfl,ha,r⟩:=bb.tup
   exact .inl (.inl ⟨a,vs,rfl,.inr (cW.of ha),by rw[jK r];exact fin⟩)
  .rename_i kvs;simp only[Oo] at hn;split at hn
   .rename_i hs;cases hn
    obtain⟨a,vs,rfl,da,r⟩:=bb.dct
    rcases da with⟨ks,h1,ha⟩|⟨ks,⟨ne,h2⟩,ha⟩
    .refine .inr ⟨a,_,rfl,ha,?_⟩;rw[JQ,vL h1,Ds r,Nat.min_self];exact fin
    .obtain⟨ks',h1⟩:=xr.mp hs
     exact absurd (xX h1 h2) ne
   .cases hn
def HS:List au->Option Vl
 |[.int i]=>aa (.im (.int (if i<0 then -i else i)))
 |_=>aj
theorem ad1:lX K (λxs H Q=>∃i,xs=[.int i]/\Q (.int (if i<0 then -i else i)) H) HS:=by
 intro Z Θ env C σ H xs ds res S b e Q q;unfold HS at e;split at e
 case h_2=>cases e
 cases e
 obtain⟨v,rfl,bb⟩:=pH b
 cases bb.int
 exact⟨_,rfl,q _ H (aX.refl _ _) (jo S rfl rfl)⟩
def Bb:List au->Option Vl
 |[.int i]=>aa (.im (.int i))
 |[.bool k]=>aa (.im (.int (if k then 1 else 0)))
 |_=>aj
theorem ad2:lX K (λxs H Q=>(∃i,xs=[.int i]/\Q (.int i) H)\/∃k,xs=[.bl k]/\Q (.int (if k then 1 else 0)) H) Bb:=by
 intro Z Θ env C σ H xs ds res S b e Q q;unfold Bb at e;split at e
 case h_3=>cases e
 .cases e
  obtain⟨v,rfl,bb⟩:=pH b
  cases bb.int;exact .inl ⟨_,rfl,q _ H (aX.refl _ _) (jo S rfl rfl)⟩
 .cases e
  obtain⟨v,rfl,bb⟩:=pH b
  cases(show v=.bl _ from bb)
  exact .inr ⟨_,rfl,q _ H (aX.refl _ _) (jo S rfl rfl)⟩
def Nr:List au->Option Vl
 |[.int i,.int j]=>aa (.im (.int (if j>i then j else i)))
 |_=>aj
def HD:List au->Option Vl
 |[.int i,.int j]=>aa (.im (.int (if j<i then j else i)))
 |_=>aj
theorem amH:lX K (λxs H Q=>∃i j,xs=[.int i,.int j]/\Q (.int (if j>i then j else i)) H) Nr:=by
 intro Z Θ env C σ H xs ds res S b e Q q;unfold Nr at e;split at e
 case h_2=>cases e
 cases e
 obtain⟨v,w,rfl,b1,b2⟩:=aeF b
 cases b1.int;cases b2.int
 exact⟨_,_,rfl,q _ H (aX.refl _ _) (jo S rfl rfl)⟩
theorem ac7:lX K (λxs H Q=>∃i j,xs=[.int i,.int j]/\Q (.int (if j<i then j else i)) H) HD:=by
 intro Z Θ env C σ H xs ds res S b e Q q;unfold HD at e;split at e
 case h_2=>cases e
 cases e
 obtain⟨v,w,rfl,b1,b2⟩:=aeF b
 cases b1.int;cases b2.int
 exact⟨_,_,rfl,q _ H (aX.refl _ _) (jo S rfl rfl)⟩
def boolsOf:List au->Option (List Bool)
 |[]=>aa []
 |.bool b::r=>match boolsOf r with
  |some t=>aa (b::t)
  |none=>aj
 |_=>aj
theorem aa4:∀{ds:List au}{ns:List Bool}{vs:List V},boolsOf ds=aa ns->cB E ds vs->vs=ns.map V.bl
 |[],ns,vs,h,r=>by cases h;exact r
 |.bool i::ds,ns,vs,h,r=>by
  unfold boolsOf at h;split at h
  .rename_i t ht;cases h
   obtain⟨u,w,rfl,q,s⟩:=r
   rw[aa4 ht s];have:u=.bl i:=q;rw[this];rfl
  .cases h
 |.none::_,_,_,h,_=>by cases h
 |.int _::_,_,_,h,_=>by cases h
 |.str _::_,_,_,h,_=>by cases h
 |.list _::_,_,_,h,_=>by cases h
 |.tuple _::_,_,_,h,_=>by cases h
 |.dict _::_,_,_,h,_=>by cases h
def wH:List au->Option Vl
 |[.list ds]=>(boolsOf ds).map λbs=>.im (.bool (bs.all id))
 |_=>aj
theorem VP:lX K (λxs H Q=>∃(p:aq)(bs:List Bool),xs=[.ref p]/\bO K H p (bs.map V.bl)/\Q (.bl (bs.all id)) H) wH:=by
 intro Z Θ env C σ H xs ds res S b e Q q;unfold wH at e;split at e
 case h_2=>cases e
 rename_i ds;cases hb:boolsOf ds with
 |none=>rw[hb] at e;cases e
 |some bs=>
  rw[hb] at e;cases e
  obtain⟨v,rfl,bb⟩:=pH b
  obtain⟨a,vs,rfl,ha,r⟩:=bb.lst
  rw[aa4 hb r] at ha
  exact⟨a,bs,rfl,bO.of ha,q _ H (aX.refl _ _) (jo S rfl rfl)⟩
def vO:List au->Option Vl
 |[.list ds]=>aa (.im (.tuple ds))
 |[.tuple ds]=>aa (.im (.tuple ds))
 |_=>aj
theorem Ma:lX K (λxs H Q=>∃p ys,xs=[.ref p]/\((bO K H p ys/\∀l,H l=aj->Q (.ref l) (upd H l (.tup ys)))\/(cW K H p ys/\Q (.ref p) H))) vO:=by
 intro Z Θ env C σ H xs ds res S b e Q q;unfold vO at e;split at e
 case h_3=>cases e
 .cases e
  obtain⟨v,rfl,bb⟩:=pH b
  obtain⟨a,vs,rfl,ha,r⟩:=bb.lst
  exact⟨a,vs,rfl,.inl ⟨bO.of ha,λl hl=>q _ _ (aX.upd hl) (Hi S r hl)⟩⟩
 .cases e
  obtain⟨v,rfl,bb⟩:=pH b
  obtain⟨a,vs,rfl,ha,r⟩:=bb.tup
  exact⟨a,vs,rfl,.inr ⟨cW.of ha,q _ H (aX.refl _ _) ⟨S,bb⟩⟩⟩
end
def uh(n:String):au->Option Bool
 |.none=>aa aF
 |.bool _=>aa (n=="bool"||n=="int")
 |.int _=>aa (n=="int")
 |.str _=>aa (n=="str")
 |.list _=>aa (n=="list")
 |.tuple _=>aa (n=="tuple")
 |.dict _=>aj
def Iu(n:String):Bool:=n=="bool"||n=="int"||n=="str"||n=="list"||n=="tuple"
theorem VR{K:aJ}{n:String}{d:au}{b:Bool}(hn:Iu n=ao)(e:uh n d=aa b):Cy K (Jf d) (.type n)=aa b:=by
 unfold Iu at hn;simp only[Bool.or_eq_true,beq_iff_eq] at hn;rcases hn with(((rfl|rfl)|rfl)|rfl)|rfl<;>cases d<;>cases e<;>rfl
theorem abO(e:uh n d=aa b):∀kvs,d≠.dict kvs:=λkvs z=>by subst z;cases e
theorem gh.ty{K:aJ}{Z Θ:List aq}{env:En}{σ:St}{H:Hp}{d:au}{v:V}(h:gh Z Θ env σ H d v)(hd:∀kvs,d≠.dict kvs):nM K H v (Jf d):=by
 cases d with
 |none=>exact RX.ty (d:=.none) h
 |bool b=>exact RX.ty (d:=.bool b) h
 |int i=>exact RX.ty (d:=.int i) h
 |str z=>exact RX.ty (d:=.str z) h
 |list ds=>
  obtain⟨a,vs,rfl,ha,r⟩:=h.lst
  exact .lst ha
 |tuple ds=>
  obtain⟨a,vs,rfl,ha,r⟩:=h.tup
  exact .tup ha
 |dict kvs=>exact absurd rfl (hd kvs)
def kY(n:String)(f:FB):FE:=λenv C=>match f env C with
 |some (d,_,C1)=>match uh n d with
  |some b=>aa (.im (.bool b),env,C1)
  |none=>aj
 |none=>aj
def Bc(m n:String)(f:FB):FE:=λenv C=>match f env C with
 |some (d,_,C1)=>match uh m d,uh n d with
  |some p,some q=>aa (.im (.bool (p||q)),env,C1)
  |_,_=>aj
 |none=>aj
section
variable{X:Cx}{a t t':Expr}{p pos tp:Pos}{x1:Nat}
theorem qg(hn:Iu n=ao)(ha:PE X a (dY X.K f))(ht:PE X t (tC (.ty n)))(hg:Gl X "isinstance")(hm:X.mg "isinstance"=aj)(hv:uM "isinstance"=aa (.builtin "isinstance"))
  (he:bC [a,t] X.env=(aF,eval a X.env)::bC [t] X.env:=by rfl)(he2:bC [t] X.env=(aF,eval t X.env)::bC [] X.env:=by rfl)(hpl:(f9 pos (bC [t] X.env)).any (·.1)=aF:=by rfl):
  PE X (.Call (.Name "isinstance" p) [a,t] [] pos) (tE X.K (kY n f)):=
 (Lr aiH hg hm hv (pB ha (pB ht tU he2) he) (by decide) (by decide) he hpl).weak λσ H Q aN=>by
  obtain⟨Z,Θ,env,C,r,env',C',S,hf,q⟩:=aN
  unfold kY at hf;split at hf
  case h_2=>cases hf
  rename_i d e1 C1 h1;split at hf
  case h_2=>cases hf
  rename_i b hb;cases hf
  refine⟨Z,Θ,env,C,d,e1,C',S,h1,λv H1 k f S1 b1=>⟨v,n,Jf d,b,rfl,b1.ty (abO hb),VR hn hb,q _ H1 k (Fz.refl _) ⟨S.go k S1.cell,rfl⟩⟩⟩
theorem amI(hm':Iu m=ao)(hn:Iu n=ao)(ha:PE X a (dY X.K f))(ht:PE X t (tC (.ty m)))(ht':PE X t' (tC (.ty n)))(hg:Gl X "isinstance")(hm:X.mg "isinstance"=aj)(hv:uM "isinstance"=aa (.builtin "isinstance"))
  (he:bC [a,.Tuple [t,t'] x1 tp] X.env=(aF,eval a X.env)::bC [.Tuple [t,t'] x1 tp] X.env:=by rfl)(he2:bC [.Tuple [t,t'] x1 tp] X.env=(aF,eval (.Tuple [t,t'] x1 tp) X.env)::bC [] X.env:=by rfl)
  (h3:bC [t,t'] X.env=(aF,eval t X.env)::bC [t'] X.env:=by rfl)(h4:bC [t'] X.env=(aF,eval t' X.env)::bC [] X.env:=by rfl)
  (hpl:(f9 pos (bC [.Tuple [t,t'] x1 tp] X.env)).any (·.1)=aF:=by rfl):
  PE X (.Call (.Name "isinstance" p) [a,.Tuple [t,t'] x1 tp] [] pos) (tE X.K (Bc m n f)):=
 (Lr aij hg hm hv (pB ha (pB (VD (pB ht (pB ht' tU h4) h3)) tU he2) he) (by decide) (by decide) he hpl).weak λσ H Q aN=>by
  obtain⟨Z,Θ,env,C,r,env',C',S,hf,q⟩:=aN
  unfold Bc at hf;split at hf
  case h_2=>cases hf
  rename_i d e1 C1 h1;split at hf
  case h_2=>cases hf
  rename_i b b' hb hb';cases hf
  refine⟨Z,Θ,env,C,d,e1,C',S,h1,λv H1 k f S1 b1=>⟨by show 2<=bW;rw[iM];decide,λc hc=>?_⟩⟩
  have kc:aX Θ H1 (upd H1 c (.tup [.ty m,.ty n])):=aX.upd hc;have s2:=S1.Av (bJ.upd (o:=.tup [.ty m,.ty n]) hc);have b2:=b1.go S1 kc (Fz.refl _)
  refine⟨v,c,m,n,Jf d,b,b',rfl,eN,b2.ty (abO hb),VR hm' hb,VR hn hb',q _ _ (k.trans kc) (Fz.refl _) ⟨S.go (k.trans kc) s2.cell,rfl⟩⟩
end
def ins{α:Type}(lt:α->α->Bool)(x:α):List α->List α
 |[]=>[x]
 |y::r=>if lt y x then y::ins lt x r else x::y::r
def gR{α:Type}(lt:α->α->Bool):List α->List α
 |[]=>[]
 |x::r=>ins lt x (gR lt r)
section
variable{α:Type}{lt:α->α->Bool}
theorem Ul(x:α):∀l:List α,(ins lt x l).Perm (x::l)
 |[]=>zK _
 |y::r=>by
  unfold ins;split
  .exact((Ul x r).cons y).trans (QV x y r)
  .exact zK _
theorem o8:∀l:List α,(gR lt l).Perm l
 |[]=>zK _
 |x::r=>(Ul x _).trans ((o8 r).cons x)
structure Ej(lt:α->α->Bool)(P:α->Prop):Prop where
 ae6:∀a b,P a->P b->lt a b=ao->lt b a=aF
 neg:∀a b c,P a->P b->P c->lt a c=ao->lt a b=ao\/lt b c=ao
 tot:∀a b,P a->P b->lt a b=aF->lt b a=aF->a=b
theorem ad3(O:Ej lt P)(hx:P x):∀{l:List α},(∀y∈l,P y)->l.Pairwise (λa b=>lt b a=aF)->(ins lt x l).Pairwise (λa b=>lt b a=aF)
 |[],_,_=>qG.mpr ⟨λ_ m=>(nomatch m),xK⟩
 |y::r,hp,h=>by
  rw[qG] at h;have py:=hp y dg;unfold ins;split
  .rename_i hl;rw[qG]
   refine⟨λz m=>?_,ad3 O hx (λz m=>hp z (dZ _ m)) h.2⟩
   rcases bY.mp ((Ul x r).mem_iff.mp m) with rfl|m
   .exact O.ae6 _ _ py hx hl
   .exact h.1 z m
  .rename_i hl;have hl:lt y x=aF:=by simpa using hl
   rw[qG,qG]
   refine⟨λz m=>?_,h.1,h.2⟩
   rcases bY.mp m with rfl|m
   .exact hl
   .have pz:=hp z (dZ _ m);cases hz:lt z x with
    |false=>rfl
    |true=>
     rcases O.neg z y x pz py hx hz with h1|h1
     .rw[h.1 z m] at h1;cases h1
     .rw[hl] at h1;cases h1
theorem Dl(O:Ej lt P):∀{l:List α},(∀y∈l,P y)->(gR lt l).Pairwise (λa b=>lt b a=aF)
 |[],_=>xK
 |x::r,hp=>ad3 O (hp x dg) (λy m=>hp y (dZ _ ((o8 r).mem_iff.mp m))) (Dl O λy m=>hp y (dZ _ m))
theorem ad4(O:Ej lt P):∀{l m:List α},(∀y∈l,P y)->l.Perm m->l.Pairwise (λa b=>lt b a=aF)->m.Pairwise (λa b=>lt b a=aF)->l=m
 |[],m,_,p,_,_=>(List.nil_perm.mp p).symm
 |x::r,[],_,p,_,_=>absurd p.length_eq (by simp)
 |x::r,y::t,hp,p,h1,h2=>by
  have pm:∀z∈y::t,P z:=λz m=>hp z (p.mem_iff.mpr m)
  rw[qG] at h1 h2;have e:x=y:=by
   have m1:x∈y::t:=p.mem_iff.mp dg;have m2:y∈x::r:=p.mem_iff.mpr dg;rcases bY.mp m1 with e|m1
   .exact e
   .rcases bY.mp m2 with e|m2
    .exact e.symm
    .exact O.tot x y (hp x dg) (pm y dg) (h2.1 x m1) (h1.1 y m2)
  subst e;rw[ad4 O (λz m=>hp z (dZ _ m)) ((List.perm_cons x).mp p) h1.2 h2.2]
theorem Ve(O:Ej lt P)(hp:∀y∈l,P y)(p:m.Perm l)(h:m.Pairwise (λa b=>lt b a=aF)):m=gR lt l:=
 ad4 O (λy hy=>hp y (p.mem_iff.mp hy)) (p.trans (o8 l).symm) h (Dl O hp)
end
def ltI(i j:Int):Bool:=decide (i<j)
theorem Oq:Ej ltI (λ_=>True):=⟨λa b _ _ h=>by unfold ltI at *;simp at *;lia,λa b c _ _ _ h=>by unfold ltI at *;simp at *;lia,λa b _ _ h1 h2=>by unfold ltI at *;simp at *;lia⟩
theorem Ot:Ej strLt (λ_=>True):=by
 refine⟨λa b _ _ h=>?_,λa b c _ _ _ h=>?_,λa b _ _ h1 h2=>?_⟩
 .exact amn (a:=.inr a) (b:=.inr b) h
 .exact aoc (a:=.inr a) (b:=.inr b) (c:=.inr c) rfl rfl h
 .exact aiC (aod (a:=.inr a) (b:=.inr b) rfl h1 h2)
def strsOf:List au->Option (List Str)
 |[]=>aa []
 |.str i::r=>match strsOf r with
  |some t=>aa (i::t)
  |none=>aj
 |_=>aj
theorem Um:∀{ds:List au}{ns:List Str}{vs:List V},strsOf ds=aa ns->cB E ds vs->vs=ns.map V.str
 |[],ns,vs,h,r=>by cases h;exact r
 |.str i::ds,ns,vs,h,r=>by
  unfold strsOf at h;split at h
  .rename_i t ht;cases h
   obtain⟨u,w,rfl,q,s⟩:=r
   rw[Um ht s];have:u=.str i:=q;rw[this];rfl
  .cases h
 |.none::_,_,_,h,_=>by cases h
 |.bool _::_,_,_,h,_=>by cases h
 |.int _::_,_,_,h,_=>by cases h
 |.list _::_,_,_,h,_=>by cases h
 |.tuple _::_,_,_,h,_=>by cases h
 |.dict _::_,_,_,h,_=>by cases h
def um:au->Option (List Bool)
 |.tuple xs=>(keysOf xs).map λks=>ks.map bM
 |_=>aj
def ju:Key->au
 |.inl i=>.int i
 |.inr x=>.str x
def yF:au->List Key
 |.tuple xs=>(keysOf xs).getD []
 |_=>[]
def uo(ds:List au):List au:=(ug (ds.map yF)).map λk=>.tuple (k.map ju)
def HW(ds:List au):Option (List au):=if ds.length<64 then match intsOf ds with
  |some ns=>aa ((gR ltI ns).map .int)
  |none=>match strsOf ds with
   |some zs=>aa ((gR strLt zs).map .str)
   |none=>match ds with
    |[]=>aa []
    |d::_=>match um d with
     |some (b::sh)=>if(ds.all λe=>decide (um e=aa (b::sh))) then aa (uo ds) else aj
     |_=>aj
 else aj
def Mf:List au->Option Vl
 |[.list ds]=>(HW ds).map λl=>.ow (.list l)
 |_=>aj
def V0(K:aJ):List V->Hp->VK->Prop:=λxs H Q=>((∃(p:aq)(ns:List Int),xs=[.ref p]/\bO K H p (ns.map V.int)/\ns.length<64/\∀(l:aq)(ns':List Int),H l=aj->ns'.Perm ns->ns'.Pairwise (·<=·)->Q (.ref l) (upd H l (.lst (ns'.map V.int))))\/
 ∃(p:aq)(ns:List Str),xs=[.ref p]/\bO K H p (ns.map V.str)/\ns.length<64/\∀(l:aq)(ns':List Str),H l=aj->ns'.Perm ns->sortedS ns'=ao->Q (.ref l) (upd H l (.lst (ns'.map V.str))))\/
 ∃(p:aq)(rows:List Row)(b:Bool)(sh:List Bool),xs=[.ref p]/\bO K H p (rows.map λr=>V.ref r.1)/\rows.length<64/\(∀r∈rows,H r.1=aa (.tup (r.2.map kV))/\r.2.map bM=b::sh)/\∀(l:aq)(rows':List Row),H l=aj->rows'.Perm rows->rows'.map (·.2)=ug (rows.map (·.2))->Q (.ref l) (upd H l (.lst (rows'.map λr=>V.ref r.1)))
theorem aje:gQ X (.builtin "sorted") (V0 X.K):=(ahq.or ahr).or ag7
theorem sortI(p:ns'.Perm ns)(h:ns'.Pairwise (·<=·)):ns'=gR ltI ns:=Ve Oq (λ_ _=>trivial) p (h.imp λ{a b} hab=>by unfold ltI;simp;exact hab)
theorem ad5:∀{x:Str}{r:List Str},risingS x r=ao->(x::r).Pairwise (λa b=>strLt b a=aF)
 |x,[],_=>qG.mpr ⟨λ_ m=>(nomatch m),xK⟩
 |x,y::r,h=>by
  unfold risingS at h;rw[jn,Qn] at h;have ih:=ad5 h.2;have hxy:strLt y x=aF:=by
   have:=h.1;unfold strLt;rw[lt_meets];exact this
  rw[qG]
  refine⟨λz m=>?_,ih⟩
  rcases bY.mp m with rfl|m
  .exact hxy
  .rw[qG] at ih;cases hz:strLt z x with
   |false=>rfl
   |true=>
    rcases Ot.neg z y x trivial trivial trivial hz with h1|h1
    .rw[ih.1 z m] at h1;cases h1
    .rw[hxy] at h1;cases h1
theorem V1(p:ns'.Perm ns)(h:sortedS ns'=ao):ns'=gR strLt ns:=Ve Ot (λ_ _=>trivial) p (by
 cases ns' with
 |nil=>exact xK
 |cons x r=>exact ad5 h)
theorem Mg:∀{xs:List au}{ks:List Key},keysOf xs=aa ks->xs=ks.map ju
 |[],ks,h=>by cases h;rfl
 |x::xs,ks,h=>by
  unfold keysOf at h;split at h
  .rename_i k t h1 h2;cases h;rw[Mg h2];have:x=ju k:=by
    cases x<;>first|(cases h1;rfl)|cases h1
   rw[this];rfl
  .cases h
theorem GX:∀ks:List Key,keysOf (ks.map ju)=aa ks
 |[]=>rfl
 |k::ks=>by
  show(match cL (ju k),keysOf (ks.map ju) with|some k,some t=>aa (k::t)|_,_=>aj)=_
  rw[GX ks];cases k<;>rfl
theorem aj3{ds:List au}{rows rows':List Row}(e:ds=rows.map (λr=>.tuple (r.2.map ju)))(h:rows'.map (·.2)=ug (rows.map (·.2))):(rows'.map λr=>tD (r.2.map ju))=uo ds:=by
 have e1:ds.map yF=rows.map (·.2):=by
  rw[e,cU];refine uI λr _=>?_
  show(keysOf (r.2.map ju)).getD []=r.2
  rw[GX];rfl
 unfold uo;rw[e1,<-h,cU];rfl
theorem aj4(h:∀d∈ds,(um d).isSome=ao):(uo ds).Perm ds:=by
 have:=(ajT (ds.map yF)).map λk=>tD (k.map ju)
 refine this.trans (ahI ?_);rw[cU]
 refine(uI λd hd=>?_).trans (Ky ds)
 have hs:=h d hd;cases d with
 |tuple xs=>
  show tD (((keysOf xs).getD []).map ju)=.tuple xs;cases hk:keysOf xs with
  |none=>
   have hs:((keysOf xs).map λks=>ks.map bM).isSome=ao:=hs;rw[hk] at hs;cases hs
  |some ks=>rw[Mg hk];rfl
 |_=>cases hs
theorem Uo:∀{ds:List au}{vs:List V},(∀d∈ds,um d=aa sh)->cB E ds vs->∃rows:List Row,vs=rows.map (λr=>V.ref r.1)/\ds=rows.map (λr=>.tuple (r.2.map ju))/\∀r∈rows,E r.1=aa (.tup (r.2.map kV))/\r.2.map bM=sh
 |[],vs,_,r=>⟨[],r,rfl,λ_ m=>(nomatch m)⟩
 |d::ds,vs,h,r=>by
  obtain⟨u,w,rfl,q,s⟩:=r
  obtain⟨rows,e1,e2,e3⟩:=Uo (λd m=>h d (dZ _ m)) s
  have hd:=h d dg;cases d<;>first|cases hd|skip
  rename_i xs;have hd:(keysOf xs).map (λks=>ks.map bM)=aa sh:=hd;cases hk:keysOf xs with
  |none=>rw[hk] at hd;cases hd
  |some ks=>
   rw[hk] at hd
   obtain⟨a,vs',rfl,ha,rr⟩:=q
   rw[xW hk rr] at ha
   refine⟨(a,ks)::rows,by rw[e1];rfl,by rw[e2,Mg hk];rfl,λr m=>?_⟩
   rcases bY.mp m with rfl|m
   .exact⟨ha,gP hd⟩
   .exact e3 r m
theorem GZ:∀{rows:List Row},(∀r∈rows,E r.1=aa (.tup (r.2.map kV)))->cB E (rows.map λr=>.tuple (r.2.map ju)) (rows.map λr=>V.ref r.1)
 |[],_=>rfl
 |r::rows,h=>by
  refine⟨_,_,rfl,⟨r.1,r.2.map kV,rfl,h r dg,?_⟩,GZ λr m=>h r (dZ _ m)⟩
  generalize r.2=ks;induction ks with
  |nil=>rfl
  |cons k ks ih=>exact⟨_,_,rfl,by cases k<;>rfl,ih⟩
theorem abP:∀{ds:List au}{ns:List Int},intsOf ds=aa ns->ds=ns.map .int
 |[],ns,h=>by cases h;rfl
 |.int i::ds,ns,h=>by
  unfold intsOf at h;split at h
  .rename_i t ht;cases h;rw[abP ht];rfl
  .cases h
 |.none::_,_,h=>by cases h
 |.bool _::_,_,h=>by cases h
 |.str _::_,_,h=>by cases h
 |.list _::_,_,h=>by cases h
 |.tuple _::_,_,h=>by cases h
 |.dict _::_,_,h=>by cases h
theorem Uq:∀{ds:List au}{ns:List Str},strsOf ds=aa ns->ds=ns.map .str
 |[],ns,h=>by cases h;rfl
 |.str i::ds,ns,h=>by
  unfold strsOf at h;split at h
  .rename_i t ht;cases h;rw[Uq ht];rfl
  .cases h
 |.none::_,_,h=>by cases h
 |.bool _::_,_,h=>by cases h
 |.int _::_,_,h=>by cases h
 |.list _::_,_,h=>by cases h
 |.tuple _::_,_,h=>by cases h
 |.dict _::_,_,h=>by cases h
theorem aj5{K:aJ}:lX K (V0 K) Mf:=by
 intro Z Θ env C σ H xs ds0 res S b e Q q;unfold Mf at e;split at e
 case h_2=>cases e
 rename_i ds;cases hs:HW ds with
 |none=>rw[hs] at e;cases e
 |some l=>
  rw[hs] at e;cases e
  obtain⟨v,rfl,bb⟩:=pH b
  obtain⟨a,vs,rfl,ha,r⟩:=bb.lst
  unfold HW at hs;split at hs
  case isFalse=>cases hs
  rename_i hl;split at hs
  .rename_i ns hns;cases hs;have ev:=LQ hns r;subst ev;refine .inl (.inl ⟨a,ns,rfl,bO.of ha,by rw[abP hns,bw] at hl;exact hl,λl ns' hn p hp=>?_⟩);rw[sortI p hp];exact q _ _ (aX.upd hn) (oH S (abH _) hn)
  .split at hs
   .rename_i ns hns;cases hs;have ev:=Um hns r;subst ev;refine .inl (.inr ⟨a,ns,rfl,bO.of ha,by rw[Uq hns,bw] at hl;exact hl,λl ns' hn p hp=>?_⟩);rw[V1 p hp];exact q _ _ (aX.upd hn) (oH S (Uc _) hn)
   .split at hs
    .cases hs
     cases(show vs=[] from r)
     exact .inl (.inl ⟨a,[],rfl,bO.of ha,by decide,λl ns' hn p hp=>by
      rw[List.perm_nil.mp p];exact q _ _ (aX.upd hn) (oH S rfl hn)⟩)
    .rename_i d0 dr hi1 hi2;split at hs
     case h_2=>cases hs
     rename_i b0 sh hsh;split at hs
     case isFalse=>cases hs
     rename_i hall;cases hs;have hall':∀d∈d0::dr,um d=aa (b0::sh):=λd m=>of_decide_eq_true (oX.mp hall d m)
     obtain⟨rows,e1,e2,e3⟩:=Uo hall' r
     subst e1;refine .inr ⟨a,rows,b0,sh,rfl,bO.of ha,?_,λr m=>⟨jJ (e3 r m).1,(e3 r m).2⟩,λl rows' hn p hp=>?_⟩
     .have:=congrArg rG e2;rw[bw] at this;rw[<-this];exact hl
     .have es:(rows'.map λr=>tD (r.2.map ju))=uo (d0::dr):=aj3 e2 hp;rw[<-es] at q;exact q _ _ (aX.upd hn) (oH S (GZ λr m=>(e3 r (p.mem_iff.mp m)).1) hn)
def Mh(ds:List au):Option (List au):=if ds.length<64 then match strsOf ds with
  |some ns=>aa ((gR strLt (dedup ns)).map .str)
  |none=>aj
 else aj
section
variable{X:Cx}{l:Expr}{f:FB}{p1 p2 pos1 pos2:Pos}
end
theorem amJ(hu:A.units+1<fV)(I:Inv X pins σ H s)(g:qx H a y o)(ry:RelV y u)(rd:RelV d r)(h:∀w' s',Inv X pins σ H s'->RelV (o.getD d) w'->Q w' s'):
  aQ (model X.prog X.w) A (call (.builtin "dict.get") [.ref a,u,r]) Q E s:=by
 rcases g with g|⟨ha,⟨b,ks,rfl,hb⟩,rfl⟩
 .exact adL hu I g ry rd h
 .exact adL hu (I.Jg ha) (qx.re ha hb) ry rd λw' s' I'=>h w' s' (I'.Pg ha)
def apk(td ty tx:TE):TE:=λσ H Q=>td σ H λx H1=>∃a,x=.ref a/\IsD H1 a/\ty σ H1 λy H2=>tx σ H2 λz H3=>∃o,qx H3 a y o/\Q (o.getD z) H3
theorem amK(hu:X.A.units+1<fV)(ho:PE X o td)(he:PE X e ty)(hf:PE X f tx)(m:M2 X o "get" apos e f cpos):PE X (.Call (.Attribute o "get" apos) [e,f] [] cpos) (apk td ty tx):=by
 intro pins s σ H Q I h;refine ahd m.base m.few m.line agm Yg PySem.F.type_dict_get (bH (ho pins s σ H _ I h) λu s1 aN=>?_)
 obtain⟨x,H1,I1,rx,a,ex,d,q1⟩:=aN
 subst ex;obtain rfl:u=di a:=rx
 obtain⟨t1,t2,_⟩:=an5 I1 d
 refine⟨t1,t2,?_⟩
 rw[m.trees];refine agq rfl (agG (Fg (bH (he pins s1 σ H1 _ I1 q1) λiv s2 ⟨y,H2,I2,ry,q2⟩=>
  Fg (bH (hf pins s2 σ H2 _ I2 q2) λfv s3 ⟨z,H3,I3,rz,ov,g,q3⟩=>JL ?_))))
 exact amJ hu I3 g ry rz λw' s4 I4 rw'=>⟨_,H3,I4,rw',q3⟩
def oO(fd fk:FB)(fx:FE):FE:=λenv C=>match fd env C with
 |some (.dict kvs,e1,C1)=>match fk e1 C1 with
  |some (dk,e2,C2)=>match fx e2 C2 with
   |some (r,e3,C3)=>match mG kvs dk with
    |some (some d)=>aa (.im d,rst (.im d) env e3,C3)
    |some none=>aa (still r,rst (still r) env e3,C3)
    |none=>aj
   |none=>aj
  |none=>aj
 |_=>aj
theorem Nt(hu:X.A.units+1<fV)(ho:PE X o (dY X.K fd))(he:PE X e (dY X.K fk))(hf:PE X f (tE X.K fx))(m:M2 X o "get" apos e f cpos):PE X (.Call (.Attribute o "get" apos) [e,f] [] cpos) (tE X.K (oO fd fk fx)):=(amK hu ho he hf m).weak λσ H Q aN=>by
 obtain⟨Z,Θ,env,C,r,env',C',S,hf,q⟩:=aN
 unfold oO at hf;split at hf
 case h_2=>cases hf
 rename_i kvs e1 C1 h1;split at hf
 case h_2=>cases hf
 rename_i dk e2 C2 h2;split at hf
 case h_2=>cases hf
 rename_i r0 e3 C3 h3
 refine⟨Z,Θ,env,C,_,e1,C1,S,h1,λv H1 k1 f1 S1 b1=>?_⟩
 obtain⟨a,vs,rfl,da,rr⟩:=b1.dct
 refine⟨a,rfl,?_,Z,Θ,e1,C1,dk,e2,C2,S1,h2,λw H2 k2 f2 S2 b2=>⟨Z,Θ,e2,C2,r0,e3,C3,S2,h3,λz H3 k3 f3 R3=>?_⟩⟩
 .rcases da with⟨ks,_,h⟩|⟨ks,_,h⟩
  .exact .inl ⟨_,.inl h⟩
  .exact .inr ⟨_,.inl h⟩
 have BV:=(b1.go S1 k2 f2).go S2 k3 f3;have BW:=b2.go S2 k3 f3
 obtain⟨S3,a3⟩:=R3.arg
 have kk:=(k1.trans k2).trans k3;have ff:=(f1.trans f2).trans f3;split at hf
 .rename_i d hl;cases hf
  obtain⟨a',o',e',g,hq⟩:=BV.get BW hl
  cases e';rcases hq with⟨v',rfl,d',e1',r1,_⟩|⟨_,e1'⟩
  .cases e1'
   exact⟨aa v',g,q v' H3 kk (ff.rst _) (Res.rst S kk ⟨S3,r1⟩)⟩
  .cases e1'
 .rename_i hl;cases hf
  obtain⟨a',o',e',g,hq⟩:=BV.get BW hl
  cases e';rcases hq with⟨v',rfl,d',e1',_⟩|⟨rfl,_⟩
  .cases e1'
  .exact⟨aj,g,q z H3 kk (ff.rst _) (((R3.still).from (k1.trans k2)).rst S kk)⟩
 .cases hf
def Nu:au->au->Option Vl
 |.str z,.list ds=>match strsOf ds with
  |some ys=>if(ys.map (·.length)).sum+ys.length*z.length<=gF then aa (.im (.str (Txt.join z ys))) else aj
  |none=>aj
 |_,_=>aj
def N7(f g:FB):FE:=aR Nu f g
theorem amL(ho:PE X o (dY X.K f))(he:PE X e (dY X.K g))
  (hbase:xT o "join" X.env (eval o X.env)=eval o X.env:=by rfl)
  (hfew:((f9 cpos (bC [e] X.env)).all (λx=>!x.1)&&(Dj cpos (CT [] X.env)).all (λx=>x.1.isSome)
   &&decide (([e]:List Expr).length+([]:List pY).length+(if([]:List pY).isEmpty then 0 else 1)<30))=ao:=by rfl)
  (hline:(apos.endLine==cpos.line)=ao:=by rfl)(hs:bC [e] X.env=(aF,eval e X.env)::bC [] X.env:=by rfl)(hplain:(f9 cpos (bC [] X.env)).any (·.1)=aF:=by rfl):
  PE X (.Call (.Attribute o "join" apos) [e] [] cpos) (tE X.K (N7 f g)):=
 (NQ PySem.F.plainAttrs_str PySem.F.slot_str_join PySem.F.type_str_join (wW.r amh) ho (pB he tU hs) hbase hfew hline hs hplain).weak λσ H Q aN=>by
  obtain⟨Z,Θ,env,C,r,env',C',S,hf,q⟩:=aN
  unfold N7 aR at hf;split at hf
  case h_2=>cases hf
  rename_i x e1 C1 h1;split at hf
  case h_2=>cases hf
  rename_i y e2 C2 h2;split at hf
  case h_2=>cases hf
  rename_i r0 h3;cases hf
  refine⟨Z,Θ,env,C,x,e1,C1,S,h1,λv H1 k1 f1 S1 b1=>?_⟩
  unfold Nu at h3;split at h3
  case h_2=>cases h3
  rename_i z ds;split at h3
  case h_2=>cases h3
  rename_i ys hys;split at h3
  case isFalse=>cases h3
  rename_i hl;cases h3;cases b1.str
  refine⟨rfl,Z,Θ,e1,C1,_,e2,C',S1,h2,λw H2 k2 f2 S2 b2=>?_⟩
  obtain⟨a,vs,rfl,ha,rr⟩:=b2.lst
  rw[Um hys rr] at ha;have kk:=k1.trans k2
  refine⟨z,a,ys,rfl,rfl,bO.of ha,by unfold gF at hl;lia,?_⟩
  exact q _ H2 kk ((f1.trans f2).rst _) (Res.rst S kk ⟨S2,rfl⟩)
abbrev FO:=En->Ce->Option (Option Int×Ce)
inductive Jk(K:aJ)(f:FO)(σ:St)(H:Hp)(Q:Option Int->Hp->Prop):Prop
 |mk (Z Θ:List aq) (env:En) (C:Ce) (o:Option Int) (C':Ce) (S:Sm K Z Θ env C σ H) (hf:f env C=aa (o,C')) (q:∀H',aX Θ H H'->Sm K Z Θ env C' σ H'->Q o H'):Jk K f σ H Q
def iG:FO:=λ_ C=>aa (aj,C)
def gj(f:FB):FO:=λenv C=>match f env C with
 |some (.int i,_,C1)=>aa (aa i,C1)
 |_=>aj
def lG{α:Type}(xs:List α)(lo hi:Option Int):List α:=(xs.drop (HT.cz xs.length 0 lo)).take (HT.cz xs.length xs.length hi-HT.cz xs.length 0 lo)
def lZ(lo hi:Option Int):au->Option Vl
 |.str z=>if z.length<=gF then aa (.im (.str (Txt.slice z lo hi))) else aj
 |.list ds=>aa (.ow (.list (lG ds lo hi)))
 |.tuple ds=>aa (.im (.tuple (lG ds lo hi)))
 |_=>aj
def gG(f:FB)(lo hi:FO):FE:=λenv C=>match f env C with
 |some (d,e1,C1)=>match lo e1 C1 with
  |some (l,C2)=>match hi e1 C2 with
   |some (h,C3)=>match lZ l h d with
    |some r=>aa (r,rst r env e1,C3)
    |none=>aj
   |none=>aj
  |none=>aj
 |none=>aj
theorem Vf{E:Hp}{ds:List au}{vs:List V}{lo hi:Option Int}(r:cB E ds vs):cB E (lG ds lo hi) (ue vs lo hi):=by
 unfold lG ue;rw[jK r];exact abF _ (abG _ r)
section
variable{X:Cx}{e:Expr}{lo hi:Option Expr}{pos p2:Pos}
theorem PO.weak(h:PO X o t)(w:∀σ H Q,t' σ H Q->t σ H Q):PO X o t':=λpins s σ H Q I q=>h pins s σ H Q I (w σ H Q q)
theorem ud:PO X aj (Jk X.K iG):=al6.weak λσ H Q aN=>by
 obtain⟨Z,Θ,env,C,o,C',S,hf,q⟩:=aN
 cases hf;exact q H (aX.refl _ _) S
theorem pI(h:PE X e (dY X.K f)):PO X (aa e) (Jk X.K (gj f)):=(al7 h).weak λσ H Q aN=>by
 obtain⟨Z,Θ,env,C,o,C',S,hf,q⟩:=aN
 unfold gj at hf;split at hf
 .rename_i i e1 C1 h1;cases hf
  exact⟨Z,Θ,env,C,_,e1,C',S,h1,λv H1 k f S1 b1=>⟨i,b1,q H1 k (S.go k S1.cell)⟩⟩
 .cases hf
theorem qX{f:FB}{flo fhi:FO}(he:PE X e (dY X.K f))(hl:PO X lo (Jk X.K flo))(hh:PO X hi (Jk X.K fhi)):PE X (.Subscript e (.Slice lo hi aj p2) pos) (tE X.K (gG f flo fhi)):=(akG ((an8.or al9).or amo) he hl hh).weak λσ H Q aN=>by
 obtain⟨Z,Θ,env,C,r,env',C',S,hf,q⟩:=aN
 unfold gG at hf;split at hf
 case h_2=>cases hf
 rename_i d e1 C1 h1;split at hf
 case h_2=>cases hf
 rename_i l C2 h2;split at hf
 case h_2=>cases hf
 rename_i h C3 h3;split at hf
 case h_2=>cases hf
 rename_i r0 h4;cases hf
 refine⟨Z,Θ,env,C,d,e1,C1,S,h1,λv H1 k1 f1 S1 b1=>⟨Z,Θ,e1,C1,l,C2,S1,h2,λH2 k2 S2=>⟨Z,Θ,e1,C2,h,C',S2,h3,λH3 k3 S3=>?_⟩⟩⟩
 have kk:=(k1.trans k2).trans k3;have b3:=b1.go S1 (k2.trans k3) (Fz.refl _);have fin:∀{w:V}{H4:Hp},aX Θ H3 H4->Res X.K Z Θ e1 C' σ H3 H4 r w->Q w H4:=λ{w H4} k4 R=>q w H4 (kk.trans k4) (f1.rst _) ((R.from kk).rst S (kk.trans k4))
 cases d<;>first|cases h4|skip
 .rename_i z;simp only[lZ] at h4;split at h4
  .rename_i hz;cases h4;cases b3.str;exact .inl (.inl ⟨z,rfl,uT hz,fin (aX.refl _ _) (jo S3 rfl rfl)⟩)
  .cases h4
 .obtain⟨a,vs,rfl,ha,rr⟩:=b3.lst
  exact .inl (.inr ⟨a,vs,rfl,bO.of ha,λp hp=>fin (aX.upd hp) (oH S3 (Vf rr) hp)⟩)
 .rename_i ds;have b3':=b3
  obtain⟨a,vs,rfl,ha,rr⟩:=b3.tup
  refine .inr ⟨a,vs,rfl,cW.of ha,λec=>?_,λp hp=>fin (aX.upd hp) (Hi S3 (Vf rr) hp)⟩;have rc:=Vf (lo:=l) (hi:=h) rr;rw[ec] at rc;refine fin (aX.refl _ _) ⟨S3,a,vs,rfl,DN S3 ha,rc⟩
end
def su(T:gY)(ft:FT)(fk fv:FE)(fs:En):List au->List (au×au)->Ce->Option (List (au×au)×Ce)
 |[],acc,C=>aa (acc,C)
 |d::r,acc,C=>match vq T d with
  |some ts=>match ft (dN ts++fs) C with
   |some (false,C1)=>su T ft fk fv fs r acc C1
   |some (true,C1)=>match fk (dN ts++fs) C1 with
    |some (.im k,_,C2)=>match fv (dN ts++fs) C2 with
     |some (x,_,C3)=>match still x,cL k with
      |.im y,some kk=>if acc.length<gF then su T ft fk fv fs r (mL cL kk k y acc) C3 else aj
      |_,_=>aj
     |none=>aj
    |_=>aj
   |none=>aj
  |none=>aj
def yR:List (au×au)->Bool
 |[]=>ao
 |p::r=>lg p.2&&yR r
def zm(fi:FI)(T:gY)(ft:FT)(fk fv:FE)(js:List Nat):FE:=λenv C=>match fi env C with
 |some (its,e1,C1)=>match su T ft fk fv (frB js e1) its [] C1 with
  |some (kvs,C2)=>aa (.ow (.dict kvs),if yR kvs then e1 else gZ js e1,C2)
  |none=>aj
 |none=>aj
theorem jl.lg(t:∀a vs,H a=aa (.tup vs)->H' a=aa (.tup vs)):∀{ds:List (au×au)}{vs:List V},yR ds=ao->jl H ds vs->jl H' ds vs
 |[],_,_,h=>h
 |(k,d)::ds,vs,n,h=>by
  obtain⟨v,r,e,q,w⟩:=h
  have n':L2.lg d=ao/\yR ds=ao:=by rw[yR,jn] at n;exact n
  exact⟨v,r,e,RZ.lg t n'.1 q,jl.lg t n'.2 w⟩
def W0(fk fv:FE):En->List (au×au)->Ce->Option (List (au×au)×Ce):=λenv acc C=>(fk env C).bind λp=>(ux p.1).bind λk=>(fv env p.2.2).bind λq=>(ux (still q.1)).bind λy=>(cL k).bind λkk=>bif decide (acc.length<gF) then aa (mL cL kk k y acc,q.2.2) else aj
theorem Vg:∀{its:List au}{acc:List (au×au)}{C:Ce},su T ft fk fv fs its acc C=aa p->uZ T ft (W0 fk fv) fs its acc C=aa p
 |[],acc,C,h=>h
 |d::r,acc,C,h=>by
  unfold su at h;unfold uZ;split at h
  case h_2=>cases h
  rename_i ts ht;rw[ht,iJ];split at h
  case h_3=>cases h
  .rename_i C1 hf;rw[hf,iJ];exact Vg h
  .rename_i C1 hf;rw[hf,iJ]
   show(W0 fk fv (dN ts++fs) acc C1).bind _=_
   unfold W0;split at h
   case h_2=>cases h
   rename_i k e2 C2 hk;rw[hk,iJ,show ux (.im k)=aa k from rfl,iJ];split at h
   case h_2=>cases h
   rename_i x e3 C3 hx;rw[hx,iJ];split at h
   case h_2=>cases h
   rename_i y kk hy hkk;rw[hy,show ux (.im y)=aa y from rfl,iJ,hkk,iJ];split at h
   case isFalse=>cases h
   rename_i hl;rw[cY hl];exact Vg h
inductive Pj(P:List aq)(D:aq)(acc:List (au×au))(H:Hp):Prop
 |mk (ks:List Key) (vs:List V) (hk:cH cL acc=aa ks) (hD:H D=aa (.dK (ks.zip vs))) (r:jl (er P H) acc vs):Pj P D acc H
theorem amM{K:aJ}{fi:FI}{T:gY}{ft:FT}{fk fv:FE}{js:List Nat}:∀σ H Q,tE K (zm fi T ft fk fv js) σ H Q->tDC K (tI K ao fi) T (λ_=>fX K ft) (λ_=>tE K fk) (λ_=>tE K fv) js σ H Q:=by
 rintro σ H Q ⟨Z,Θ,env,C,res,env',C',S,hf,q⟩;unfold zm at hf;split at hf
 case h_2=>cases hf
 rename_i its e1 C1 h1;split at hf
 case h_2=>cases hf
 rename_i kvs C2 h2;cases hf
 refine⟨Z,Θ,env,C,its,e1,C1,S,h1,λJ H1 k1 f1 S1 it D hD b=>?_⟩
 have sU:D∉Θ:=λm=>(S1.cell.dom D m).ne hD
 have Xv:D∈aY (lV D Z (gZ js e1) σ) Θ [] []:=(pZ (js:=js) rfl).mpr (.inl rfl);have Ez:∀a Hx Hy,aX Θ Hx Hy->Pj (aY (lV D Z (gZ js e1) σ) Θ [] []) D a Hx->Pj (aY (lV D Z (gZ js e1) σ) Θ [] []) D a Hy:=λa Hx Hy kk r=>by
  obtain⟨ks,vs,g1,g2,g3⟩:=r
  exact⟨ks,vs,g1,kk.keep _ _ g2 sU,g3.same (mF kk (λa m=>iQ.mpr (.inr (.inl m))) λa m=>.inl m)⟩
 refine Uj (a0:=[]) (Ob:=Pj (aY (lV D Z (gZ js e1) σ) Θ [] []) D) S1 it hD ⟨[],[],rfl,eN,rfl⟩ Ez (λa Hx r=>by obtain⟨ks,vs,_,e,_⟩:=r;exact⟨_,e,λ_ z=>nomatch z⟩) ?_ (Vg h2) λH2 ki ci r=>?_
 .intro ts acc C2 p vs H4 Q hs S4 k4 r4 hQ
  obtain⟨w,hfk,hs⟩:=jf hs
  obtain⟨kd,W2,hs⟩:=jf hs
  obtain⟨w2,hfv,hs⟩:=jf hs
  obtain⟨yd,uB,hs⟩:=jf hs
  obtain⟨kk,hkd,hs⟩:=jf hs
  have W2:=Hz W2;have uB:=Hz uB;cases hlt:decide (acc.length<gF) with
  |false=>rw[hlt] at hs;cases hs
  |true=>
  rw[hlt] at hs;cases hs
  refine⟨_,Θ,_,C2,w.1,w.2.1,w.2.2,S4,hfk,λy H5 k5 f5 R5=>?_⟩
  rw[W2] at R5;have S5:=S4.go k5 R5.1.cell
  refine⟨_,Θ,_,w.2.2,w2.1,w2.2.1,w2.2.2,S5,hfv,λz H6 k6 f6 R6=>?_⟩
  obtain⟨S6,r6⟩:=R6.wC uB
  obtain⟨ks,wO,hks,hD6,r6'⟩:=Ez _ _ _ (k5.trans k6) r4
  have Xw:bT w2.2.1 (vs.map aa++frees js σ)=[]:=by
   have:=(Fz.own (σ:=vs.map aa++frees js σ) f6)
   rw[DX Nq] at this;exact ahv.mp this
  have e6:er (aY (lV D Z (gZ js e1) σ) Θ w2.2.1 (vs.map aa++frees js σ)) H6=er (aY (lV D Z (gZ js e1) σ) Θ [] []) H6:=rR λa=>by rw[pZ (js:=js) Xw,pZ (js:=js) rfl]
  rw[e6] at r6
  obtain⟨ks',vs',g3,g4,g5⟩:=MJ hkd r6 hks r6'
  have lt:=of_decide_eq_true hlt
  refine⟨ks.zip wO,kk,hD6,adV hkd R5.2,?_,hQ _ (VN (Hy:=H6) hD ((k4.trans k5).trans k6)) (LR sU S6.cell) ⟨ks',vs',g3,by rw[g5];exact eN,?_⟩⟩
  .rw[JQ,iM,vL hks];unfold gF at lt;lia
  .rw[Np Xv];exact g4
 .obtain⟨ks,wO,hks,hDi,ri⟩:=r
  refine q _ H2 (k1.trans ki) ?_ ?_
  .split
   .exact f1
   .exact f1.trans (DW js e1)
  .refine⟨D,rfl,k1.none hD,?_⟩
   split
   .rename_i hn;have SD:=S1.Az hD ki ⟨_,hDi,λ_ z=>nomatch z⟩ ci
    exact⟨SD,wO,.inl ⟨ks,hks,hDi⟩,ri.lg (λa vs e=>DN SD (jJ e)) hn⟩
   .refine⟨(S1.fz (DW js e1)).Az hD ki ⟨_,hDi,λ_ z=>nomatch z⟩ ci,wO,.inl ⟨ks,hks,hDi⟩,?_⟩
    rw[rR (P':=aY (D::Z) Θ (gZ js e1) σ) λa=>by rw[pZ (js:=js) rfl];show _↔a∈D::aY Z Θ (gZ js e1) σ;rw[bY]] at ri;exact ri
section
variable{X:Cx}{NT NF:List Str}{js:List Nat}{kx vx tg iter:Expr}{ifs:List Expr}{T:gY}{fi:FI}{ft:FT}{fk fv:FE}{scope:jT}{pos:Pos}
theorem abQ(B:qR X NT NF js scope)(tk:qm tg NT T)(hc:X.calm=ao)(hu:X.A.units+1<fV)(hi:PI X tg iter (tI X.K ao fi))
  (hin:∀b,oU (X.bk (NT++NF) scope b) ifs (fX X.K ft)/\PE (X.bk (NT++NF) scope b) kx (tE X.K fk)/\PE (X.bk (NT++NF) scope b) vx (tE X.K fv))
  (hsw:xV (.DictComp kx vx [⟨tg,iter,ifs,0⟩] scope pos) (aa (.Name y pos')) spos.line X.env=pure ao)(hN:X.N.Nodup)(hI:X.N[i]?=aa y)(hy:X.env.scope.names.lookup y=aa .local)
  (hs:∀x,vB iter X.env x=pure x:=by intro _;rfl):PS X (.Assign [.Name y pos'] (.DictComp kx vx [⟨tg,iter,ifs,0⟩] scope pos) spos) (tS X.K (dH i (zm fi T ft fk fv js))):=(akP B tk hc hu hi hin hsw hN hI hy hs).weak (Uh amM)
end
section
variable{X:Cx}
theorem aim(hc:X.calm=ao):gQ X (.type "list") (λxs H Q=>∃(d:aq)(kvs:List (Key×V)),xs=[.ref d]/\H d=aa (.dK kvs)/\∀l,H l=aj->Q (.ref l) (upd H l (.lst (kvs.map λkv=>kV kv.1)))):=by
 intro pins s σ H xs us Q I r h
 obtain⟨d,kvs,rfl,hd,q⟩:=h
 obtain⟨u,rfl,ru⟩:=vals1 r
 cases ru
 obtain⟨z,lo,vs,rel,dd⟩:=I.hok d _ hd
 obtain⟨ep,da⟩:=dd.dictAt
 have lv:vs.length=kvs.length:=(Paired.length rel).symm;refine kdl_call (kdl_dict (knd:=jH X.prog X.w) (ep:=ep) lo) (I.ok.hd hc) da (by rw[lv];exact z) λh' tk acc' c' kp e hacc=>?_
 have hl:Vals (kvs.map λkv=>kV kv.1) acc'.toList:=by
  have h2:acc'.toList.length=vs.length:=by rw[jF];exact hacc.1
  have h3:∀i v,acc'.toList[i]?=aa v->∃k x,vs[i]?=aa (k,x)/\(jH X.prog X.w).is k v=ao:=λi v e=>hacc.2 i v (by rw[<-Fe];exact e)
  clear e hacc dd da;generalize acc'.toList=us at h2 h3;clear hd q z lv;induction rel generalizing us with
  |nil=>
   cases us with
   |nil=>exact .nil
   |cons _ _=>cases h2
  |@cons p w ps ws hp _ ih=>
   cases us with
   |nil=>cases h2
   |cons u us=>
    refine .cons ?_ (ih us (by simpa using h2) λi v e=>by simpa using h3 (i+1) v (by simpa using e))
    obtain⟨k,x,e1,e2⟩:=h3 0 u rfl
    simp at e1;have ek:k=p.1:=by rw[hp.1,e1]
    subst ek;rcases tG e2 with⟨i,t,e3,e4⟩|⟨y,t,e3,e4⟩
    .show RelV (kV p.1) u;rw[e3,e4];exact⟨t,rfl⟩
    .show RelV (kV p.1) u;rw[e3,e4];exact⟨t,rfl⟩
 refine⟨.ref s.heap.objs.size,_,I.laid (t':=tk) kp (bU _) (show fB X.prog X.w _ h' _ (.lst (kvs.map λkv=>kV kv.1)) from⟨by rw[bw];exact z,acc'.toList,c',hl,by simpa using e⟩),rfl,q _ (I.hok.fresh (bU _))⟩
def MK:List au->Option Vl
 |[.list ds]=>aa (.ow (.list ds))
 |[.tuple ds]=>aa (.ow (.list ds))
 |[.dict kvs]=>if(cH cL kvs).isSome then aa (.ow (.list (kvs.map (·.1)))) else aj
 |_=>aj
def ad6(K:aJ):List V->Hp->VK->Prop:=λxs H Q=>(∃p ys,xs=[.ref p]/\(bO K H p ys\/cW K H p ys)/\∀l,H l=aj->Q (.ref l) (upd H l (.lst ys)))\/∃(d:aq)(kvs:List (Key×V)),xs=[.ref d]/\H d=aa (.dK kvs)/\∀l,H l=aj->Q (.ref l) (upd H l (.lst (kvs.map λkv=>kV kv.1)))
theorem ajf(hc:X.calm=ao):gQ X (.type "list") (ad6 X.K):=aii.or (aim hc)
theorem abR:∀{kvs:List (au×au)}{ks:List Key}{vs:List V},cH cL kvs=aa ks->ks.length=vs.length->cB E (kvs.map (·.1)) ((ks.zip vs).map λkv=>kV kv.1)
 |[],ks,vs,h,_=>by cases h;rfl
 |(p,d)::kvs,ks,vs,h,hl=>by
  unfold cH at h;split at h
  .rename_i k t h1 h2;cases h;cases vs with
   |nil=>cases hl
   |cons v vs=>
    refine⟨_,_,rfl,?_,abR h2 (by simpa using hl)⟩
    cases p<;>first|(cases h1;rfl)|cases h1
  .cases h
theorem alb{K:aJ}:lX K (ad6 K) MK:=by
 intro Z Θ env C σ H xs ds res S b e Q q;unfold MK at e;split at e
 case h_4=>cases e
 .cases e
  obtain⟨v,rfl,bb⟩:=pH b
  obtain⟨a,vs,rfl,ha,r⟩:=bb.lst
  exact .inl ⟨a,vs,rfl,.inl (bO.of ha),λl hl=>q _ _ (aX.upd hl) (oH S r hl)⟩
 .cases e
  obtain⟨v,rfl,bb⟩:=pH b
  obtain⟨a,vs,rfl,ha,r⟩:=bb.tup
  exact .inl ⟨a,vs,rfl,.inr (cW.of ha),λl hl=>q _ _ (aX.upd hl) (oH S r hl)⟩
 .split at e
  case isFalse=>cases e
  rename_i kvs hs;cases e
  obtain⟨v,rfl,bb⟩:=pH b
  obtain⟨a,vs,rfl,da,r⟩:=bb.dct
  rcases da with⟨ks,h1,ha⟩|⟨ks,⟨ne,h2⟩,ha⟩
  .exact .inr ⟨a,_,rfl,ha,λl hl=>q _ _ (aX.upd hl) (oH S (abR h1 (by rw[vL h1,Ds r])) hl)⟩
  .obtain⟨ks',h1⟩:=xr.mp hs
   exact absurd (xX h1 h2) ne
def Vh:List au->Option Vl
 |[.dict []]=>aj
 |[.dict ((k,v)::r)]=>match um k with
  |some (b::sh)=>if r.length<63/\(((k,v)::r).all λp=>decide (um p.1=aa (b::sh)))=ao then aa (.ow (.list (uo (((k,v)::r).map (·.1))))) else aj
  |_=>aj
 |_=>aj
theorem aa5:∀{kvs:List (au×au)}{ks:List (List Key)},cH rY kvs=aa ks->(∀p∈kvs,um p.1=aa sh)->kvs.map (·.1)=ks.map (λk=>.tuple (k.map ju))/\∀k∈ks,k.map bM=sh
 |[],ks,h,_=>by cases h;exact⟨rfl,λ_ m=>(nomatch m)⟩
 |(p,d)::kvs,ks,h,hs=>by
  unfold cH at h;split at h
  .rename_i k t h1 h2;cases h
   obtain⟨g1,g2⟩:=aa5 h2 λq m=>hs q (dZ _ m)
   have hp:=hs (p,d) dg
   obtain⟨xs,rfl,hx⟩:∃xs,p=.tuple xs/\keysOf xs=aa k:=by
    have h1':rY p=aa k:=h1;cases p with
    |tuple xs=>exact⟨xs,rfl,h1'⟩
    |_=>cases h1'
   have hp:(keysOf xs).map (λks=>ks.map bM)=aa sh:=hp;rw[hx] at hp
   refine⟨by rw[cj,g1,Mg hx];rfl,λk' m=>?_⟩
   rcases bY.mp m with rfl|m
   .exact gP hp
   .exact g2 k' m
  .cases h
theorem alc{K:aJ}:lX K (λxs H Q=>∃(d:aq)(kvs:List (List Key×V))(b:Bool)(sh:List Bool),xs=[.ref d]/\H d=aa (.dT kvs)/\kvs.length<64/\(∀kv∈kvs,kv.1.map bM=b::sh)/\
  ∀(l:aq)(rows:List Row),H l=aj->(rows.map (·.2)).Perm (kvs.map (·.1))->rows.map (·.2)=ug (kvs.map (·.1))->(∀r∈rows,H r.1=aa (.tup (r.2.map kV)))->Q (.ref l) (upd H l (.lst (rows.map λr=>V.ref r.1)))) Vh:=by
 intro Z Θ env C σ H xs ds res S b e Q q;unfold Vh at e;split at e
 .cases e
 .rename_i k0 v0 r0;split at e
  case h_2=>cases e
  rename_i b0 sh hsh;split at e
  case isFalse=>cases e
  rename_i hall;cases e;have hall':∀p∈(k0,v0)::r0,um p.1=aa (b0::sh):=λd m=>of_decide_eq_true (oX.mp hall.2 d m)
  obtain⟨v,rfl,bb⟩:=pH b
  obtain⟨a,vs,rfl,da,r⟩:=bb.dct
  rcases da with⟨ks,h1,ha⟩|⟨ks,⟨ne,h2⟩,ha⟩
  .exfalso;unfold cH at h1;split at h1
   .rename_i k' t g1 g2;have g1:cL k0=aa k':=g1;cases k0<;>first|cases g1|skip
    all_goals cases hsh
   .cases h1
  .obtain⟨e1,e2⟩:=aa5 h2 hall'
   have lk:=vL h2;have lr:=Ds r;have ez:(ks.zip vs).map (·.1)=ks:=by
    rw[ahw];rw[lk,lr];exact bU _
   refine⟨a,ks.zip vs,b0,sh,rfl,ha,?_,λkv m=>e2 kv.1 (QF (a:=kv.1) (b:=kv.2) m).1,λl rows hn p hp hr=>?_⟩
   .rw[JQ,lk,lr,cA];lia
   .rw[ez] at hp;have ek:(((k0,v0)::r0).map (·.1)).map yF=ks:=by
     rw[e1,cU]
     refine(uI λk _=>?_).trans (Ky ks)
     show(keysOf (k.map ju)).getD []=k
     rw[GX];rfl
    have es:(rows.map λr=>tD (r.2.map ju))=uo (((k0,v0)::r0).map (·.1)):=by
     unfold uo;rw[ek,<-hp,cU];rfl
    rw[<-es] at q;exact q _ _ (aX.upd hn) (oH S (GZ λr m=>DN S (hr r m)) hn)
 .cases e
theorem ad7{K:aJ}{r r':List V->Hp->VK->Prop}{op op':List au->Option Vl}(h:lX K r op)(h':lX K r' op'):lX K (λxs H Q=>r xs H Q\/r' xs H Q) (λds=>match op ds with|some z=>aa z|none=>op' ds):=by
 intro Z Θ env C σ H xs ds res S b e Q q;cases h1:op ds with
 |some z=>
  simp only[h1] at e;cases e;exact .inl (h Z Θ env C σ H xs ds _ S b h1 Q q)
 |none=>
  simp only[h1] at e;exact .inr (h' Z Θ env C σ H xs ds res S b e Q q)
end
def mY:List au->List au->List au
 |x::xs,y::ys=>.tuple [x,y]::mY xs ys
 |_,_=>[]
theorem ac8:∀{xs ys:List au}{i:Nat}{d:au},(mY xs ys)[i]?=aa d->∃x y,xs[i]?=aa x/\ys[i]?=aa y/\d=.tuple [x,y]
 |[],_,i,d,h=>by simp[mY] at h
 |_::_,[],i,d,h=>by simp[mY] at h
 |x::xs,y::ys,0,d,h=>by
  simp[mY] at h
  exact⟨x,y,rfl,rfl,h.symm⟩
 |x::xs,y::ys,i+1,d,h=>by
  obtain⟨a,b,h1,h2,h3⟩:=ac8 (i:=i) (by simpa[mY] using h)
  exact⟨a,b,by simpa using h1,by simpa using h2,h3⟩
theorem abS:∀{xs ys:List au},(mY xs ys).length=min xs.length ys.length
 |[],_=>by simp[mY]
 |_::_,[]=>by simp[mY]
 |x::xs,y::ys=>by simp[mY,abS,Nat.succ_min_succ]
theorem aoq{K:aJ}{P T:List aq}{H:Hp}{a b:aq}{ds es:List au}{vs ws:List V}(ha:er T H a=aa (.lst vs))(hb:er T H b=aa (.lst ws))(r1:cB (er P H) ds vs)(r2:cB (er P H) es ws):Br P T H (Xj K a b) (mY ds es):=λi H2 P2 s1 s2 n=>by
 have h2:bO K H2 a vs:=bO.of (jJ (s2 _ _ ha));have h3:bO K H2 b ws:=bO.of (jJ (s2 _ _ hb))
 refine⟨λd hd=>?_,λhi=>⟨vs,ws,h2,h3,by rw[hi,abS,jK r1,jK r2]⟩⟩
 obtain⟨x,y,e1,e2,rfl⟩:=ac8 hd
 obtain⟨v,ev,rv⟩:=yr r1 e1
 obtain⟨w,ew,rw'⟩:=yr r2 e2
 refine⟨⟨vs,ws,h2,h3,?_⟩,λz H3 yl=>?_⟩
 .have l1:=(jW.mp ev).1;have l2:=(jW.mp ew).1;lia
 .obtain⟨p,v',w',hp,rfl,rfl,hh⟩:=yl
  obtain⟨g1,g2⟩:=hh vs ws h2 h3
  rw[ev] at g1;rw[ew] at g2;cases g1;cases g2;have sp:bJ H2 (upd H2 p (.tup [v,w])):=bJ.upd hp
  refine⟨sp,p,[v,w],rfl,?_,v,[w],rfl,rv.same (s1.trans (acN sp)),w,[],rfl,rw'.same (s1.trans (acN sp)),rfl⟩
  unfold er;rw[bf (λm=>n p m hp),eN]
def BX(f:zb):FI:=λenv C=>match f env C with
 |some ([.list xs,.list ys],e1,C1)=>aa (mY xs ys,e1,C1)
 |_=>aj
theorem ad8(hg:Gl X "zip")(hm:X.mg "zip"=aj)(ha:PA X [x,y] (zc X.K f))(hs:bC [x,y] X.env=[(aF,eval x X.env),(aF,eval y X.env)]:=by rfl)(hs2:bC [y] X.env=[(aF,eval y X.env)]:=by rfl):
  PI X (.Tuple es k ps) (.Call (.Name "zip" p) [x,y] [] pos) (tI X.K ao (BX f)):=(aob hg hm ha hs hs2).weak λσ H R aN=>by
 obtain⟨Z,Θ,env,C,its,env',C',S,hf,q⟩:=aN
 unfold BX at hf;split at hf
 case h_2=>cases hf
 rename_i xs ys e1 C1 h1;cases hf
 refine⟨Z,Θ,env,C,_,env',C',S,h1,λvs H1 k f S1 b1=>?_⟩
 cases b1 with
 |cons b1 b2=>
  cases b2 with
  |cons b2 b3=>
   cases b3
   obtain⟨a,vs1,rfl,ha,r1⟩:=b1
   obtain⟨b,vs2,rfl,hb,r2⟩:=b2
   exact⟨a,b,vs1,vs2,rfl,bO.of (jJ ha),bO.of (jJ hb),q _ H1 k f S1 (aoq ha hb r1 r2)⟩
section
variable{X:Cx}{tg e:Expr}
def W3:au->Option (List au)
 |.list ds=>aa ds
 |.tuple ds=>aa ds
 |_=>aj
def uC(f:FB):FI:=λenv C=>match f env C with
 |some (d,e1,C1)=>match W3 d with
  |some its=>aa (its,e1,C1)
  |none=>aj
 |none=>aj
def iV2(f:FE):FI:=λenv C=>match f env C with
 |some (r,e1,C1)=>match still r with
  |.im d=>match W3 d with
   |some its=>aa (its,e1,C1)
   |none=>aj
  |_=>aj
 |none=>aj
theorem Ek(h:PE X e (dY X.K f)):PI X tg e (tI X.K ao (uC f)):=((UL h).or (Vx h)).weak λσ H R aN=>by
 obtain⟨Z,Θ,env,C,its,env',C',S,hf,q⟩:=aN
 unfold uC at hf;split at hf
 .rename_i d e1 C1 h1;split at hf
  .rename_i ys hi;cases hf;cases d<;>first|cases hi|skip
   .refine .inl ⟨Z,Θ,env,C,_,env',C',S,h1,λv H1 k f S1 b=>?_⟩
    obtain⟨a,vs,rfl,ha,r⟩:=b
    exact⟨a,rfl,⟨vs,bO.of (jJ ha)⟩,q _ H1 k f S1 (Vc ha r)⟩
   .refine .inr ⟨Z,Θ,env,C,_,env',C',S,h1,λv H1 k f S1 b=>?_⟩
    obtain⟨a,vs,rfl,ha,r⟩:=b
    exact⟨a,rfl,⟨vs,cW.of (jJ ha)⟩,q _ H1 k f S1 (VM ha r)⟩
  .cases hf
 .cases hf
theorem ahN(hc:X.calm=ao):gQ X (.builtin "sorted") (λxs H Q=>∃d:aq,xs=[.ref d]/\H d=aa (.dK [])/\∀l,H l=aj->Q (.ref l) (upd H l (.lst []))):=by
 intro pins s σ H xs us Q I r h
 obtain⟨d,rfl,hd,q⟩:=h
 refine bH (Y8 hc pins s σ (upd H d (.dT [])) [.ref d] us (λv H'=>∃l,v=.ref l/\H l=aj/\H'=upd (upd H d (.dT [])) l (.lst [])) (I.Jg hd) r ⟨d,[],ao,[],rfl,eN,by decide,(λ_ m=>nomatch m),λl rows hl p _ _=>?_⟩) λu s' ⟨v,H',I',rv,l,ev,hl,eH⟩=>?_
 .have:rows=[]:=by
   cases rows with
   |nil=>rfl
   |cons _ _=>exact absurd p.length_eq (by simp)
  subst this
  refine⟨l,rfl,?_,rfl⟩
  by_cases z:l=d
  .subst z;rw[eN] at hl;cases hl
  .rw[cV z] at hl;exact hl
 .subst ev eH;have nd:d≠l:=qL hd hl;have e:upd (upd H d (.dT [])) l (.lst [])=upd (upd H l (.lst [])) d (.dT []):=by
   funext b;by_cases h1:b=l
   .subst h1;rw[eN,cV (lO nd),eN]
   .rw[cV h1];by_cases h2:b=d
    .subst h2;rw[eN,eN]
    .rw[cV h2,cV h2,cV h1]
  rw[e] at I'
  exact⟨.ref l,_,I'.Pg (by rw[cV nd];exact hd),rv,q l hl⟩
def Vi:List au->Option Vl
 |[.dict []]=>aa (.ow (.list []))
 |_=>aj
theorem ald{K:aJ}:lX K (λxs H Q=>∃d:aq,xs=[.ref d]/\H d=aa (.dK [])/\∀l,H l=aj->Q (.ref l) (upd H l (.lst []))) Vi:=by
 intro Z Θ env C σ H xs ds res S b e Q q;unfold Vi at e;split at e
 case h_2=>cases e
 cases e
 obtain⟨v,rfl,bb⟩:=pH b
 obtain⟨a,vs,rfl,da,r⟩:=bb.dct
 rcases da with⟨ks,h1,ha⟩|⟨ks,⟨ne,_⟩,_⟩
 .cases h1
  exact⟨a,rfl,ha,λl hl=>q _ _ (aX.upd hl) (oH S rfl hl)⟩
 .exact absurd rfl ne
def Hj(ds:List au):Option Vl:=match Mf ds with
 |some z=>aa z
 |none=>match Vh ds with
  |some z=>aa z
  |none=>Vi ds
abbrev ad9(K:aJ):List V->Hp->VK->Prop:=λxs H Q=>V0 K xs H Q\/((∃(d:aq)(kvs:List (List Key×V))(b:Bool)(sh:List Bool),xs=[.ref d]/\H d=aa (.dT kvs)/\kvs.length<64/\(∀kv∈kvs,kv.1.map bM=b::sh)/\
  ∀(l:aq)(rows:List Row),H l=aj->(rows.map (·.2)).Perm (kvs.map (·.1))->rows.map (·.2)=ug (kvs.map (·.1))->(∀r∈rows,H r.1=aa (.tup (r.2.map kV)))->Q (.ref l) (upd H l (.lst (rows.map λr=>V.ref r.1))))\/∃d:aq,xs=[.ref d]/\H d=aa (.dK [])/\∀l,H l=aj->Q (.ref l) (upd H l (.lst [])))
theorem aaB(hc:X.calm=ao):gQ X (.builtin "sorted") (ad9 X.K):=aje.or ((Y8 hc).or (ahN hc))
theorem abT{K:aJ}:lX K (ad9 K) Hj:=ad7 aj5 (ad7 alc ald)
end
def Wq:FN:=λ_ _=>aj
theorem amN{P:bD}{w:bB}{K:aJ}{mg:Str->Option Value}{base:bz}{f:aq}{fd:dF}{ps:List Str}:dw P w K mg base eG 0 f fd ps (spT K Wq):=by
 have no:∀vs H Q E,¬spT K Wq vs H Q E:=λvs H Q E ⟨_,_,_,_,_,_,_,_,h,_⟩=>nomatch h
 exact⟨λ_ _ _ _ h=>(no _ _ _ _ h).elim,λ_ _ _ _ _ _ _ _ _ _ _ _ _ h=>(no _ _ _ _ h).elim⟩
def uq(i:Nat)(f:FB):FE:=λenv C=>match env[i]? with
 |some (some (.ce n))=>match f env C with
  |some (.int k,_,C1)=>match C1[n]? with
   |some ns=>match fG ns k with
    |some z=>aa (.im (.int z),env,C1)
    |none=>aj
   |none=>aj
  |_=>aj
 |_=>aj
theorem Aj(ho:PE X o (sH i))(hk:PE X k (dY X.K f))(hs:Mt k):PE X (.Subscript o k pos) (tE X.K (uq i f)):=(Wi U4 ho hk hs).weak λσ H Q aN=>by
 obtain⟨Z,Θ,env,C,r,env',C',S,hf,q⟩:=aN
 unfold uq at hf;split at hf
 case h_2=>cases hf
 rename_i n h0;split at hf
 case h_2=>cases hf
 rename_i z e1 C1 h1;split at hf
 case h_2=>cases hf
 rename_i ns hns;split at hf
 case h_2=>cases hf
 rename_i y hy;cases hf
 obtain⟨v,ev,a,rfl,hth⟩:=S.slot i _ h0
 refine⟨_,ev,Z,Θ,env,C,_,e1,C',S,h1,λw H1 k1 f1 S1 b1=>?_⟩
 have S2:=S.go k1 S1.cell;have ha:=S1.cell.at_ n a ns hth hns
 refine⟨a,_,z,.int y,rfl,b1,bO.of ha,?_,q _ H1 k1 (Fz.refl _) ⟨S2,rfl⟩⟩
 unfold fG at hy⊢;rw[bw];cases hj:pN ns.length z with
 |none=>rw[hj] at hy;cases hy
 |some j=>
  rw[hj] at hy
  show(ns.map V.int)[j]?=_
  rw[jm,show ns[j]?=aa y from hy];rfl
def Bx(C:Ce)(b:Nat)(n:Int):Prop:=∃x y z:Int,C[b]?=aa [x,y,z]/\0<=x/\0<=y/\y<=3000000000/\0<=z/\z<=n
theorem Bx.mono(h:Bx C b n)(hm:n<=m):Bx C b m:=by
 obtain⟨x,y,z,h1,h2,h3,h4,h5,h6⟩:=h
 exact⟨x,y,z,h1,h2,h3,h4,h5,by lia⟩
theorem aea{C:Ce}{b:Nat}{l l':List Int}(h:C[b]?=aa l):(C.set b l')[b]?=aa l':=by
 rw[Fv,aV rfl,aV (jW.mp h).1]
theorem abU{C C':Ce}(h:C'.length=C.length):C'.take C.length=C':=Yd (by lia)
theorem mul_eq(h:(-18446744073709551616<i/\i<18446744073709551616)\/(-18446744073709551616<j/\j<18446744073709551616)):qT (.int i) (.int j)=aa (.im (.int (i*j))):=by
 unfold qT;exact aV h
theorem mod_eq(h:0<j):qi (.int i) (.int j)=aa (.im (.int (i%j))):=by
 unfold qi;exact aV h
theorem fdiv_eq(h:0<j)(h1:j<1073741824):DP (.int i) (.int j)=aa (.im (.int (i / j))):=by
 unfold DP;exact aV ⟨h,h1⟩
theorem abV(I:Nat->En->Ce->Prop):∀{its:List au}{env:En}{C:Ce}{k:Nat},I k env C->
  (∀i d env C,its[i]?=aa d->I (k+i) env C->∃e1 fl env' C',g d env=aa e1/\body e1 C=aa (fl,env',C')/\(fl=.nx\/fl=.ct)/\I (k+i+1) env' C')->
  ∃env' C',gC g body its env C=aa (.nx,env',C')/\I (k+its.length) env' C'
 |[],env,C,k,h,_=>⟨env,C,rfl,h⟩
 |d::r,env,C,k,h,st=>by
  obtain⟨e1,fl,aqk,C1,h1,h2,h3,h4⟩:=st 0 d env C rfl h
  obtain⟨aql,C2,h5,h6⟩:=abV I (its:=r) (env:=aqk) (C:=C1) (k:=k+1) h4 λi d' env C hd hi=>by
   have:=st (i+1) d' env C (by simpa using hd) (by rw[show k+(i+1)=k+1+i by lia];exact hi);rw[show k+(i+1)+1=k+1+i+1 by lia] at this;exact this
  refine⟨aql,C2,?_,by rw[cA,show k+(r.length+1)=k+1+r.length by lia];exact h6⟩
  unfold gC;rw[h1];simp only;rw[h2];rcases h3 with rfl|rfl<;>exact h5
theorem aa6(I:Nat->En->Ce->Prop)(h:I 0 env C)
  (st:∀i d env C,its[i]?=aa d->I i env C->∃e1 fl env' C',g d env=aa e1/\body e1 C=aa (fl,env',C')/\(fl=.nx\/fl=.ct)/\I (i+1) env' C'):
  ∃env' C',gC g body its env C=aa (.nx,env',C')/\I its.length env' C':=by
 have:=abV I (k:=0) h λi d env C hd hi=>by
  rw[Rp] at hi⊢;exact st i d env C hd hi
 rw[Rp] at this;exact this
theorem z8(lo:Int)(n:Nat):(jV lo n).length=n:=by unfold jV;rw[bw,ou]
theorem Vj{lo:Int}{n i:Nat}{d:au}(h:(jV lo n)[i]?=aa d):d=.int (lo+i)/\i<n:=by
 unfold jV at h;rw[jm] at h;by_cases hi:i<n
 .rw[agN hi] at h
  exact⟨(gP h).symm,hi⟩
 .rw[Cj (by rw[ou];lia)] at h;cases h
theorem aa7(I:Nat->Ce->Prop)(R:Nat->au->Prop):∀{its:List au}{C:Ce}{k:Nat},I k C->(∀i d C,its[i]?=aa d->I (k+i) C->∃ts x e C' y,vq T d=aa ts/\fe (dN ts++fs) C=aa (x,e,C')/\still x=.im y/\R (k+i) y/\I (k+i+1) C')->
  ∃ys C',jU T iZ fe fs its C=aa (ys,C')/\I (k+its.length) C'/\ys.length=its.length/\∀i y,ys[i]?=aa y->R (k+i) y
 |[],C,k,h,_=>⟨[],C,rfl,h,rfl,λi y e=>by simp at e⟩
 |d::r,C,k,h,st=>by
  obtain⟨ts,x,e,C1,y,h1,h2,h3,h4,h5⟩:=st 0 d C rfl h
  obtain⟨ys,C2,h6,h7,h8,h9⟩:=aa7 I R (its:=r) (C:=C1) (k:=k+1) h5 λi d' C hd hi=>by
   have:=st (i+1) d' C (by simpa using hd) (by rw[show k+(i+1)=k+1+i by lia];exact hi);rw[show k+(i+1)+1=k+1+i+1 by lia,show k+(i+1)=k+1+i by lia] at this;exact this
  refine⟨y::ys,C2,?_,by rw[cA,show k+(r.length+1)=k+1+r.length by lia];exact h7,by simp[h8],λi z hz=>?_⟩
  .unfold jU;simp only[h1,iZ,h2,h3];rw[h6]
  .cases i with
   |zero=>simp at hz;subst hz;exact h4
   |succ i=>
    have:=h9 i z (by simpa using hz);rw[show k+(i+1)=k+1+i by lia];exact this
theorem aeb(h0:0<=k)(h1:k<xs.length):∃x,fG xs k=aa x/\xs[k.toNat]?=aa x:=by
 have hk:k.toNat<xs.length:=by lia
 refine⟨xs[k.toNat],?_,jX hk⟩
 unfold fG pN;rw[aV h0,aV h1];exact jX hk
def Pk(z:Str):Bool:=z.cps.toList.all λc=>decide (97<=c)&&decide (c<=122)
def nameB(z:Str):Bool:=decide (1<=z.length)&&decide (z.length<=8)&&Pk z
abbrev abc:Str:=dO "abcdefghijklmnopqrstuvwxyz"
theorem aor(r0:0<=r)(r1:r<26):fG abc.cps.toList r=aa (97+r.toNat):=by
 have h:∀k:Nat,k<26->fG abc.cps.toList (k:Int)=aa (97+k):=by decide +kernel
 have:=h r.toNat (by lia)
 rwa [Int.toNat_of_nonneg r0] at this
theorem aaC:∀(l:List Nat)(a:Array Nat),((l.map λc=>(⟨#[c]⟩:Str)).foldl (λacc p=>acc++(dO "").cps++p.cps) a).toList=a.toList++l
 |[],a=>by simp
 |c::r,a=>by
  simp only[cj,vC];rw[aaC r];have e:(dO "").cps=#[]:=by decide +kernel
  rw[e];simp
theorem aaD:∀(l:List Nat),(Txt.join (dO "") (l.map λc=>(⟨#[c]⟩:Str))).cps.toList=l
 |[]=>by decide +kernel
 |c::r=>by
  show(((r.map λc=>(⟨#[c]⟩:Str))).foldl (λacc p=>acc++(dO "").cps++p.cps) #[c]).toList=c::r
  rw[aaC r];rfl
theorem ac9:∀ys:List Nat,(ys.map ((λx:Str=>x.length) ∘ λc=>(⟨#[c]⟩:Str))).sum=ys.length
 |[]=>rfl
 |c::r=>by
  rw[cj,List.sum_cons,ac9 r,cA];show 1+r.length=r.length+1;lia
def Names(zs:List Str):Prop:=zs.Nodup/\∀z∈zs,nameB z=ao
theorem Mi(z:Str)(zs:List Str):inD (.str z) (zs.map .str)=decide (z∈zs):=by
 unfold inD;rw[pU,Z6];simp[Qt,uv,toV]
theorem ale(h:nameB z=ao):1<=z.length/\z.length<=8/\∀c∈z.cps.toList,97<=c/\c<=122:=by
 unfold nameB Pk at h;simp only[jn,decide_eq_true_eq,oX] at h
 exact⟨h.1.1,h.1.2,h.2⟩
def Asc(z:Str):Prop:=∀c∈z.cps.toList,c<128
def qz(n:Nat)(z:Str):Prop:=Asc z/\z.length<=n
theorem qz.mono(h:qz n z)(hm:n<=m):qz m z:=⟨h.1,jQ h.2 hm⟩
theorem qz.line(h:qz n z)(hn:n<=100000:=by lia):z.length<=bW:=ami (m:=100000) (jQ h.2 hn)
theorem qz.slice(h:qz n z)(l u:Option Int):qz n (Txt.slice z l u):=by
 refine⟨λc hc=>?_,jQ (Txt.slice_le z l u) h.2⟩
 unfold Txt.slice at hc;split at hc
 .exact h.1 c hc
 .have hc':c∈((Cd l u 1 z.length).filterMap (z.cps[·]?)):=by simpa using hc
  obtain⟨i,_,e⟩:=Yo.mp hc'
  refine h.1 c ?_;have:=Array.mem_of_getElem? e;simpa using this
theorem qz.add(h:qz n x)(g:qz m y):qz (n+m) (x++y):=by
 have e:(x++y).cps=x.cps++y.cps:=rfl
 refine⟨λc hc=>?_,?_⟩
 .rw[e] at hc;have:c∈x.cps.toList\/c∈y.cps.toList:=by simpa using hc
  exact this.elim (h.1 c) (g.1 c)
 .show(x++y).cps.size<=_
  rw[e,ahe];exact Nat.add_le_add h.2 g.2
theorem qz.name(h:nameB z=ao):qz 8 z:=by
 unfold nameB Pk at h;simp only[jn,decide_eq_true_eq,oX] at h
 exact⟨λc hc=>by have:=h.2 c hc;lia,h.1.2⟩
def gn(zs:List Str)(ps:List (Str×Str)):Prop:=∀(i:Nat)(x:Str×Str),ps[i]?=aa x->zs[i]?=aa x.1/\(x.2=dO ""\/∃j,j<i/\zs[j]?=aa x.2)
theorem gn.snoc(h:gn zs ps)(ha:zs[ps.length]?=aa a)(hb:b=dO ""\/∃j,j<ps.length/\zs[j]?=aa b):gn zs (ps++[(a,b)]):=by
 intro i x e;by_cases hi:i<ps.length
 .rw[oh hi] at e;exact h i x e
 .rw[qD (by lia)] at e;by_cases h0:i-ps.length=0
  .rw[h0] at e;cases e;have:i=ps.length:=by lia
   subst this
   exact⟨ha,hb⟩
  .rw[Cj (by simp;lia)] at e;cases e
def jr(ps:List (Str×Str))(z:Str):Option Str:=(ps.find? λp=>decide (p.1=z)).map (·.2)
inductive Over(f:Str->Option Str):Str->List Str->Prop
 |stop {z:Str}:f z=aj->Over f z []
 |step {z y:Str} {r:List Str}:f z=aa y->Over f y r->Over f z (z::r)
structure Xx(e B:Nat)(d:au):Prop where
 aqm:d.showable=ao
 deep:d.depth<=e
 len:d.shown.length<=B
theorem Xx.mono(h:Xx e B d)(he:e<=e')(hB:B<=B'):Xx e' B' d:=⟨h.aqm,jQ h.deep he,jQ h.len hB⟩
abbrev oK:=Int×Str×Int×Str×Int×Int
abbrev bR:=Int×Str×Str×Str×Int×Int×Int
abbrev HX:=Int×Str
abbrev yG:=Str×Int×List HX
def kJ(r:oK):au:=.tuple [.int r.1,.str r.2.1,.int r.2.2.1,.str r.2.2.2.1,.int r.2.2.2.2.1,.int r.2.2.2.2.2]
def bu(r:bR):au:=.tuple [.int r.1,.str r.2.1,.str r.2.2.1,.str r.2.2.2.1,.int r.2.2.2.2.1,.int r.2.2.2.2.2.1,.int r.2.2.2.2.2.2]
def N8(s:HX):au:=.tuple [.int s.1,.str s.2]
def aos(ss:List HX):au:=.tuple (ss.map N8)
def Bd(r:yG):au:=.tuple [.str r.1,.int r.2.1,aos r.2.2]
def u5(p:Str×Str):au:=.tuple [.str p.1,.str p.2]
structure iC where
 ps:List (Str×Str)
 yH:List oK
 leaves:List bR
 rules:List yG
def gB(h:iC):au:=.tuple [.tuple (h.ps.map u5),.tuple (h.yH.map kJ),.tuple (h.leaves.map bu),.tuple (h.rules.map Bd)]
structure aot(zs own:List Str)(r:oK):Prop where
 num:0<=r.1/\r.1<=2000
 who:r.2.1∈zs
 rank:1<=r.2.2.1/\r.2.2.1<=9
 part:r.2.2.2.1∈own
 days:0<=r.2.2.2.2.1/\r.2.2.2.2.1<=r.2.2.2.2.2/\r.2.2.2.2.2<=99999
structure MN(zs own:List Str)(r:bR):Prop where
 num:0<=r.1/\r.1<=2000
 giver:r.2.1∈zs
 taker:r.2.2.1∈zs
 ne:r.2.1≠r.2.2.1
 part:r.2.2.2.1∈own
 days:0<=r.2.2.2.2.1/\r.2.2.2.2.1<=r.2.2.2.2.2.1/\r.2.2.2.2.2.1<=99999
 most:0<=r.2.2.2.2.2.2/\r.2.2.2.2.2.2<=1000000000
def aou(own:List Str)(s:HX):Prop:=1<=s.1/\s.1<=9/\(s.2=dO ""\/s.2∈own)
structure aov(own:List Str)(r:yG):Prop where
 part:r.1∈own
 sum:0<=r.2.1/\r.2.1<=1000000000
 many:r.2.2.length<=6
 asB:∀s∈r.2.2,aou own s
structure j0(zs:List Str)(ps:List (Str×Str))(h:iC):Prop where
 parts:h.ps.Perm ps
 p8:ps.length<=8
 r20:h.yH.length<=20
 jE:h.leaves.length<=16
 u10:h.rules.length<=10
 yH:∀r∈h.yH,aot zs (ps.map (·.1)) r
 rup:(h.yH.map (·.1)).Pairwise (·<·)
 leaves:∀r∈h.leaves,MN zs (ps.map (·.1)) r
 EY:(h.leaves.map (·.1)).Nodup
 rules:∀r∈h.rules,aov (ps.map (·.1)) r
 unlike:(h.rules.map λr=>(r.1,r.2.1)).Nodup
theorem De(h:nameB z=ao):Rq z=ao:=by
 unfold Rq;rw[Array.all_eq_true'];intro c hc;have:=(ale h).2.2 c (by simpa using hc);exact cY (by lia)
theorem Ur:∀{zs:List Str},(∀z∈zs,Rq z=ao)->Cp (zs.map dR)=ao/\FQ (zs.map dR)=0/\vd (zs.map dR)=ao
 |[],_=>⟨by simp[Cp],by simp[FQ],rfl⟩
 |z::zs,h=>by
  obtain⟨h1,h2,h3⟩:=Ur λx hx=>h x (dZ _ hx)
  refine⟨by simp[Cp,Ge,h z dg];simpa using h1,by simp only[cj,FQ,Kf,h2];rfl,?_⟩
  show(ao&&vd (zs.map dR))=ao
  rw[h3];rfl
theorem aiL{zs:List Str}(h:∀z∈zs,Rq z=ao):jc (.list (zs.map dR))=ao:=by
 obtain⟨h1,h2,_⟩:=Ur h
 unfold jc;simp only[Ge,h1,Kf,h2];decide
theorem ain:∀{l:List α}{m:List β},m.Perm (l.map f)->∃l':List α,l'.Perm l/\m=l'.map f:=λ{l m} p=>by
 generalize e:l.map f=k at p;induction p generalizing l with
 |nil=>
  cases l with
  |nil=>exact⟨[],zK _,rfl⟩
  |cons _ _=>cases e
 |@cons x m k _ ih=>
  cases l with
  |nil=>cases e
  |cons a l=>
   rw[cj,Y9] at e
   obtain⟨l',p',rfl⟩:=ih e.2
   exact⟨a::l',p'.cons a,by rw[cj,e.1]⟩
 |swap x y m=>
  cases l with
  |nil=>cases e
  |cons a l=>
   cases l with
   |nil=>cases e
   |cons b l=>
    rw[cj,cj,Y9,Y9] at e
    obtain⟨e1,e2,e3⟩:=e
    exact⟨b::a::l,QV a b l,by rw[cj,cj,e1,e2,e3]⟩
 |trans _ _ ih1 ih2=>
  obtain⟨l2,p2,e2⟩:=ih2 e
  obtain⟨l1,p1,e1⟩:=ih1 e2.symm
  exact⟨l1,p1.trans p2,e1⟩
theorem ajg(x:Str×Str)(ps:List (Str×Str))(z:Str):jr (x::ps) z=if x.1=z then aa x.2 else jr ps z:=by
 unfold jr;rw[oY];by_cases h:x.1=z
 .rw[cY h,aV h];rfl
 .rw[dW h,bf h]
theorem uP:∀{ps:List (Str×Str)}{z w:Str},(ps.map (·.1)).Nodup->(jr ps z=aa w↔(z,w)∈ps)
 |[],z,w,_=>by simp[jr]
 |x::ps,z,w,h=>by
  rw[cj,je] at h;rw[ajg];by_cases hz:x.1=z
  .rw[aV hz,bY];constructor
   .intro e;left;rw[<-hz,<-gP e]
   .rintro(e|e)
    .rw[<-e]
    .exact absurd (cN.mpr ⟨(z,w),e,hz.symm⟩) h.1
  .rw[bf hz,uP h.2,bY];constructor
   .exact .inr
   .rintro(e|e)
    .exact absurd (by rw[<-e]) hz
    .exact e
theorem ajh(p:ps'.Perm ps)(h:(ps.map (·.1)).Nodup)(z:Str):jr ps' z=jr ps z:=by
 have h':(ps'.map (·.1)).Nodup:=(p.map (·.1)).nodup_iff.mpr h;cases e:jr ps z with
 |some w=>exact(uP h').mpr (p.mem_iff.mpr ((uP h).mp e))
 |none=>
  cases e':jr ps' z with
  |none=>rfl
  |some w=>
   have:=(uP h).mpr (p.mem_iff.mp ((uP h').mp e'));rw[e] at this;cases this
theorem Sx(h:gn zs ps):ps.map (·.1)=zs.take ps.length:=by
 apply YB;intro i;rw[jm,Qi];cases e:ps[i]? with
 |none=>
  rw[bf (by have:=XN.mp e;lia)];rfl
 |some x=>
  rw[aV (jW.mp e).1,(h i x e).1];rfl
theorem CV(hN:Names zs)(h:gn zs ps):(ps.map (·.1)).Nodup:=by
 rw[Sx h];exact hN.1.sublist (Yw _ _)
theorem aio:nameB (dO "")=aF:=by decide +kernel
theorem aaE(hN:Names zs)(h:gn zs ps)(hz:z∈ps.map (·.1)):nameB z=ao:=by
 rw[Sx h] at hz;exact hN.2 z (Qe hz)
theorem aaF(hN:Names zs)(h:gn zs ps):jr ps (dO "")=aj:=by
 cases e:jr ps (dO "") with
 |none=>rfl
 |some w=>
  have:=(uP (CV hN h)).mp e;have:=aaE hN h (cN.mpr ⟨_,this,rfl⟩);rw[aio] at this;cases this
def wZ(f:Str->Option Str):Nat->Str->List Str
 |0,_=>[]
 |n+1,z=>match f z with
  |none=>[]
  |some y=>z::wZ f n y
def up(ps:List (Str×Str))(z:Str):List Str:=wZ (jr ps) (ps.length+1) z
theorem Us(h:f z=aj):∀n,wZ f n z=[]
 |0=>rfl
 |n+1=>by unfold wZ;rw[h]
theorem abW(h:f z=aa y)(n:Nat):wZ f (n+1) z=z::wZ f n y:=by
 rw[wZ,h]
theorem ada:∀n z,(wZ f n z).length<=n
 |0,_=>bU 0
 |n+1,z=>by
  cases h:f z with
  |none=>rw[Us h];exact kI _
  |some y=>
   rw[abW h,cA];exact Qq (ada n y)
theorem adb(hN:Names zs)(hP:gn zs ps):∀(n i:Nat),i<n->∀x,ps[i]?=aa x->Over (jr ps) x.1 (wZ (jr ps) n x.1)
 |0,_,h,_,_=>absurd h (zH _)
 |n+1,i,h,x,hx=>by
  have e:jr ps x.1=aa x.2:=(uP (CV hN hP)).mpr (qF hx);rw[abW e];refine .step e ?_
  rcases(hP i x hx).2 with h2|⟨j,hj,h2⟩
  .rw[h2,Us (aaF hN hP)];exact .stop (aaF hN hP)
  .have hi:=(jW.mp hx).1;have hjl:j<ps.length:=by lia
   have g:=hP j ps[j] (jX hjl);have e2:ps[j].1=x.2:=by
    have:=g.1;rw[h2] at this
    exact(gP this).symm
   rw[<-e2];exact adb hN hP n j (by lia) ps[j] (jX hjl)
theorem MP(hN:Names zs)(hP:gn zs ps)(z:Str):Over (jr ps) z (up ps z):=by
 unfold up;cases e:jr ps z with
 |none=>
  rw[Us e];exact .stop e
 |some w=>
  obtain⟨i,hi,hx⟩:=zy ((uP (CV hN hP)).mp e)
  have:=adb hN hP (ps.length+1) i (by lia) _ (jX hi);rw[hx] at this;exact this
theorem V2(ps:List (Str×Str))(z:Str):(up ps z).length<=ps.length+1:=ada _ _
def aL(l:List (Str×au)):List (au×au):=l.map λp=>(.str p.1,p.2)
theorem G3:∀l:List (Str×au),cH cL (aL l)=aa (l.map λp=>.inr p.1)
 |[]=>rfl
 |p::l=>by
  rw[show aL (p::l)=(.str p.1,p.2)::aL l from rfl];unfold cH;rw[G3 l];simp only[cL];rfl
theorem vP(x z:Str):(cL (.str x)=aa (.inr z))↔x=z:=by
 simp[cL]
theorem aa8(z:Str):∀l:List (Str×au),pF cL (.inr z) (aL l)=(l.find? λp=>decide (p.1=z)).map (·.2)
 |[]=>rfl
 |p::l=>by
  show(if cL (.str p.1)=aa (.inr z) then aa p.2 else pF cL (.inr z) (aL l))=_
  rw[oY];by_cases h:p.1=z
  .rw[aV ((vP _ _).mpr h),cY h];rfl
  .rw[bf (λe=>h ((vP _ _).mp e)),dW h,aa8 z l]
theorem Tp(l:List (Str×au))(z:Str):mG (aL l) (.str z)=aa ((l.find? λp=>decide (p.1=z)).map (·.2)):=by
 show(if(cH cL (aL l)).isSome then aa (pF cL (.inr z) (aL l)) else aj)=_
 rw[G3,aa8];rfl
theorem abX(h:z∉l.map (·.1)):mL cL (.inr z) (.str z) d (aL l)=aL (l++[(z,d)]):=by
 unfold mL;rw[bf,aL,aL,jZ]
 .rfl
 .rw[YL,ag0];intro p hp
  obtain⟨q,hq,rfl⟩:=cN.mp hp
  have:¬(cL (.str q.1)=aa (.inr z)):=λe=>h (cN.mpr ⟨q,hq,(vP _ _).mp e⟩)
  simpa using this
theorem Mj(h:z∉l.map (·.1)):putD (aL l) (.str z) d=aa (aL (l++[(z,d)])):=by
 show(if(cH cL (aL l)).isSome then aa (mL cL (.inr z) (.str z) d (aL l)) else aj)=_
 rw[G3,abX h];rfl
theorem alf(ps:List (Str×Str))(g:Str×Str->α)(z:Str):((ps.map λp=>(p.1,g p)).find? λp=>decide (p.1=z)).map (·.2)=(ps.find? λp=>decide (p.1=z)).map g:=by
 rw[Zq,Gf];rfl
theorem pX(D:α->au)(p:α->Bool)(g:α->au):∀{l:List α},(∀a∈l,∃ts,vq T (D a)=aa ts/\ft (dN ts++fs) C=aa (p a,C)/\(p a=ao->∃x e,fe (dN ts++fs) C=aa (x,e,C)/\still x=.im (g a)))->
  jU T ft fe fs (l.map D) C=aa ((l.filter p).map g,C)
 |[],_=>rfl
 |d::r,h=>by
  obtain⟨ts,h1,h2,h3⟩:=h d dg
  have ih:=pX D p g (l:=r) λd m=>h d (dZ _ m)
  rw[cj];unfold jU;simp only[h1];rw[h2];cases hp:p d with
  |true=>
   obtain⟨x,e,h4,h5⟩:=h3 hp
   simp only[h4,h5,ih,JN,hp,if_true,cj]
  |false=>
   simp only[ih,JN,hp];rfl
section
variable{prog:bD}{w:bB}{A:cD}{E:Value->aB->Prop}{R:tV->aB->Prop}{s:aB}
theorem aj6(h:Q (.ref s.heap.objs.size) {s with heap:=s.heap.push (sJ w)}):aQ (model prog w) A (newSet (.type "set")) Q E s:=by
 unfold newSet aaA
 obtain⟨h0,g0,d0,t0,o0⟩:=s
 refine aC (aC (Qs (aZ ?_)));dsimp only;simp only[newObj];exact aC (wpAny_alloc (aZ h))
theorem aj7{elt target iter:Expr}{ifs:List Expr}{rest:List Comprehension}{scope:jT}{pos:Pos}{it acc:Value}{env:Env}(h0:mC (model prog w) A (.compLoop (.SetComp elt (⟨target,iter,ifs,0⟩::rest) scope pos) 0 it acc env) R s)
  (h:aQ (model prog w) A (DG it) (λit' s'=>mC (model prog w) A (.compLoop (.SetComp elt (⟨target,iter,ifs,0⟩::rest) scope pos) 0 it' acc env) R s') (notedBy (model prog w) A env λx s'=>R (.error x) s') s):
  mC (model prog w) A (.compStart (.SetComp elt (⟨target,iter,ifs,0⟩::rest) scope pos) 0 it acc env) R s:=by
 refine codeAny_of_tree (show aQ _ A ((compStart (.SetComp elt (⟨target,iter,ifs,0⟩::rest) scope pos) 0 it acc env).onRaise (λx=>do noteFrame x env;uU theWindowsPlace)) _ _ s from wpAny_notedAt ?_);unfold compStart
 refine(show aQ _ A (ask >>= _) _ _ s from aC (Qs (wpAny_ite ?_)))
 split
 .first
   |exact aC (aZ (aZ ⟨rfl,h0⟩))
   |exact aZ ⟨rfl,h0⟩
 .first
   |exact aC (zW (aC (vD (aC (pW h (λit' s' h'=>aZ ⟨rfl,h'⟩) λ_ _ x=>x)))))
   |exact aC (zW (show aQ _ _ (uU iter.pos >>= _) _ _ s from aC (vD (aC (pW h (λit' s' h'=>aZ ⟨rfl,h'⟩) λ_ _ x=>x)))))
variable{T:Type}[DecidableEq T]{knd:zN prog w T}
theorem aiM(hk:knd.is k key=ao)(hsc:key.scannable=ao)(hS:pL knd s.heap a ks)(room:ks.length+1<rM)
  (h:∀h',zQ a s.heap h'->pL knd h' a (mJ ks k)->Q .none {s with heap:=h',toks:=s.toks+1}):aQ (model prog w) A (call (.builtin "set.add") [.ref a,key]) Q E s:=by
 refine oW F.slot_set_add hS.ty F.entry_set_add ?_ (F.args_set_add_2 _ _);unfold j5.«set.add» arU;simp only[ahx,bind_assoc];unfold ass setAdd;refine aC (aZ ?_)
 try dsimp only
 refine aC (aZ ?_)
 try dsimp only
 refine aC (nj (aC (knd.pyHash hk ?_)));refine amq (knd:=knd) (s:={s with toks:=s.toks+1}) hk hsc hS room λ_ h' hsb hS'=>?_
 exact(show aQ _ _ (ret mU) _ _ _ from aZ ⟨_,rfl,h h' hsb hS'⟩)
end
theorem aip(elt gens scope pos):eval (.SetComp elt gens scope pos) env=ZJ (.SetComp elt gens scope pos) scope env (firstIterPos gens pos) (newSet (.type "set")) (firstAsync gens) (firstIter gens env):=rfl
section
variable{P:bD}{w:bB}{T0:Type}[DecidableEq T0](knd:zN P w T0)(mk:T0->V)
abbrev SO(a:aq)(ks:List T0):HO:=.ext λh=>pL knd h a ks
def Wr(D:aq)(te:TE):TM:=λσ H Q=>te σ H λy H1=>∃ks k,H1 D=aa (SO knd D ks)/\y=mk k/\ks.length+1<rM/\Q (upd H1 D (SO knd D (mJ ks k)))
theorem aeH(x:pL knd h a ks):fB P w H h a (SO knd a ks):=
 ⟨x,let ⟨o,_,_,_,e,_⟩:=x;⟨o,e⟩,λ_ _ y e=>y.at e⟩
def tSC(K:aJ)(wi:TI)(T:gY)(ts:Bk->TT)(te:Bk->TE)(js:List Nat):TE:=λσ H Q=>wi σ H λJ H1=>∀D,H1 D=aj->∀b,yM K T (ts b) (Wr knd mk D (te b)) (frees js σ) J (upd H1 D (SO knd D [])) (Q (.ref D))
end
section
variable{X:Cx}{T0:Type}[DecidableEq T0]{knd:zN X.prog X.w T0}{mk:T0->V}{NT NF:List Str}{js:List Nat}{elt tg iter:Expr}{ifs:List Expr}{T:gY}{wi:TI}{ts:Bk->TT}{te:Bk->TE}{scope:jT}{pos:Pos}
theorem aow(hk:∀k v,RelV (mk k) v->knd.is k v=ao/\v.scannable=ao)(he:PE X elt t):PM X (do let v <-eval elt X.env;uU elt.pos;let _ <-call (.builtin "set.add") [.ref D,v]) (Wr knd mk D t):=by
 intro pins s σ H Q I h;refine aC (bH (he pins s σ H _ I h) λv s1 aN=>?_)
 obtain⟨y,H1,I1,r1,ks,k,hD,ey,hz,q⟩:=aN
 subst ey
 obtain⟨hS,_,_⟩:=I1.hok D _ hD
 obtain⟨k1,k2⟩:=hk _ _ r1
 refine aC (vD (aC (aiM k1 k2 hS hz λh' same hS'=>?_)));refine aZ ⟨_,?_,q⟩;exact Ab I1 (by rw[hD];exact nu) same (let ⟨o,_,_,_,e,_⟩:=hS';⟨o,e⟩) (aeH knd hS')
theorem aox{pins:List (aq×Obj)}{σ:St}{s2:aB}{H2:Hp}{cl:List (Str×aq)}{it:aq}{fp:List aq}{tn:Nat->bz->Prop}{J:It}{Q:Hp->Prop}{RR:Value->aq->tV->aB->Prop}{E:Value->aB->Prop}
  (hk:∀k v,RelV (mk k) v->knd.is k v=ao/\v.scannable=ao)(B:qR X NT NF js scope)(tk:qm tg NT T)(hc:X.calm=ao)
  (hin:∀b,oU (X.bk (NT++NF) scope b) ifs (ts b)/\PE (X.bk (NT++NF) scope b) elt (te b))
  (q2:∀n c,cl.lookup n=aa c->X.env.cells.lookup n=aa c)(q3:∀y∈scope.names,y.2=.free->∃c,cl.lookup y.1=aa c)
  (I2:Inv X pins σ H2 s2)(TT:Turn X.prog X.w X.K tg J fp it tn)(st2:tn 0 s2.heap)(f2:∀b∈fp,kO X pins H2 b)
  (q:∀b,yM X.K T (ts b) (Wr knd mk s2.heap.objs.size (te b)) (frees js σ) J (upd H2 s2.heap.objs.size (SO knd s2.heap.objs.size [])) Q)
  (hR:∀C H' s' m,Inv X pins σ H' s'->kO X pins H' C->s'.heap.Ns C m->Q H'->RR (.ref s2.heap.objs.size) C (.ok .next) s'):
  aQ (model X.prog X.w) X.A (newSet (.type "set")) (λacc s₃=>aQ (model X.prog X.w) X.A (Zj scope X.env.globals cl [] X.env.qual aj .none (aa X.env)) (λcenv s₄=>
   mC (model X.prog X.w) X.A (.compStart (.SetComp elt [⟨tg,iter,ifs,0⟩] scope pos) 0 (.ref it) acc {cenv with scope:=relabel scope X.env}) (RR acc cenv.locals) s₄) E s₃) E s2:=by
 refine aj6 ?_;have hD:H2 s2.heap.objs.size=aj:=I2.hok.fresh (bU _);have I3:Inv X pins σ (upd H2 s2.heap.objs.size (SO knd s2.heap.objs.size [])) {s2 with heap:=s2.heap.push (sJ X.w)}:=
  I2.laid (t':=s2.toks) (λb o e=>cJ _ e) (bU _) (aeH knd (aof (iI _ rfl)))
 have hsz:(s2.heap.push (sJ X.w)).objs.size=s2.heap.objs.size+1:=zJ ..;refine Yi B.cell (by intro y hy;simp at hy) (λh₁ hns₁ hsb₁=>?_) B.kind;have vo:∀b∈fp,b<s2.heap.objs.size:=λb hb=>by
  obtain⟨o,e,_⟩:=TT.obj 0 _ st2 b hb
  exact cC e
 have f3:∀b∈fp,kO X pins (upd H2 s2.heap.objs.size (SO knd s2.heap.objs.size [])) b:=λb hb=>⟨by rw[cV (fL (vo b hb))];exact(f2 b hb).1,(f2 b hb).2⟩
 have keep:∀b o,(s2.heap.push (sJ X.w)).get? b=aa o->h₁.get? b=aa o:=λb o e=>hsb₁.extBut b o (fL (cC e)) (cJ _ e)
 have yW:∀b∈fp,b<(s2.heap.push (sJ X.w)).objs.size:=λb hb=>by have:=vo b hb;rw[hsz];exact zB this
 have I4:=I3.blk (s1:={s2 with heap:=h₁,toks:=s2.toks+([]:List (Str×Value)).length}) B q2 q3 f3 yW hns₁ keep rfl I2.bare;have yX:tn 0 h₁:=TT.keep 0 _ _ st2 λb _ o e=>keep b o (cJ _ e)
 obtain⟨i1,i2⟩:=hin ⟨cl,(s2.heap.push (sJ X.w)).objs.size,{s2 with heap:=s2.heap.push (sJ X.w)},upd H2 s2.heap.objs.size (SO knd s2.heap.objs.size []),fp⟩
 have loop:mC (model X.prog X.w) X.A (.compLoop (.SetComp elt [⟨tg,iter,ifs,0⟩] scope pos) 0 (.ref it) (.ref s2.heap.objs.size) (TX scope cl (s2.heap.push (sJ X.w)).objs.size X.env))
   (RR (.ref s2.heap.objs.size) (s2.heap.push (sJ X.w)).objs.size) {s2 with heap:=h₁,toks:=s2.toks+([]:List (Str×Value)).length}:=by
  refine TY (X:=X.blk (NT++NF) scope cl (s2.heap.push (sJ X.w)).objs.size {s2 with heap:=s2.heap.push (sJ X.w)} (upd H2 s2.heap.objs.size (SO knd s2.heap.objs.size [])) fp)
   (T:=T) (fs:=frees js σ) (done:=Q) rfl (ajN elt tg iter ifs scope pos _ _ _) rfl rfl rfl tk rfl B.nd hc (λx hx=>Yj (B.tg x hx)) i1 (aow (X:=X.bk (NT++NF) scope _) (knd:=knd) hk i2) TT (λb hb=>?_) I4 yX (q _) λH' s' σ' J' qd=>?_
  .exact⟨(f3 b hb).1,fL (yW b hb),λhb2=>by
    rcases bY.mp (I3.Dz b hb2) with z|z
    .exact(f3 b hb).2.1 z
    .exact(f3 b hb).2.2.1 z,.inl hb,λx c e=>(f3 b hb).2.2.2.2.1 x c (q2 x c e),λp hp=>(nomatch(show p∈([]:List (aq×Obj)) from hp))⟩
  .obtain⟨m,hn,_⟩:=J'.loc
   exact hR _ H' s' m (I3.Wk f3 J') (I3.yJ (bU _) J'.free) hn qd
 exact aj7 loop (TT.self _ 0 _ _ _ yX loop)
theorem apl(hk:∀k v,RelV (mk k) v->knd.is k v=ao/\v.scannable=ao)(B:qR X NT NF js scope)(tk:qm tg NT T)(hc:X.calm=ao)(hi:PI X tg iter wi)
  (hin:∀b,oU (X.bk (NT++NF) scope b) ifs (ts b)/\PE (X.bk (NT++NF) scope b) elt (te b))
  (hs:∀x,vB iter X.env x=pure x:=by intro _;rfl):PE X (.SetComp elt [⟨tg,iter,ifs,0⟩] scope pos) (tSC knd mk X.K wi T ts te js):=by
 intro pins s σ H Q I h
 obtain⟨cl,hclos,q2,q3⟩:=K7 (env:=X.env) (scope:=scope) λy hy e=>I.ok.has y.1 (B.free y hy e)
 rw[aip];refine PN (use:=aj) rfl hs hclos B.kind B.names (bH (hi pins s σ H _ I h) λv s1 h1=>bH h1 λitv s2 aN=>?_)
 obtain⟨it,fp,tn,J,H2,e,I2,TT,st2,f2,q⟩:=aN
 subst e;refine aox (Q:=λH'=>Q (.ref s2.heap.objs.size) H') (RR:=λacc C=>T3 (model X.prog X.w) X.A X.xe aj (EP X pins σ Q) acc C) hk B tk hc hin q2 q3 I2 TT st2 f2 (q _ (I2.hok.fresh (bU _))) λC H' s' m I' fC hn qd=>?_
 refine⟨m,hn,λh' sb=>⟨.ref s2.heap.objs.size,H',?_,rfl,qd⟩⟩
 exact I'.turned (t':=s'.toks) (λb o hb e=>(sb.2 b hb).trans e) fC.1 fC.2.1 fC.2.2.2.1 fC.2.2.2.2.1 fC.2.2.2.2.2
end
def aec{P:bD}{w:bB}(t:TE):TE:=λσ H Q=>t σ H λx H2=>∃D ks,x=.ref D/\H2 D=aa (SO (J3 P w) D ks)/\ks.length<64/\∀(D':aq)(ns':List Str),H2 D'=aj->ns'.Perm ks->sortedS ns'=ao->Q (.ref D') (upd H2 D' (.lst (ns'.map V.str)))
theorem alg(hc:X.calm=ao)(hl:PE X e t)(g1:Gl X "sorted")(m1:X.mg "sorted"=aj)
  (he:bC [e] X.env=(aF,eval e X.env)::bC [] X.env:=by rfl)(hpl:(f9 pos1 (bC [] X.env)).any (·.1)=aF:=by rfl):PE X (.Call (.Name "sorted" p1) [e] [] pos1) (aec (P:=X.prog) (w:=X.w) t):=by
 intro pins s σ H Q I h;refine Fi (yp I g1 m1 (u:=.builtin "sorted") rfl (XF ?_ he hpl));rw[he];show aQ _ _ (G8 ((aF,eval e X.env)::f9 pos1 (bC [] X.env))) _ _ s;refine Fg (bH (hl pins s σ H _ I h) λv s1 ⟨y,H1,I1,r1,D,ks,ey,hD,h64,q⟩=>JL ?_);subst ey;cases r1
 obtain⟨⟨o,es,ep,t,ho,ex,hd,⟨ks',ek,pk⟩,hb,hf,tb⟩,_,_⟩:=I1.hok D _ hD
 obtain⟨e1,e2⟩:=ak0 ek
 have few:es.size<64:=by
  rw[<-jF,ek.len,pk.length_eq];lia
 refine ajb (Ok:=λout=>∃ns',StrsAre out ns'/\ns'.Perm ks/\sortedS ns'=ao) (I1.ok.hd hc) ⟨o,ho,ex,hd,hf,tb⟩ few (λus pm B s2 a n P E' ho' hp=>?_) λD h' d tk c out ok ge kk gD=>?_
 .have hS:StrsAre us (us.map strOf):=strsAre_map us λv hv=>e2 v (pm.mem_iff.mp hv)
  refine list_sort_treeK strKind_oneLt ho' hS.keysOf (λv1 v2 rest e=>keyKind_strs (by rw[<-e];exact hS)) (by rw[pm.length_eq,bw,jF];exact few) λst hp1 hp2=>?_
  obtain⟨ss',b1,b2,b3⟩:=sorted_out_str hS hp1 hp2
  exact hp _ ⟨ss',b1,b2.trans ((pm.map strOf).trans (by rw[e1];exact pk)),b3⟩
 .obtain⟨ns',a1,a2,a3⟩:=ok
  have hz:ns'.length<=bW:=by
   rw[a2.length_eq,iM];lia
  exact⟨.ref D,_,(I1.laid (o:=.lst (ns'.map V.str)) (t':=tk) kk ge ⟨by rw[bw];exact hz,out.toList,c,Lg a1,by simpa[seqObj] using gD⟩).drew d,rfl,q D ns' (I1.hok.fresh ge) a2 a3⟩
def Jl(fi:FI)(T:gY)(ft:FT)(fe:FE)(js:List Nat):FE:=λenv C=>match fi env C with
 |some (its,e1,C1)=>match jU T ft fe (frB js e1) its C1 with
  |some (ys,C2)=>match Mh ys with
   |some l=>aa (.ow (.list l),env,C2)
   |none=>aj
  |none=>aj
 |none=>aj
def W4(fe:FE):En->List Str->Ce->Option (List Str×Ce):=λenv acc C=>(fe env C).bind λq=>(ux (still q.1)).bind λy=>(Og y).bind λz=>bif decide (acc.length<64) then aa (acc++[z],q.2.2) else aj
theorem Vk:∀{its:List au}{ys acc:List Str}{C:Ce},jU T ft fe fs its C=aa (ys.map .str,C')->acc.length+ys.length<=64->uZ T ft (W4 fe) fs its acc C=aa (acc++ys,C')
 |[],ys,acc,C,h,_=>by
  cases ys with
  |cons _ _=>cases h
  |nil=>
  cases h;rw[jd];rfl
 |d::r,ys,acc,C,h,hl=>by
  unfold jU at h;unfold uZ;split at h
  case h_2=>cases h
  rename_i ts ht;rw[ht,iJ];split at h
  case h_3=>cases h
  .rename_i C1 hf;rw[hf,iJ];exact Vk h hl
  .rename_i C1 hf;rw[hf,iJ];split at h
   case h_2=>cases h
   rename_i x e2 C2 hx;split at h
   case h_2=>cases h
   rename_i y hy;split at h
   case h_2=>cases h
   rename_i zs C3 hz;cases ys with
   |nil=>cases h
   |cons w ys=>
   injection h with h
   injection h with h1 h2
   injection h1 with h1 h3
   subst h1 h2 h3;rw[cA] at hl
   show(W4 fe (dN ts++fs) acc C1).bind _=_
   unfold W4;rw[hx,iJ,hy,show ux (.im (.str w))=aa (.str w) from rfl,iJ,show Og (.str w)=aa w from rfl,iJ,cY (by lia),show acc++w::ys=(acc++[w])++ys by rw[lA];rfl];exact Vk hz (by rw[fU];show acc.length+1+_<=_;lia)
theorem amO{P:bD}{w:bB}{K:aJ}{fi:FI}{T:gY}{ft:FT}{fe:FE}{js:List Nat}:∀σ H Q,tE K (Jl fi T ft fe js) σ H Q->aec (P:=P) (w:=w) (tSC (J3 P w) V.str K (tI K ao fi) T (λ_=>fX K ft) (λ_=>tE K fe) js) σ H Q:=by
 rintro σ H Q ⟨Z,Θ,env,C,res,env',C',S,hf,q⟩;unfold Jl at hf;split at hf
 case h_2=>cases hf
 rename_i its e1 C1 h1;split at hf
 case h_2=>cases hf
 rename_i ys C2 h2;split at hf
 case h_2=>cases hf
 rename_i l hs;cases hf;unfold Mh at hs;split at hs
 case isFalse=>cases hs
 rename_i hl;split at hs
 case h_2=>cases hs
 rename_i ns hns;cases hs;have hys:=Uq hns;subst hys;rw[bw] at hl
 refine⟨Z,Θ,env,C,its,e1,C1,S,h1,λJ H1 k1 f1 S1 it D hD b=>?_⟩
 have sU:D∉Θ:=λm=>(S1.cell.dom D m).ne hD
 refine Uj (a0:=[]) (Ob:=λacc Hx=>Hx D=aa (SO (J3 P w) D (dedup acc))) S1 it hD eN (λa Hx Hy kk r=>kk.keep _ _ r sU) (λa Hx r=>⟨_,r,λ_ z=>nomatch z⟩) ?_ (Vk (acc:=[]) h2 (by rw[FP];lia)) λH2 ki ci r=>?_
 .intro ts acc C2 p vs H4 Q hs S4 k4 r4 hQ
  obtain⟨w,hfe,hs⟩:=jf hs
  obtain⟨yd,uB,hs⟩:=jf hs
  obtain⟨z,hz,hs⟩:=jf hs
  have uB:=Hz uB;have hz:=amw hz;subst hz;cases hlt:decide (acc.length<64) with
  |false=>rw[hlt] at hs;cases hs
  |true=>
  rw[hlt] at hs;cases hs
  refine⟨_,Θ,_,C2,w.1,w.2.1,w.2.2,S4,hfe,λy H5 k5 f5 R5=>?_⟩
  obtain⟨S5,r5⟩:=R5.wC uB
  have lt:=of_decide_eq_true hlt;have ld:=aa0 acc
  exact⟨dedup acc,z,k5.keep _ _ r4 sU,r5,by unfold rM;lia,hQ _ (VN (Hy:=H5) hD (k4.trans k5)) (LR sU S5.cell) (by rw[ai6];exact eN)⟩
 .have kk:=k1.trans ki;have ld:=aa0 ns
  refine⟨D,dedup ns,rfl,r,by lia,λD' ns' hn p hp=>?_⟩
  rw[V1 p hp];exact q _ _ (kk.trans (aX.upd hn)) (Fz.refl _) ((oH (S.go kk ci) (Uc _) hn).from kk)
theorem apm{X:Cx}{NT NF:List Str}{js:List Nat}{elt tg iter:Expr}{ifs:List Expr}{T:gY}{fi:FI}{ft:FT}{fe:FE}{scope:jT}{pos p1 pos1:Pos}(B:qR X NT NF js scope)(tk:qm tg NT T)(hc:X.calm=ao)(g1:Gl X "sorted")(m1:X.mg "sorted"=aj)(hi:PI X tg iter (tI X.K ao fi))
  (hin:∀b,oU (X.bk (NT++NF) scope b) ifs (fX X.K ft)/\PE (X.bk (NT++NF) scope b) elt (tE X.K fe))
  (hs:∀x,vB iter X.env x=pure x:=by intro _;rfl)
  (he:bC [.SetComp elt [⟨tg,iter,ifs,0⟩] scope pos] X.env=(aF,eval (.SetComp elt [⟨tg,iter,ifs,0⟩] scope pos) X.env)::bC [] X.env:=by rfl)(hpl:(f9 pos1 (bC [] X.env)).any (·.1)=aF:=by rfl):
  PE X (.Call (.Name "sorted" p1) [.SetComp elt [⟨tg,iter,ifs,0⟩] scope pos] [] pos1) (tE X.K (Jl fi T ft fe js)):=
 (alg hc (apl (knd:=J3 X.prog X.w) (mk:=V.str) (λk v r=>by obtain⟨t,rfl⟩:=r;exact⟨PySem.strKind_is _ _ _ _,rfl⟩) B tk hc hi hin hs) g1 m1 he hpl).weak amO
section
variable{X:Cx}{tg:Expr}
end
theorem Ou(x:α)(r:List α):fG (x::r) 0=aa x:=yf (j:=0) rfl
theorem Ov(a x:α)(r:List α):fG (a::x::r) 1=aa x:=yf (j:=1) rfl
theorem W5(a b x:α)(r:List α):fG (a::b::x::r) 2=aa x:=yf (j:=2) rfl
theorem afi(a b c x:α)(r:List α):fG (a::b::c::x::r) 3=aa x:=yf (j:=3) rfl
theorem aqn(a b c d x:α)(r:List α):fG (a::b::c::d::x::r) 4=aa x:=yf (j:=4) rfl
theorem aqo(a b c d e x:α)(r:List α):fG (a::b::c::d::e::x::r) 5=aa x:=yf (j:=5) rfl
theorem aqp(a b c d e f x:α)(r:List α):fG (a::b::c::d::e::f::x::r) 6=aa x:=yf (j:=6) rfl
theorem apn(op:au->au->Option Vl)(fa fb:FB)(env:En)(C:Ce):aR op fa fb env C=(fa env C).bind λp=>(fb p.2.1 p.2.2).bind λq=>(op p.1 q.1).bind λr=>aa (r,rst r env q.2.1,q.2.2):=by
 unfold aR;rcases h:fa env C with _|⟨x,e1,C1⟩
 .rfl
 .rcases h2:fb e1 C1 with _|⟨y,e2,C2⟩
  .simp only[iJ,h2];rfl
  .simp only[iJ,h2];cases op x y<;>rfl
theorem apo(f:FE)(env:En)(C:Ce):aA f env C=(f env C).bind λp=>(dat p.1).map λd=>(d,p.2.1,p.2.2):=by
 unfold aA;rcases h:f env C with _|⟨x,e1,C1⟩<;>rfl
theorem aqq(i:Nat)(env:En)(C:Ce):aH i env C=(env[i]?).bind λo=>o.bind λx=>(dat x).map λd=>(d,env,C):=by
 unfold aH;rcases env[i]? with _|(_|x)<;>rfl
theorem apq(f g:FT)(env:En)(C:Ce):qU f g env C=(f env C).bind λp=>if p.1 then g env p.2 else aa (aF,p.2):=by
 unfold qU;rcases h:f env C with _|⟨_|_,D⟩<;>rfl
theorem aqr(f g:FT)(env:En)(C:Ce):qt f g env C=(f env C).bind λp=>if p.1 then aa (ao,p.2) else g env p.2:=by
 unfold qt;rcases h:f env C with _|⟨_|_,D⟩<;>rfl
theorem apr(f:FT)(env:En)(C:Ce):qj f env C=(f env C).map λp=>(!p.1,p.2):=by
 unfold qj;rcases h:f env C with _|⟨b,D⟩<;>rfl
theorem aqs(c:FT)(f g:FS)(env:En)(C:Ce):gW c f g env C=(c env C).bind λp=>if p.1 then f env p.2 else g env p.2:=by
 unfold gW;rcases h:c env C with _|⟨_|_,D⟩<;>rfl
theorem aps(c:FT)(f g:FE)(env:En)(C:Ce):vf c f g env C=(c env C).bind λp=>if p.1 then f env p.2 else g env p.2:=by
 unfold vf;rcases h:c env C with _|⟨_|_,D⟩<;>rfl
theorem aeI(op op':au->au->Option Vl)(fa fb fc:FB)(h1:fa env C=aa (x,e1,C1))(h2:fb e1 C1=aa (y,e2,C2))(h3:op x y=aa (.im (.bool a)))(h4:fc e2 C2=aa (z,e3,C2))(h5:op' y z=aa (.im (.bool b))):yO op op' fa fb fc env C=aa (.im (.bool (a&&b)),env,C2):=by
 unfold yO;simp only[h1,h2,h3];cases a with
 |false=>rfl
 |true=>simp only[h4,h5];rfl
theorem aqt(d:au)(e f:En):rst (.ow d) e f=f:=rfl
theorem aoy(b:Bool)(e f:En):rst (.im (.bool b)) e f=e:=rfl
theorem apt(i:Int)(e f:En):rst (.im (.int i)) e f=e:=rfl
theorem apu(z:Str)(e f:En):rst (.im (.str z)) e f=e:=rfl
theorem aqu(l r:List au)(e f:En):rst (.im (.tuple (.list l::r))) e f=f:=rfl
theorem add_int(i j:Int):gq (.int i) (.int j)=aa (.im (.int (i+j))):=rfl
theorem sub_int(i j:Int):Aw (.int i) (.int j)=aa (.im (.int (i-j))):=rfl
theorem le_int(i j:Int):rm (.int i) (.int j)=aa (.im (.bool (decide (i<=j)))):=rfl
theorem lt_int(i j:Int):Bo (.int i) (.int j)=aa (.im (.bool (decide (i<j)))):=rfl
theorem ge_int(i j:Int):Oh (.int i) (.int j)=aa (.im (.bool (decide (j<=i)))):=rfl
theorem gt_int(i j:Int):Bp (.int i) (.int j)=aa (.im (.bool (decide (j<i)))):=rfl
theorem eq_int(i j:Int):mW (.int i) (.int j)=aa (.im (.bool (i==j))):=rfl
theorem eq_bool(a b:Bool):mW (.bool a) (.bool b)=aa (.im (.bool (a==b))):=rfl
theorem ne_bool(a b:Bool):mK (.bool a) (.bool b)=aa (.im (.bool (!(a==b)))):=rfl
theorem ne_int(i j:Int):mK (.int i) (.int j)=aa (.im (.bool (!(i==j)))):=rfl
theorem apv(ds:List au):mH [.list ds]=aa (.im (.int ds.length)):=rfl
theorem apw(ds:List au):mH [.tuple ds]=aa (.im (.int ds.length)):=rfl
theorem aqv(ds:List au)(i:Int):bI (.tuple ds) (.int i)=(fG ds i).map .im:=rfl
theorem aqw(ds:List au)(i:Int):bI (.list ds) (.int i)=(fG ds i).map .im:=rfl
theorem add_l(h:xs.length+ys.length<=1000000):gq (.list xs) (.list ys)=aa (.ow (.list (xs++ys))):=aV h
theorem Oa(h:xs.length+ys.length<=1000000):gq (.tuple xs) (.tuple ys)=aa (.im (.tuple (xs++ys))):=by
 unfold gq;cases xs with
 |nil=>rfl
 |cons x xs=>exact aV h
theorem u6{ds:List au}{i:Nat}{d:au}(h:ds[i]?=aa d):bI (.tuple ds) (.int i)=aa (.im d):=by
 simp only[bI,uy,yf h,jG]
theorem apx(h:iC):bI (gB h) (.int 0)=aa (.im (.tuple (h.ps.map u5))):=u6 (i:=0) rfl
theorem apy(h:iC):bI (gB h) (.int 1)=aa (.im (.tuple (h.yH.map kJ))):=u6 (i:=1) rfl
theorem apz(h:iC):bI (gB h) (.int 2)=aa (.im (.tuple (h.leaves.map bu))):=u6 (i:=2) rfl
theorem apA(h:iC):bI (gB h) (.int 3)=aa (.im (.tuple (h.rules.map Bd))):=u6 (i:=3) rfl
theorem apB(r:oK):bI (kJ r) (.int 0)=aa (.im (.int r.1)):=u6 (i:=0) rfl
theorem apC(r:oK):bI (kJ r) (.int 1)=aa (.im (.str r.2.1)):=u6 (i:=1) rfl
theorem apD(r:oK):bI (kJ r) (.int 2)=aa (.im (.int r.2.2.1)):=u6 (i:=2) rfl
theorem apE(r:oK):bI (kJ r) (.int 3)=aa (.im (.str r.2.2.2.1)):=u6 (i:=3) rfl
theorem apF(r:oK):bI (kJ r) (.int 4)=aa (.im (.int r.2.2.2.2.1)):=u6 (i:=4) rfl
theorem apG(r:oK):bI (kJ r) (.int 5)=aa (.im (.int r.2.2.2.2.2)):=u6 (i:=5) rfl
theorem W6(h0:-1000000<=m)(h1:m<=1000000)(a b:α):(if -(2^62)<=m/\m<2^62 then a else b)=a:=aV (by lia)
theorem fM(en:En)(hk:xs.length=k)(he:xs.map aa++dI (n-xs.length) aj=en)(h:(body en C).map (λp=>(p.1,p.2.2))=aa (.rt r,C1))(hr:wG C.length r=ao)(hC:C1.length=C.length):fN k n body xs C=aa (r,C1):=by
 unfold fN;rw[aV hk,he];cases hb:body en C with
 |none=>rw[hb] at h;cases h
 |some p=>
  rw[hb] at h
  obtain⟨fl,e1,C2⟩:=p
  have h:(fl,C2)=(Fl.rt r,C1):=gP h;injection h with h1 h2
  subst h1 h2;simp only[hr,if_true,abU hC]
theorem letters(k:Int)(h0:0<=k)(h1:k<26):uy (.str abc) (.int k)=aa (.str ⟨#[97+k.toNat]⟩):=by
 have e:=aor h0 h1;have hl:abc.length<=gF:=by decide +kernel
 simp only[uy];rw[aV hl,e];rfl
theorem Gy:∀zs:List Str,strsOf (zs.map dR)=aa zs
 |[]=>rfl
 |z::zs=>by
  show(match strsOf (zs.map dR) with|some t=>aa (z::t)|none=>aj)=_
  rw[Gy zs]
theorem Sy:∀ns:List Int,intsOf (ns.map ie)=aa ns
 |[]=>rfl
 |n::ns=>by
  show(match intsOf (ns.map ie) with|some t=>aa (n::t)|none=>aj)=_
  rw[Sy ns]
theorem aa9:∀zs:List Str,fQ (zs.map dR)=ao
 |[]=>rfl
 |z::zs=>by
  show(ao&&fQ (zs.map dR))=ao
  rw[aa9 zs];rfl
theorem aaG:∀cs:List Nat,fQ (cs.map λc=>dR ⟨#[c]⟩)=ao
 |[]=>rfl
 |c::cs=>by
  show(ao&&fQ (cs.map λc=>dR ⟨#[c]⟩))=ao
  rw[aaG cs];rfl
theorem Z7:∀cs:List Nat,strsOf (cs.map λc=>dR ⟨#[c]⟩)=aa (cs.map λc=>(⟨#[c]⟩:Str))
 |[]=>rfl
 |c::cs=>by
  show(match strsOf (cs.map λc=>dR ⟨#[c]⟩) with|some t=>aa (_::t)|none=>aj)=_
  rw[Z7 cs];rfl
theorem aj8:(dO "").length=0:=by decide +kernel
theorem ne_nil(zs:List Str)(hz:∀z∈zs,nameB z=ao):mK (.list (zs.map .str)) (.list [])=aa (.im (.bool (!zs.isEmpty))):=by
 have s1:jc (.list (zs.map dR))=ao:=aiL λz m=>De (hz z m)
 have n1:mO (.list (zs.map dR))=ao:=(Ur λz m=>De (hz z m)).2.2;have e:wY (.list (zs.map .str)) (.list [])=aa zs.isEmpty:=by
  show(if mO (.list (zs.map dR))&&mO (.list [])&&(jc (.list (zs.map dR))&&jc (.list [])) then aa (uO (.list (zs.map .str)) (.list [])) else aj)=_
  rw[n1,s1];cases zs<;>rfl
 simp only[mK,e,jG]
abbrev qC(b:Nat)(zs:List Str)(ps:List (Str×Str))(own:List Str)(rk:List oK)(lv:List bR)(ru:List (au×au))(v7 v8 v9 v10 v11 jw jx gr dB iW gk fO:Option Vl):En:=
 [aa (.ce b),aa (.im (.list (zs.map .str))),aa (.ow (.list (ps.map u5))),aa (.ow (.list (own.map .str))),aa (.ow (.list (rk.map kJ))),aa (.ow (.list (lv.map bu))),aa (.ow (.dict ru)),v7,v8,v9,v10,v11,jw,jx,gr,dB,iW,gk,fO]
theorem alh(r:Vl)(e:En):rst r e e=e:=by
 cases r<;>simp[rst]
theorem aba:∀ss:List HX,fQ (ss.map N8)=ao
 |[]=>rfl
 |s::ss=>by
  show(ao&&fQ (ss.map N8))=ao
  rw[aba ss];rfl
theorem abb:∀rs:List yG,fQ (rs.map Bd)=ao
 |[]=>rfl
 |r::rs=>by
  show((ao&&(ao&&(fQ (r.2.2.map N8)&&ao)))&&fQ (rs.map Bd))=ao
  rw[abb rs,aba];rfl
theorem HY(hk:xs.length=k)(he:xs.map aa++dI (n-xs.length) aj=en)(h:body en C=aa (.rt r,e1,C1))(hr:wG C.length r=ao)(hC:C1.length=C.length):fN k n body xs C=aa (r,C1):=by
 unfold fN;rw[aV hk,he,h];simp only[hr,if_true,abU hC]
theorem Tq:∀zs:List Str,(zs.map dR).all lC=ao
 |[]=>rfl
 |z::zs=>by
  rw[cj,Q7,Tq zs];rfl
theorem amP(z:Str)(zs:List Str):jM (.str z) (.list (zs.map .str))=aa (.im (.bool (decide (z∈zs)))):=by
 have:inB (.str z) (.list (zs.map .str))=aa (inD (.str z) (zs.map .str)):=aV (by rw[Tq];rfl);unfold jM;rw[this,Mi];rfl
theorem ade(x z:Str):mW (.str x) (.str z)=aa (.im (.bool (decide (x=z)))):=by
 have:(x==z)=decide (x=z):=by rw[pU];simp
 show aa (Vl.im (.bool (x==z)))=_;rw[this]
theorem Hl(x z:Str):mK (.str x) (.str z)=aa (.im (.bool (!decide (x=z)))):=by
 have:(x==z)=decide (x=z):=by rw[pU];simp
 show aa (Vl.im (.bool (!(x==z))))=_;rw[this]
def bF(q:List (Str×Str)):List (Str×au):=q.map λp=>(p.1,.str p.2)
theorem abY:∀q,yR (aL (bF q))=ao
 |[]=>rfl
 |x::q=>by
  show(ao&&yR (aL (bF q)))=ao
  rw[abY q];rfl
theorem Ml(q:List (Str×Str))(z:Str):mG (aL (bF q)) (.str z)=aa ((jr q z).map .str):=by
 rw[Tp];unfold bF jr;rw[alf,Gf];rfl
theorem abd:∀l:List Int,fQ (l.map ie)=ao
 |[]=>rfl
 |x::l=>by
  show(ao&&fQ (l.map ie))=ao
  rw[abd l];rfl
theorem aaH:∀(n:Nat),wH [.list (dI n (.bool ao))]=aa (.im (.bool ao))/\fQ (dI n (.bool ao))=ao:=by
 intro n;have h:boolsOf (dI n (.bool ao))=aa (dI n ao)/\fQ (dI n (.bool ao))=ao:=by
  induction n with
  |zero=>exact⟨rfl,rfl⟩
  |succ n ih=>
   rw[uH,uH]
   refine⟨?_,?_⟩
   .unfold boolsOf;rw[ih.1]
   .show(ao&&fQ (dI n (.bool ao)))=ao
    rw[ih.2];rfl
 refine⟨?_,h.2⟩
 unfold wH;simp only[h.1,jG];congr 3;rw[oX];intro b hb
 exact(List.mem_replicate.mp hb).2
theorem Dm{zs:List Str}{k:Int}(h0:0<=k)(h1:k<zs.length):∃z,z∈zs/\zs[k.toNat]?=aa z/\fG (zs.map dR) k=aa (.str z):=by
 obtain⟨x,e1,e2⟩:=aeb (xs:=zs.map dR) h0 (by rw[bw];exact h1)
 rw[jm] at e2;cases hz:zs[k.toNat]? with
 |none=>rw[hz] at e2;cases e2
 |some z=>
  rw[hz] at e2;cases e2
  exact⟨z,qF hz,rfl,e1⟩
def Bf(L:Nat)(C:Ce)(b k:Nat):Prop:=C.length=L/\∃x y z:Int,C[b]?=aa [x,y,z]/\0<=x/\0<=y/\y<=3000000000/\0<=z/\z+k<=900000
theorem Bf.mono(h:Bf L C b k)(hj:j<=k):Bf L C b j:=by
 obtain⟨l,x,y,z,h1,h2,h3,h4,h5,h6⟩:=h
 exact⟨l,x,y,z,h1,h2,h3,h4,h5,by lia⟩
theorem Bf.dec(h:Bf L C b (k+1)):Bf L C b k:=h.mono (qK k)
theorem Bf.eq(h:Bf L C b k)(h':Bf L C' b' k'):C'.length=C.length:=h'.1.trans h.1.symm
inductive HE(b:Nat)(zs:List Str)(ps:List (Str×Str))(own:List Str)(rk:List oK)(lv:List bR)(ru:List (au×au)):En->Prop
 |mk (v7 v8 v9 v10 v11 jw jx gr dB iW gk fO:Option Vl):HE b zs ps own rk lv ru (qC b zs ps own rk lv ru v7 v8 v9 v10 v11 jw jx gr dB iW gk fO)
theorem aoz(a:Nat)(h:i<n):a+(n-i)=a+(n-(i+1))+1:=by lia
section
variable{prog:bD}{w:bB}{A:cD}{E:Value->aB->Prop}{s:aB}
end
section
variable{prog:bD}{w:bB}{A:cD}{E:Value->aB->Prop}{s:aB}{z TI TO i1 i2 l1 l2:aq}{f1 f2:List aq}{n:Nat}{P1 P2:Nat->Value->Prop}{S1 S2:Nat->bz->Prop}
end
def HF:au->au->Option Vl
 |.list xs,.int n=>if 0<=n/\n<=1000/\xs.length<=1000 then aa (.ow (.list (dI n.toNat xs).flatten)) else aj
 |a,b=>qT a b
def aeJ:R2:=λx y H Q=>(rI Im λi j=>.int (i*j)) x y H Q\/ae2 x y H Q
theorem amQ:cM X (oF .Mult) aeJ:=yq.or an2
theorem adf(h:cB H ds vs):∀n,cB H (dI n ds).flatten (dI n vs).flatten
 |0=>rfl
 |n+1=>by
  rw[uH,uH,Ft,Ft];exact Ac h (adf h n)
theorem amR{K:aJ}:fY K aeJ HF:=by
 intro Z Θ env C σ H x y dx dy res S bx dm e Q q;unfold HF at e;split at e
 .rename_i xs n;split at e
  case isFalse=>cases e
  rename_i hn;cases e
  obtain⟨a,vs,rfl,ha,r1⟩:=bx.lst
  cases dm.int;have l1:=jK r1;refine .inr ⟨a,n,vs,rfl,rfl,ha,by lia,by lia,?_,λp hp=>q _ _ (aX.upd hp) (oH S (adf r1 _) hp)⟩;rw[iM,l1];have:xs.length*n.toNat<=1000*1000:=Nat.mul_le_mul hn.2.2 (by lia);lia
 .exact .inl (yt Z Θ env C σ H x y dx dy res S bx dm e Q q)
section
variable{X:Cx}
end
def u9(fk:FB)(fv:FE):FE:=λenv C=>match fk env C with
 |some (dk,e1,C1)=>match fv e1 C1 with
  |some (r,e2,C2)=>match cL dk with
   |some _=>match still r with
    |.im d=>aa (.ow (.dict [(dk,d)]),e2,C2)
    |_=>aj
   |none=>aj
  |none=>aj
 |none=>aj
theorem Ut(hk:PE X k (dY X.K fk))(hv:PE X v (tE X.K fv)):PE X (.Dict [aa k] [v] pos) (tE X.K (u9 fk fv)):=
 (amc (akK hk hv amb) rfl rfl (λz=>nomatch z) (Ff rfl)).weak λσ H Q aN=>by
 obtain⟨Z,Θ,env,C,r,env',C',S,hf,q⟩:=aN
 unfold u9 at hf;split at hf
 case h_2=>cases hf
 rename_i dk e1 C1 h1;split at hf
 case h_2=>cases hf
 rename_i rv e2 C2 h2;split at hf
 case h_2=>cases hf
 rename_i kk hkk;split at hf
 case h_2=>cases hf
 rename_i d hs;cases hf;intro p hp
 refine⟨p::Z,Θ,env,C,dk,e1,C1,S.push hp _ (λ_ z=>nomatch z),h1,λx H1 k1 f1 S1 bx=>?_⟩
 refine⟨p::Z,Θ,e1,C1,rv,env',C',S1,h2,λy H2 k2 f2 r2=>?_⟩
 have R:=r2.still;rw[hs] at R
 obtain⟨S2,rz⟩:=R
 have ex:x=kV kk:=by
  cases dk<;>first|(cases hkk;exact bx)|cases hkk
 have uw:aX Θ H H2:=((aX.upd hp).trans k1).trans k2;have np:p∉Θ:=λm=>by
  have:=(je.mp S2.nd).1;exact this (fK _ (gO _ m))
 have e2p:H2 p=aa (.dK []):=(k1.trans k2).keep _ _ eN np
 refine⟨e2p,[(kk,y)],by rw[ex];rfl,Ff rfl,?_⟩
 have kf:aX Θ H (upd H2 p (.dK [(kk,y)])):=⟨λa o ha na=>by
  rw[cV (qL ha hp)];exact uw.keep _ _ ha na,λa ha=>by
  by_cases z:a=p
  .exact absurd (z▸hp) ha
  .rw[cV z];exact uw.2 a ha⟩
 have c2:p7 Θ C' (upd H2 p (.dK [(kk,y)])):=⟨S2.cell.len,λn b ns h3 h4=>by
  have:=S2.cell.at_ n b ns h3 h4;rw[cV (show b≠p from λz=>np (by rw[<-z];exact qF h3))];exact this⟩
 refine q _ _ kf (f1.trans f2) ⟨p,rfl,hp,(S.fz (f1.trans f2)).Az hp kf ⟨_,eN,λ_ z=>nomatch z⟩ c2,[y],.inl ⟨[kk],?_,eN⟩,y,[],rfl,?_,rfl⟩
 .unfold cH;rw[hkk];rfl
 .refine rz.same λa u e=>?_
  unfold er at e⊢;split at e
  .cases e
  .rename_i n;rw[bf n,cV (show a≠p from λz=>n (by rw[z];exact dg))];exact e
section
variable{prog:bD}{w:bB}{A:cD}{E:Value->aB->Prop}{s:aB}{R:tV->aB->Prop}{I S:aq}{fp wr:List aq}{n:Nat}{Pv:Nat->Value->Prop}{St:Nat->bz->Prop}{bt:Nat->Nat->Bool}{HK:bz->Prop}
theorem amS(W:Ar prog w A.in1 I fp wr n Pv St)(cmp:∀(i j:Nat)(vi vj:Value)(s:aB)(Q:Value->aB->Prop)(E:Value->aB->Prop),HK s.heap->Pv i vi->Pv j vj->Q (.bool (bt i j)) s->aQ (model prog w) A.in1 (Gv .Lt vi vj) Q E s)
  (hk:∀h h',HK h->(∀b o,b∉wr->b≠S->h.get? b=aa o->h'.get? b=aa o)->HK h')(out:S∉fp):∀(m j:Nat)(s:aB)(vb:Value)(c:Nat),n-(j+1)=m->j+1<=n->St (j+1) s.heap->HK s.heap->Pv (nF bt j) vb->s.heap.get? S=aa (apg vb c)->
  (∀v h' tk,Pv (nF bt (n-1)) v->(∀b o,b∉wr->b≠S->s.heap.get? b=aa o->h'.get? b=aa o)->R (.ok (.ret v)) {s with heap:=h',toks:=tk})->mC (model prog w) A (.builtin "min.loop" ⟨[.ref I,.none,.ref S],[]⟩) R s:=by
 have Ow:S∉wr:=λz=>out (W.sub _ z)
 have nm:(toString "min"++toString ".loop":String)="min.loop":=by decide
 intro m;induction m with
 |zero=>
  intro j s vb c hm hj st kp pb hS hR;have last:j+1=n:=by lia
  refine xO Ye ?_;rw[xF Cg _];show aQ _ A.in1 (seqItems? (.ref S) >>= _) _ _ s;refine aC (JX hS rfl ?_);show aQ _ A.in1 (tryCatch (nG (.ref I)) _ >>= _) _ _ s;refine aC (QW (W.done s _ _ (last▸st) λh' tk kk=>?_));have g:=kk S _ Ow hS;show aQ _ A.in1 (Ti S (λ_=>#[]) >>= _) _ _ _;refine aC (JP g rfl (aC (RL (aZ ?_))));exact hR vb _ tk (by rw[<-last];exact pb) λb o hb hbS e=>(uG _ _ (lO hbS)).trans (kk b o hb e)
 |succ m ih=>
  intro j s vb c hm hj st kp pb hS hR;have lt:j+1<n:=by lia
  refine xO Ye ?_;rw[xF Cg _];show aQ _ A.in1 (seqItems? (.ref S) >>= _) _ _ s;refine aC (JX hS rfl ?_);show aQ _ A.in1 (tryCatch (nG (.ref I)) _ >>= _) _ _ s;refine aC (QW (W.item (j+1) s _ _ lt st λv h' tk pv st' kk=>?_));have g:=kk S _ Ow hS;have Jm:HK h':=hk _ _ kp λb o hb _ e=>kk b o hb e
  show aQ _ A.in1 (tryCatch (rP [v,v] (Gv .Lt v vb >>= _)) _ >>= _) _ _ _;refine aC (QW (nj (aC (cmp (j+1) (nF bt j) v vb _ _ _ Jm pv pb ?_))));refine aC (nj (xJ (aC (RL (aZ ?_)))));cases hb:bt (j+1) (nF bt j) with
  |true=>
   simp only[if_true];refine aC (JP g rfl (aC (RL ?_)));rw[nm];refine aZ ⟨vG Cg _,ih (j+1) _ v _ (by lia) lt (W.frame _ _ _ st' λb hbf o e=>(uG _ _ λz:S=b=>out (z▸hbf)).trans e) (hk _ _ Jm λb o _ hbS e=>(uG _ _ (lO hbS)).trans e) (by simp only[nF,hb,if_true];exact pv) (zx _ g rfl) λv' h2 tk2 Jo uw=>?_⟩;exact hR v' h2 tk2 Jo λb o hb' hbS e=>uw b o hb' hbS ((uG _ _ (lO hbS)).trans (kk b o hb' e))
  |false=>
   simp only[pR,if_false];refine aC (RL ?_);rw[nm];refine aZ ⟨vG Cg _,ih (j+1) _ vb c (by lia) lt st' Jm (by simp only[nF,hb,pR,if_false];exact pb) g λv' h2 tk2 Jo uw=>?_⟩;exact hR v' h2 tk2 Jo λb o hb' hbS e=>uw b o hb' hbS (kk b o hb' e)
theorem amT(W:Ar prog w A.in1 I fp wr n Pv St)(cmp:∀(i j:Nat)(vi vj:Value)(s:aB)(Q:Value->aB->Prop)(E:Value->aB->Prop),HK s.heap->Pv i vi->Pv j vj->Q (.bool (bt i j)) s->aQ (model prog w) A.in1 (Gv .Lt vi vj) Q E s)
  (hk:∀h h',HK h->(∀b o,b∉wr->b≠S->h.get? b=aa o->h'.get? b=aa o)->HK h')(out:S∉fp)(pos:0<n)(st:St 0 s.heap)(kp:HK s.heap)(hS:s.heap.get? S=aa {cls:=.type "list",dict:=aj,data:=.seq #[] c,slots:=#[]})
  (hR:∀v h' tk,Pv (nF bt (n-1)) v->(∀b o,b∉wr->b≠S->s.heap.get? b=aa o->h'.get? b=aa o)->R (.ok (.ret v)) {s with heap:=h',toks:=tk}):mC (model prog w) A (.builtin "min.loop" ⟨[.ref I,.none,.ref S],[]⟩) R s:=by
 have Ow:S∉wr:=λz=>out (W.sub _ z)
 have nm:(toString "min"++toString ".loop":String)="min.loop":=by decide
 refine xO Ye ?_;rw[xF Cg _];show aQ _ A.in1 (seqItems? (.ref S) >>= _) _ _ s;refine aC (JX hS rfl ?_);show aQ _ A.in1 (tryCatch (nG (.ref I)) _ >>= _) _ _ s;refine aC (QW (W.item 0 s _ _ pos st λv h' tk pv st' kk=>?_));have g:=kk S _ Ow hS;have Jm:HK h':=hk _ _ kp λb o hb _ e=>kk b o hb e
 show aQ _ A.in1 (Ti S (λ_=>#[v,v]) >>= _) _ _ _;refine aC (JP g rfl ?_);rw[nm];refine aZ ⟨vG Cg _,amS W cmp hk out _ 0 _ v _ rfl pos (W.frame _ _ _ st' λb hbf o e=>(uG _ _ λz:S=b=>out (z▸hbf)).trans e) (hk _ _ Jm λb o _ hbS e=>(uG _ _ (lO hbS)).trans e) pv (zx _ g rfl) λv' h2 tk2 Jo uw=>?_⟩;exact hR v' h2 tk2 Jo λb o hb' hbS e=>uw b o hb' hbS ((uG _ _ (lO hbS)).trans (kk b o hb' e))
theorem amU(hh:A.handled=aj)(hl:s.heap.IsList l items)(pos:0<items.size)
  (cmp:∀(i j:Nat)(vi vj:Value)(s':aB)(Q:Value->aB->Prop)(E:Value->aB->Prop),(∀b o,s.heap.get? b=aa o->s'.heap.get? b=aa o)->items[i]?=aa vi->items[j]?=aa vj->Q (.bool (bt i j)) s'->aQ (model prog w) A.in1 (Gv .Lt vi vj) Q E s')
  (h:∀(v:Value)(h':bz)(tk:Nat),items[nF bt (items.size-1)]?=aa v->(∀b o,s.heap.get? b=aa o->h'.get? b=aa o)->Q v {s with heap:=h',toks:=tk}):aQ (model prog w) A (call (.builtin "min") [.ref l]) Q E s:=by
 have nm:(toString "min"++toString ".loop":String)="min.loop":=by decide
 have ltl:l<s.heap.objs.size:=by obtain⟨o,ho,_⟩:=hl;exact cC ho
 refine ail PySem.F.kind_min PySem.F.plain_min PySem.F.entry_min (PySem.F.args_min1 _) ?_;show aQ _ A.in1 (af9 "min" ["key","default"] 0 ⟨[],[]⟩ >>= _) _ _ s;refine aC (aam (show af9 "min" ["key","default"] 0 ⟨[],[]⟩=pure [aj,aj] from rfl) ?_);refine aC (aZ ?_);refine aC (Yv hl (aC (mQ ?_)));rw[nm];have yZ:(s.heap.push {cls:=.type "list_iterator",data:=.fields #[.ref l,.int 0 0]}).objs.size=s.heap.objs.size+1:=zJ ..;have W:=ai0 (prog:=prog) (w:=w) (A:=A.in1) (by simp[hh]) s.heap.objs.size l (fL ltl) items;refine aZ ⟨vG Cg _,?_⟩;show mC (model prog w) A (.builtin "min.loop" ⟨[.ref s.heap.objs.size,.none,.ref (s.heap.push {cls:=.type "list_iterator",data:=.fields #[.ref l,.int 0 0]}).objs.size],[]⟩) _ {s with heap:=(s.heap.push {cls:=.type "list_iterator",data:=.fields #[.ref l,.int 0 0]}).push {cls:=.type "list",data:=.seq #[]}};have ol:∀b o,s.heap.get? b=aa o->b∉[s.heap.objs.size]:=λb o e=>by
  simp only[bY,oA,or_false];exact fL (cC e)
 have ol2:∀b o,s.heap.get? b=aa o->b≠(s.heap.push {cls:=.type "list_iterator",data:=.fields #[.ref l,.int 0 0]}).objs.size:=λb o e=>by
  rw[yZ];exact fL (zB (cC e))
 refine amT (HK:=λh=>∀b o,s.heap.get? b=aa o->h.get? b=aa o) W cmp (λh h' k kk b o e=>kk b o (ol b o e) (ol2 b o e) (k b o e)) ?_ pos ⟨⟨_,cJ _ (iI _ rfl),rfl,rfl⟩,(hl.push _).push _⟩ (λb o e=>cJ _ (cJ _ e)) (iI _ rfl) λv h' tk hv kk=>?_
 .rw[yZ];simp only[bY,oA,or_false,not_or]
  exact⟨Gp (YT _),Gp (zB ltl)⟩
 .exact h v h' tk hv λb o e=>kk b o (ol b o e) (ol2 b o e) (cJ _ (cJ _ e))
end
section
variable{X:Cx}
theorem ah0(hc:X.calm=ao)(hu:X.A.units+1<fV):gQ X (.builtin "min") (λxs H Q=>∃(p:aq)(rows:List Row)(sh:List Bool),xs=[.ref p]/\bO X.K H p (rows.map λr=>V.ref r.1)/\0<rows.length/\(∀r∈rows,H r.1=aa (.tup (r.2.map kV))/\r.2.map bM=sh)/\
  ∀r,rows[nF (mD rows) (rows.length-1)]?=aa r->Q (.ref r.1) H):=by
 intro pins s σ H xs us Q I r h
 obtain⟨p,rows,sh,rfl,hp,pos,ha,q⟩:=h
 obtain⟨u,rfl,ru⟩:=vals1 r
 cases ru
 obtain⟨its,r',pl,hz⟩:=I.list hp
 have ei:its=rows.map λr=>di r.1:=by
  clear pos ha q pl hz hp;induction rows generalizing its with
  |nil=>cases r';rfl
  |cons a rows ih=>
   cases r' with
   |cons h t=>
    cases h;rw[ih _ t];rfl
 subst ei;have tu:∀r∈rows,TupAt s.heap r/\r.2.map bM=sh:=λr hr=>by
  obtain⟨_,its,v,t⟩:=(show fB X.prog X.w H s.heap r.1 (.tup (r.2.map kV)) from I.hok r.1 _ (ha r hr).1)
  exact⟨⟨its,v,t⟩,(ha r hr).2⟩
 refine amU (bt:=mD rows) (I.ok.hd hc) pl.isList (by simpa using pos) (λi j vi vj s' Q E k hi hj q=>?_) λv h' tk hv k=>?_
 .have hi':(rows.map λr=>di r.1)[i]?=aa vi:=by simpa using hi
  have hj':(rows.map λr=>di r.1)[j]?=aa vj:=by simpa using hj
  rw[jm] at hi' hj';cases ri:rows[i]? with
  |none=>rw[ri] at hi';cases hi'
  |some a=>
   cases rj:rows[j]? with
   |none=>rw[rj] at hj';cases hj'
   |some b=>
    rw[ri] at hi';rw[rj] at hj';cases hi';cases hj'
    obtain⟨⟨its,v,t⟩,sa⟩:=tu a (qF ri)
    obtain⟨⟨its2,v2,t2⟩,sb⟩:=tu b (qF rj)
    have ta:=(TupAt.keep (r:=a) ⟨its,v,t⟩ k)
    have tb:=(TupAt.keep (r:=b) ⟨its2,v2,t2⟩ k)
    obtain⟨its,v,t⟩:=ta
    obtain⟨its2,v2,t2⟩:=tb
    refine aax t t2 (by simpa using v) (by simpa using v2) (sa.trans sb.symm) hu ?_;have e:mD rows i j=eO a.2 b.2:=by
     unfold mD wu;simp[ri,rj]
    rw[<-e];exact q
 .have hv':(rows.map λr=>di r.1)[nF (mD rows) (rows.length-1)]?=aa v:=by simpa using hv
  rw[jm] at hv';cases rv:rows[nF (mD rows) (rows.length-1)]? with
  |none=>rw[rv] at hv';cases hv'
  |some a=>
   rw[rv] at hv';cases hv'
   exact⟨.ref a.1,H,I.kept (t':=tk) k,rfl,q a rv⟩
end
theorem abe(h:(jH P w).is k u=ao):RelV (kV k) u:=by
 rcases tG h with⟨i,t,rfl,rfl⟩|⟨x,t,rfl,rfl⟩<;>exact⟨t,rfl⟩
section
variable{prog:bD}{w:bB}{A:cD}{E:Value->aB->Prop}{s:aB}{r d:aq}{kvs:List (Key×Value)}{ep:Nat}{b c:Bool}{Q:Value->aB->Prop}
def nJ(as:List aq)(cF:List (Key×Key)):List Row:=as.zipWith (λa p=>(a,[p.1,p.2])) cF
theorem ahy(hh:A.handled=aj)(hv:s.heap.IsItemsView r d)(hm:s.heap.DictAt (jH prog w) d kvs ep)(h64:cF.length<64)(hne:0<cF.length)(hk:kvs.map (·.1)=cF.map (·.1))(hx:Vals (cF.map λp=>kV p.2) (kvs.map (·.2)))(hty:∀p∈cF,bM p.1=b/\bM p.2=c)
  (h:∀(as:List aq)(p:List Nat)(D:aq)(h':bz)(n tk:Nat),as.length=cF.length->as.Pairwise (·<·)->(∀a∈as,s.heap.objs.size<=a/\a≠D)->(∀r∈nJ as cF,TupAt h' r)->p.Perm (fP (nJ as cF).length)->p=sI ((nJ as cF).map (·.2))->s.heap.objs.size<=D->(∀b o,s.heap.get? b=aa o->h'.get? b=aa o)->
   h'.get? D=aa (seqObj "list" ((p.map λi=>(nJ as cF).getD i (0,[])).map λr=>di r.1).toArray n)->Q (.ref D) {s with heap:=h',toks:=tk}):
  aQ (model prog w) A (call (.builtin "sorted") [.ref r]) Q E s:=by
 have hlk:kvs.length=cF.length:=by have:=congrArg rG hk;simpa using this
 refine PK kind_sorted plain_sorted entry_sorted (args_sorted1 _) ?_;unfold j5.«sorted»;refine aC (m:=Sq "sorted" 1 1 _) (aZ (aC (kdx_collect (A:=A.in1) (by simp[hh]) hv hm (by rw[iM];lia) λh1 tk as kk hlen G=>?_)));have hla:as.length=cF.length:=by lia
 have hlr:(nJ as cF).length=cF.length:=by unfold nJ;rw[List.length_zipWith];lia
 have tu:∀r∈nJ as cF,TupAt h1 r/\r.2.map bM=b::[c]:=λr hr=>by
  obtain⟨j,hj,rfl⟩:=zy hr
  rw[hlr] at hj;have ea:as[j]?=aa as[j]:=jX (by lia);have ek:cF[j]?=aa cF[j]:=jX hj
  obtain⟨key,k,x,e1,e2,e3⟩:=G.pairs j _ ea
  have er:(nJ as cF)[j]'(by lia)=(as[j],[cF[j].1,cF[j].2]):=by simp[nJ]
  rw[er];have kk1:k=cF[j].1:=by
   have:=congrArg (·[j]?) hk;simp only[jm,e1,ek,jG] at this;exact gP this
  have kx:RelV (kV cF[j].2) x:=by
   have q1:(cF.map λp=>kV p.2)[j]?=aa (kV cF[j].2):=by rw[jm,ek];rfl
   obtain⟨u,g1,g2⟩:=hx.get q1
   rw[jm,e1] at g1;cases g1;exact g2
  refine⟨⟨[key,x],.cons (kk1▸abe e2) (.cons kx .nil),_,e3,rfl,_,rfl⟩,?_⟩
  have:=hty cF[j] (zF hj)
  show[bM cF[j].1,bM cF[j].2]=_
  rw[this.1,this.2]
 have eu:as.map di=(nJ as cF).map λr=>di r.1:=by
  refine Cu (by rw[bw,bw];lia) λi h1 h2=>?_
  rw[ahz,ahz];simp[nJ]
 rw[eu];have hsz:s.heap.objs.size<=h1.objs.size:=by
  have m:as[0]'(by lia)∈as:=zF _;exact xU (Ke (G.above _ m) (G.there m))
 generalize hR:nJ as cF=rows at *;refine aC (J2 ?_ (by rw[bw,iM];lia));have hoL:(h1.push (seqObj "list" (rows.map λr=>di r.1).toArray 0)).get? h1.objs.size=aa (seqObj "list" (rows.map λr=>di r.1).toArray 0):=iI _ rfl;have up:∀s':aB,Kp h1.objs.size (h1.push (seqObj "list" (rows.map λr=>di r.1).toArray 0)) s'.heap->∀b o,h1.get? b=aa o->s'.heap.get? b=aa o:=λs' k b o e=>k b o (fL (cC e)) (cJ _ e)
 refine aC (nj (oW slot_list_sort ⟨_,hoL,rfl⟩ entry_list_sort (aaw (κ:=tuples' ao) (lt:=mD rows) (Rl:=λp=>p=sI (rows.map (·.2))) (vs:=rows.map λr=>di r.1) (s:={s with heap:=h1.push (seqObj "list" (rows.map λr=>di r.1).toArray 0),toks:=tk}) hoL (by rw[bw];lia) (λh2=>Tf (by rw[bw]) h2) (λh2=>Su (by rw[bw]) h2)
  (λh2 s' k Q' q'=>Td (λr hr=>⟨(tu r hr).1.keep (up s' k),(tu r hr).2⟩) (by rw[bw] at h2;lia) Q' q') (λh2 s' k i j hi hj C q'=>T8 (sh:=b::[c]) (λr hr=>⟨(tu r hr).1.keep (up s' k),(tu r hr).2⟩) (by simpa using hi) (by simpa using hj) C q') λp h' n hp hrl k e=>⟨_,rfl,?_⟩) (args_list_sort _)))
 rw[bw] at hp;rw[Te hp] at e;have kh:=up {s with heap:=h'} k;subst hR;exact aZ ⟨_,rfl,h as p h1.objs.size h' n tk hla G.rise (λa ha=>⟨xU (G.above a ha),fL (G.there ha)⟩) (λr hr=>(tu r hr).1.keep kh) hp hrl hsz (λb o e=>kh b o (kk b o e)) e⟩
end
def layR(H:Hp)(rows:List Row):Hp:=λa=>match rows.find? (λr=>decide (r.1=a)) with
 |some r=>aa (.tup (r.2.map kV))
 |none=>H a
theorem ali(h:∀r∈rows,r.1≠a):layR H rows a=H a:=by
 unfold layR;rw[Yq.mpr λr hr=>by rw[dW (h r hr)];exact gw]
theorem adg:∀{rows:List Row},(rows.map (·.1)).Nodup->∀r∈rows,layR H rows r.1=aa (.tup (r.2.map kV))
 |q::rows,nd,r,hr=>by
  rw[cj,je] at nd;unfold layR;rcases bY.mp hr with rfl|hr
  .rw[List.find?_cons_of_pos (by simp)]
  .have ne:¬decide (q.1=r.1)=ao:=λe=>nd.1 (cN.mpr ⟨r,hr,(of_decide_eq_true e).symm⟩)
   rw[List.find?_cons_of_neg (p:=λr1:Row=>decide (r1.1=r.1)) ne];exact adg nd.2 r hr
theorem aj9(h:layR H rows a=aa u):H a=aa u\/∃r∈rows,r.1=a/\u=.tup (r.2.map kV):=by
 unfold layR at h;cases hf:rows.find? (λr=>decide (r.1=a)) with
 |none=>rw[hf] at h;exact .inl h
 |some r=>
  rw[hf] at h;exact .inr ⟨r,List.mem_of_find?_eq_some hf,of_decide_eq_true (List.find?_some (p:=λr:Row=>decide (r.1=a)) hf),(gP h).symm⟩
theorem abZ:∀{cF:List (Key×Key)}{vs:List (Key×Value)},KV (cF.map λp=>(p.1,kV p.2)) vs->vs.map (·.1)=cF.map (·.1)/\Vals (cF.map λp=>kV p.2) (vs.map (·.2))
 |[],vs,h=>by cases h;exact⟨rfl,.nil⟩
 |p::cF,vs,h=>by
  cases h with
  |cons h t=>
   obtain⟨a,b⟩:=abZ t
   exact⟨by rw[cj,cj,a,<-h.1],.cons h.2 b⟩
def amV(td:TE):TE:=λσ H Q=>td σ H λx H1=>∃(d:aq)(cF:List (Key×Key))(b c:Bool),x=.ref d/\H1 d=aa (.dK (cF.map λp=>(p.1,kV p.2)))/\cF.length<64/\0<cF.length/\(∀p∈cF,bM p.1=b/\bM p.2=c)/\
 ∀(l:aq)(rows:List Row)(H2:Hp),bJ H1 H2->H1 l=aj->H2 l=aa (.lst (rows.map λr=>V.ref r.1))->rows.map (·.2)=ug (cF.map λp=>[p.1,p.2])->(∀r∈rows,H2 r.1=aa (.tup (r.2.map kV)))->Q (.ref l) H2
theorem aka(hc:X.calm=ao)(ho:PE X o td)(g1:Gl X "sorted")(m1:X.mg "sorted"=aj)
  (he:bC [.Call (.Attribute o "items" apos) [] [] cpos] X.env=(aF,eval (.Call (.Attribute o "items" apos) [] [] cpos) X.env)::bC [] X.env:=by rfl)(hpl:(f9 pos1 (bC [] X.env)).any (·.1)=aF:=by rfl)
  (hbase:xT o "items" X.env (eval o X.env)=eval o X.env:=by rfl)(hline:(apos.endLine==cpos.line)=ao:=by rfl):
  PE X (.Call (.Name "sorted" p1) [.Call (.Attribute o "items" apos) [] [] cpos] [] pos1) (amV td):=by
 intro pins s σ H Q I h;refine Fi (yp I g1 m1 (u:=.builtin "sorted") rfl ?_);refine XF ?_ he hpl;rw[he];show aQ _ _ (G8 ((aF,eval (.Call (.Attribute o "items" apos) [] [] cpos) X.env)::f9 pos1 (bC [] X.env))) _ _ s;refine Fg (ahd (T:="dict") (id:="dict.items") hbase rfl hline agm agn PySem.F.type_dict_items (bH (ho pins s σ H _ I h) λu s1 aN=>?_))
 obtain⟨x,H1,I1,rx,d,cF,b,c,ex,hd,h64,hne,hty,q⟩:=aN
 subst ex;obtain rfl:u=di d:=rx
 obtain⟨z,lo,vs,rel,dd⟩:=NZ I1.hok hd
 obtain⟨hk,hx⟩:=abZ rel
 refine⟨dd.typeIs,dd.mapOf.noDict,?_⟩
 show aQ _ _ (callWith cpos (.builtin "dict.items") [.ref d] [] []) _ _ s1;refine method_meetsIn agn PySem.F.entry_dict_items rfl (arV ⟨rfl,dd.typeIs,PySem.F.args_dict_items_1 _,_,meets_dict_items (jH X.prog X.w) d lo,⟨vs,dd⟩,JL ?_⟩)
 obtain⟨od,es,ep,hod,hdr⟩:=dd
 have sz:(s1.heap.push {cls:=.type "dict_items",data:=.fields #[.ref d]}).objs.size=s1.heap.objs.size+1:=zJ ..;refine ahy (I1.ok.hd hc) (d:=d) ⟨_,iI _ rfl,rfl,rfl⟩ (ep:=ep) ⟨od,es,cJ _ hod,hdr⟩ h64 hne hk hx hty λas p D h' n tk hla hup hfr tu hp hrl hD kk e=>?_
 have nda:as.Nodup:=hup.imp λh=>fL h
 obtain⟨rows,hR⟩:∃rows,rows=nJ as cF:=⟨_,rfl⟩
 rw[<-hR] at tu hp hrl e;have r1:rows.map (·.1)=as:=by
  rw[hR];refine Cu (by simp[nJ,hla]) λi h1 h2=>?_
  simp[nJ]
 have r2:rows.map (·.2)=cF.map λp=>[p.1,p.2]:=by
  rw[hR];refine Cu (by simp[nJ,hla]) λi h1 h2=>?_
  simp[nJ]
 have ra:∀r∈rows,s1.heap.objs.size<=r.1/\r.1≠D:=λr hr=>by
  have m:r.1∈as:=by rw[<-r1];exact cN.mpr ⟨r,hr,rfl⟩
  have:=hfr _ m;rw[sz] at this
  exact⟨by lia,this.2⟩
 rw[sz] at hD;have hnD:H1 D=aj:=I1.hok.fresh (by lia);have old:∀a,a<s1.heap.objs.size->upd (layR H1 rows) D (.lst ((p.map λi=>rows.getD i (0,[])).map λr=>V.ref r.1)) a=H1 a:=λa ha=>by
  rw[cV (show a≠D by lia),ali λr hr z=>by have:=(ra r hr).1;rw[z] at this;lia]
 have hin:∀r∈rows,upd (layR H1 rows) D (.lst ((p.map λi=>rows.getD i (0,[])).map λr=>V.ref r.1)) r.1=aa (.tup (r.2.map kV)):=λr hr=>by
  rw[cV (ra r hr).2];exact adg (by rw[r1];exact nda) r hr
 have sm:bJ H1 (upd (layR H1 rows) D (.lst ((p.map λi=>rows.getD i (0,[])).map λr=>V.ref r.1))):=λa u ha=>by
  have lt:a<s1.heap.objs.size:=by
   rcases Nat.lt_or_ge a s1.heap.objs.size with h|h
   .exact h
   .rw[I1.hok.fresh h] at ha;cases ha
  rw[old a lt];exact ha
 refine⟨.ref D,_,Inv.U6 (s:=s1) (h':=h') (t':=tk) (ch:=[]) I1 (λa o _ q=>kk a o (cJ _ q)) (λ_ m=>nomatch m) sm (λa o q n=>by rw[old a (cC q)];exact n) (λa u ha=>?_),rfl,q D (p.map λi=>rows.getD i (0,[])) _ sm hnD eN ((U7 hp hrl).trans (by rw[r2])) λr hr=>hin r ((Lh hp).mem_iff.mp hr)⟩
 by_cases hz:a=D
 .subst hz;rw[eN] at ha;cases ha;refine .inr ⟨?_,_,n,Li _,by simpa[seqObj] using e⟩;rw[bw,bw,hp.length_eq,ou,iM];have:=congrArg rG r2;rw[bw,bw] at this;lia
 .rw[cV hz] at ha;rcases aj9 ha with h|⟨r,hr,rfl,rfl⟩
  .exact .inl h
  .obtain⟨its,v,t⟩:=tu r hr
   refine .inr ⟨?_,its,v,t⟩;have m:r.2∈cF.map λp=>[p.1,p.2]:=by rw[<-r2];exact cN.mpr ⟨r,hr,rfl⟩
   obtain⟨pp,_,e2⟩:=cN.mp m
   rw[<-e2,iM];show 2<=_;lia
def Iv:List (au×au)->Option (List (Key×Key))
 |[]=>aa []
 |p::r=>(cL p.1).bind λk=>(cL p.2).bind λv=>(Iv r).map λt=>(k,v)::t
theorem ab0:∀{kvs:List (au×au)}{cF:List (Key×Key)}{ks:List Key}{vs:List V},Iv kvs=aa cF->cH cL kvs=aa ks->jl E kvs vs->ks.zip vs=cF.map (λp=>(p.1,kV p.2))/\kvs.map (λp=>tD [p.1,p.2])=cF.map (λp=>.tuple [ju p.1,ju p.2])
 |[],cF,ks,vs,h,h1,_=>by cases h;cases h1;exact⟨rfl,rfl⟩
 |p::r,cF,ks,vs,h,h1,h2=>by
  obtain⟨k,e1,h⟩:=lq.mp h
  obtain⟨v,e2,h⟩:=lq.mp h
  obtain⟨t,e3,h⟩:=Jy.mp h
  subst h;unfold cH at h1;rw[e1] at h1;cases ha:cH cL r with
  |none=>rw[ha] at h1;cases h1
  |some t1=>
   rw[ha] at h1;cases h1
   obtain⟨u,w,rfl,q,h2⟩:=h2
   obtain⟨a,b⟩:=ab0 e3 ha h2
   obtain⟨p1,p2⟩:=p
   have hv:u=kV v:=adV e2 q;have d1:p1=ju k:=by cases p1<;>first|(cases e1;rfl)|cases e1
   have d2:p2=ju v:=by cases p2<;>first|(cases e2;rfl)|cases e2
   refine⟨?_,?_⟩
   .rw[JH,cj,a,hv]
   .rw[cj,cj,b,d1,d2]
def V3(kvs:List (au×au)):Option (List au):=(Iv kvs).bind λcF=>cF.head?.bind λp=>if cF.length<64/\∀q∈cF,bM q.1=bM p.1/\bM q.2=bM p.2 then aa (uo (kvs.map λp=>.tuple [p.1,p.2])) else aj
def Ws:au->Option (List (au×au))
 |.dict kvs=>aa kvs
 |_=>aj
theorem alj(h:Ws d=aa kvs):d=.dict kvs:=by
 cases d<;>first|(cases h;rfl)|cases h
def Vm(f:FB):FE:=λenv C=>(f env C).bind λp=>(Ws p.1).bind λkvs=>(V3 kvs).map λl=>(.ow (.list l),env,p.2.2)
theorem akb(hc:X.calm=ao)(ho:PE X o (dY X.K f))(g1:Gl X "sorted")(m1:X.mg "sorted"=aj)
  (he:bC [.Call (.Attribute o "items" apos) [] [] cpos] X.env=(aF,eval (.Call (.Attribute o "items" apos) [] [] cpos) X.env)::bC [] X.env:=by rfl)(hpl:(f9 pos1 (bC [] X.env)).any (·.1)=aF:=by rfl)
  (hbase:xT o "items" X.env (eval o X.env)=eval o X.env:=by rfl)(hline:(apos.endLine==cpos.line)=ao:=by rfl):
  PE X (.Call (.Name "sorted" p1) [.Call (.Attribute o "items" apos) [] [] cpos] [] pos1) (tE X.K (Vm f)):=(aka hc ho g1 m1 he hpl hbase hline).weak λσ H Q aN=>by
 obtain⟨Z,Θ,env,C,r,env',C',S,hf,q⟩:=aN
 refine hide λGG gg=>?_
 obtain⟨⟨d,e1,C1⟩,h1,hf⟩:=lq.mp hf
 obtain⟨kvs,hd,hf⟩:=lq.mp hf
 obtain⟨l,hl,hf⟩:=Jy.mp hf
 obtain⟨cF,hk,hl⟩:=lq.mp hl
 obtain⟨p,hp,hl⟩:=lq.mp hl
 split at hl
 case isFalse=>cases hl
 rename_i hall;cases hl;cases hf;cases alj hd;have pos:0<cF.length:=by
  cases cF with
  |nil=>cases hp
  |cons _ _=>exact Rr _
 refine gg ⟨Z,Θ,env,C,.dict kvs,e1,C1,S,h1,λv H1 k f S1 b1=>?_⟩;refine hide λG2 g2=>?_
 obtain⟨a,vs,rfl,da,rr⟩:=b1.dct
 rcases da with⟨ks,a1,a2⟩|⟨ks,⟨ne,a1⟩,a2⟩
 .obtain⟨e2,e3⟩:=ab0 hk a1 rr
  rw[e2] at a2;refine g2 ⟨a,cF,bM p.1,bM p.2,rfl,a2,hall.1,pos,hall.2,λl rows H2 sm hn hl hr hin=>?_⟩;have kp:aX Θ H H2:=k.trans (aX.of sm);have SD:=S.Az (k.none hn) kp ⟨_,hl,λ_ z=>nomatch z⟩ ⟨S1.cell.len,λn b ns e2 e3=>sm _ _ (S1.cell.at_ n b ns e2 e3)⟩;have es:(rows.map λr=>tD (r.2.map ju))=uo (kvs.map λp=>.tuple [p.1,p.2]):=by
   unfold uo;rw[e3,cU];have:(cF.map (yF ∘ λp=>tD [ju p.1,ju p.2]))=cF.map λp=>[p.1,p.2]:=by
    refine uI λq _=>?_
    show(keysOf ([q.1,q.2].map ju)).getD []=[q.1,q.2]
    rw[GX];rfl
   rw[this,<-hr,cU];rfl
  refine q _ H2 kp (Fz.refl _) ⟨l,rfl,k.none hn,SD,_,hl,?_⟩;rw[<-es];exact GZ λr m=>DN SD (hin r m)
 .exfalso;cases kvs with
  |nil=>exact ne rfl
  |cons q r=>
   obtain⟨k',e1,_⟩:=lq.mp hk
   unfold cH at a1;split at a1
   .rename_i g1 _;exact adW e1 g1
   .cases a1
def H9(ks:List (List Key)):Nat:=nF (λi j=>eO (ks.getD i (ks.headD [])) (ks.getD j (ks.headD []))) (ks.length-1)
theorem aji(rows:List Row):nF (mD rows) (rows.length-1)=H9 (rows.map (·.2)):=by
 have e:mD rows=λi j=>eO ((rows.map (·.2)).getD i ((rows.map (·.2)).headD [])) ((rows.map (·.2)).getD j ((rows.map (·.2)).headD [])):=by
  funext i j;rw[mD,Lz,Lz]
 unfold H9;rw[e,bw]
def V4(ds:List au):Option Vl:=ds.head?.bind λd0=>(um d0).bind λsh=>if ∀d∈ds,um d=aa sh then(ds[H9 (ds.map yF)]?).map .im else aj
def Nv:List au->Option Vl
 |[.list ds]=>V4 ds
 |_=>aj
theorem amW{K:aJ}:lX K (λxs H Q=>∃(p:aq)(rows:List Row)(sh:List Bool),xs=[.ref p]/\bO K H p (rows.map λr=>V.ref r.1)/\0<rows.length/\(∀r∈rows,H r.1=aa (.tup (r.2.map kV))/\r.2.map bM=sh)/\
  ∀r,rows[nF (mD rows) (rows.length-1)]?=aa r->Q (.ref r.1) H) Nv:=by
 intro Z Θ env C σ H xs ds res S b e Q q;refine hide λGG gg=>?_
 unfold Nv at e;split at e
 case h_2=>cases e
 rename_i ds
 obtain⟨d0,h0,e⟩:=lq.mp e
 obtain⟨sh,_,e⟩:=lq.mp e
 split at e
 case isFalse=>cases e
 rename_i hall
 obtain⟨d,hd,rfl⟩:=Jy.mp e
 obtain⟨v,rfl,bb⟩:=pH b
 obtain⟨a,vs,rfl,ha,r⟩:=bb.lst
 obtain⟨rows,rfl,e2,e3⟩:=Uo hall r
 have ek:ds.map yF=rows.map (·.2):=by
  rw[e2,cU];refine uI λr _=>?_
  show(keysOf (r.2.map ju)).getD []=r.2
  rw[GX];rfl
 rw[ek,<-aji] at hd;refine gg ⟨a,rows,sh,rfl,bO.of ha,?_,λr m=>⟨jJ (e3 r m).1,(e3 r m).2⟩,λr hr=>?_⟩
 .cases rows with
  |nil=>rw[e2] at h0;cases h0
  |cons _ _=>exact Rr _
 .have m:=qF hr;have hd':d=.tuple (r.2.map ju):=by
   rw[e2,jm,hr] at hd
   exact(gP hd).symm
  obtain⟨u,t,e4,q4,_⟩:=GZ (E:=er (aY Z Θ env σ) H) (rows:=[r]) λx hx=>by rw[jb.mp hx];exact(e3 r m).1
  cases e4;refine q _ H (aX.refl _ _) ⟨S,?_⟩;rw[hd'];exact q4
def Bl(L:Nat)(C:Ce)(b k:Nat):Prop:=C.length=L/\∃x y z:Int,C[b]?=aa [x,y,z]/\0<=x/\0<=z/\z+k<=900000
theorem Bl.mono(h:Bl L C b k)(hj:j<=k):Bl L C b j:=by
 obtain⟨l,x,y,z,h1,h2,h5,h6⟩:=h
 exact⟨l,x,y,z,h1,h2,h5,by lia⟩
theorem Bl.dec(h:Bl L C b (k+1)):Bl L C b k:=h.mono (qK k)
theorem Bl.eq(h:Bl L C b k)(h':Bl L C' b' k'):C'.length=C.length:=h'.1.trans h.1.symm
theorem aoA(C:Ce)(h0:0<=x):Bl (C.length+1) (C++[[x,y,0]]) C.length 800000:=by
 refine⟨by simp,x,y,0,?_,h0,rH _,by lia⟩
 rw[qD (bU _),Z2];rfl
theorem alk{n s u f i j:Int}(hu:s*u%n=1)(n0:0<n)(hi:0<=i)(hj:0<=j)(hi':i<n)(hj':j<n)(e:(f+s*i)%n=(f+s*j)%n):i=j:=by
 have h1:(f+s*i-(f+s*j))%n=0:=af1.mp e
 obtain⟨d,hd⟩:=Int.dvd_of_emod_eq_zero h1
 have hq:s*u=n*(s*u / n)+1:=by
  have:=Int.mul_ediv_add_emod (s*u) n;rw[hu] at this;exact this.symm
 generalize s*u / n=q at hq;have key:i-j=n*(u*d-q*(i-j)):=by grind
 have h2:(i-j)%n=0:=Int.emod_eq_zero_of_dvd ⟨_,key⟩;have h3:i%n=j%n:=af1.mpr h2;rw[Qo hi hi',Qo hj hj'] at h3;exact h3
theorem amX(e:z.cps.toList=l)(h1:1<=l.length)(h2:l.length<=8)(h3:∀c∈l,97<=c/\c<=122):nameB z=ao:=by
 have e2:z.length=l.length:=by rw[<-e];show z.cps.size=_;simp
 unfold nameB Pk;rw[e,e2];simp only[jn,decide_eq_true_eq,oX]
 exact⟨⟨h1,h2⟩,h3⟩
theorem ahK(h:∀i j,i<n->j<n->f i=f j->i=j):((fP n).map f).Nodup:=by
 rw[List.nodup_iff_pairwise_ne,ahf];refine asu (R:=(·<·)) (λ{a b} ha hb hab e=>?_) Yc;have:=h a b (uL.mp ha) (uL.mp hb) e;lia
def n1(f s:Int)(k:Nat):Str:=⟨#[97+((f+s*k)%26).toNat]⟩
def v2(f s:Int)(k:Nat):Int:=(f+s*k)%676
def two(v:Int):Str:=(⟨#[97+(v / 26).toNat]⟩:Str)++(⟨#[97+(v%26).toNat]⟩:Str)
def n2(hd tl:Str)(f s:Int)(q:Nat->Int)(k:Nat):Str:=hd++two (v2 f s k)++Txt.slice tl aj (aa (q k))
def sl(z:Str)(n k:Nat):Str:=Txt.slice z (aa (k:Int)) (aa ((k:Int)+(n:Int)))
def sb(z:Str)(n:Nat):List Str:=(fP (8-n)).map (sl z (n+1))
end L2
namespace L2
section
variable{β:Type}[DecidableEq β]{ws:List (Int×β×β)}{s:β}
inductive gm(ws:List (Int×β×β)):β->List Int->β->Prop
 |nil (p:β):gm ws p [] p
 |cons {n:Int} {p q s:β} {r:List Int}:(n,p,q)∈ws->gm ws q r s->gm ws p (n::r) s
def cg(st:List (β×Int))(p:β):Option Int:=(st.find? λx=>decide (x.1=p)).map (·.2)
theorem pA{st:List (β×Int)}{p:β}:cg st p=aj↔p∉st.map (·.1):=by
 unfold cg;rw[agt,Yq];simp only[cN,not_exists,not_and,decide_eq_true_eq]
theorem Ho(st:List (β×Int))(new:List β)(k:Int)(p:β):cg (st++new.map λg=>(g,k)) p=if p∈st.map (·.1) then cg st p else if p∈new then aa k else aj:=by
 unfold cg;rw[List.find?_append];by_cases h:p∈st.map (·.1)
 .rw[aV h]
  obtain⟨x,hx,rfl⟩:=cN.mp h
  cases e:st.find? λy=>decide (y.1=x.1) with
  |none=>exact absurd (cY rfl) (Yq.mp e x hx)
  |some y=>rfl
 .rw[bf h,(agt.mp (pA.mpr h):st.find? _=aj),Option.none_or];induction new with
  |nil=>rfl
  |cons g new ih=>
   rw[cj,oY];by_cases e:g=p
   .subst e;rw[cY rfl,aV dg];rfl
   .rw[dW e,ih];have:p∈g::new↔p∈new:=by rw[bY];exact⟨λz=>z.resolve_left λz=>e z.symm,.inr⟩
    simp only[this]
theorem Mm(x:β×Int)(l:List (β×Int))(p:β):cg (x::l) p=if x.1=p then aa x.2 else cg l p:=by
 unfold cg;rw[oY];by_cases h:x.1=p
 .rw[cY h,aV h];rfl
 .rw[dW h,bf h]
structure uD(ws:List (Int×β×β))(s:β)(st:List (β×Int))(new:List β)(k:Nat):Prop where
 sound:∀p d,cg st p=aa d->d<=k/\∃r,gm ws p r s/\(r.length:Int)=d
 whole:∀p r,gm ws p r s->r.length<=k->∃d,cg st p=aa d/\d<=r.length
 last:∀p,p∈new↔cg st p=aa (k:Int)
 nd:(st.map (·.1)).Nodup
 sub:∀p∈st.map (·.1),p=s\/p∈ws.map (·.2.1)
 low:∀p d,cg st p=aa d->d+1<=st.length
theorem uD.init(ws:List (Int×β×β))(s:β):uD ws s [(s,0)] [s] 0 where
 sound p d h:=by
  unfold cg at h;rw[oY] at h;by_cases e:s=p
  .subst e;rw[cY rfl] at h;cases h
   exact⟨rH _,[],.nil _,rfl⟩
  .rw[dW e] at h;cases h
 whole p r h l:=by
  cases h with
  |nil=>exact⟨0,by unfold cg;rw[oY,cY rfl];rfl,rH _⟩
  |cons _ _=>exact absurd l (Yk _)
 last p:=by
  unfold cg;rw[oY,jb];by_cases e:s=p
  .subst e;rw[cY rfl]
   exact⟨λ_=>rfl,λ_=>rfl⟩
  .rw[dW e]
   exact⟨λz=>absurd z.symm e,λz=>nomatch z⟩
 nd:=by simp
 sub p hp:=.inl (jb.mp hp)
 low p d h:=by
  unfold cg at h;rw[oY] at h;by_cases e:s=p
  .rw[cY e] at h;cases h;exact rH _
  .rw[dW e] at h;cases h
theorem uD.step{st:List (β×Int)}{new new':List β}{k:Nat}(B:uD ws s st new k)(hn:new'.Nodup)(hm:∀g,g∈new'↔∃w∈ws,w.2.2∈new/\w.2.1∉st.map (·.1)/\w.2.1=g):uD ws s (st++new'.map λg=>(g,(k:Int)+1)) new' (k+1) where
 sound p d h:=by
  rw[Ho] at h;split at h
  .obtain⟨h1,h2⟩:=B.sound p d h
   exact⟨by lia,h2⟩
  .split at h
   .rename_i m;cases h
    refine⟨by lia,?_⟩
    obtain⟨w,m1,m2,m3,rfl⟩:=(hm p).mp m
    obtain⟨_,r,h3,h4⟩:=B.sound _ _ ((B.last _).mp m2)
    exact⟨w.1::r,.cons (p:=w.2.1) (q:=w.2.2) m1 h3,by rw[cA];lia⟩
   .cases h
 whole p r h l:=by
  rw[Ho];by_cases hp:p∈st.map (·.1)
  .rw[aV hp];cases e:cg st p with
   |none=>exact absurd hp (pA.mp e)
   |some d=>
    refine⟨d,rfl,?_⟩
    by_cases l':r.length<=k
    .obtain⟨d',e',h'⟩:=B.whole p r h l'
     rw[e] at e';cases e';exact h'
    .have:=(B.sound p d e).1;lia
  .rw[bf hp];cases h with
   |nil=>
    obtain⟨d,e,_⟩:=B.whole s [] (.nil s) (kI _)
    rw[pA.mpr hp] at e;cases e
   |cons hw hr=>
    rename_i n q r;rw[cA] at l⊢
    obtain⟨d,e,hd⟩:=B.whole q r hr (by lia)
    obtain⟨hk,r2,hr2,l2⟩:=B.sound q d e
    by_cases hdk:d=k
    .subst hdk;have m:p∈new':=(hm p).mpr ⟨_,hw,(B.last q).mpr e,hp,rfl⟩;rw[aV m]
     exact⟨_,rfl,by lia⟩
    .obtain⟨d',e',_⟩:=B.whole p (n::r2) (.cons hw hr2) (by rw[cA];lia)
     rw[pA.mpr hp] at e';cases e'
 last p:=by
  rw[Ho];constructor
  .intro m
   obtain⟨w,m1,m2,m3,rfl⟩:=(hm p).mp m
   rw[bf m3,aV m];rfl
  .intro e;split at e
   .have:=(B.sound p _ e).1;lia
   .split at e
    .rename_i m;exact m
    .cases e
 nd:=by
  rw[jZ,cU,show((λx:β×Int=>x.1) ∘ λg=>(g,(k:Int)+1))=id from rfl,Ky];refine kE.mpr ⟨B.nd,hn,λa ha b hb e=>?_⟩;subst e
  obtain⟨w,_,_,m3,rfl⟩:=(hm a).mp hb
  exact m3 ha
 sub p hp:=by
  rw[jZ,cU,show((λx:β×Int=>x.1) ∘ λg=>(g,(k:Int)+1))=id from rfl,Ky] at hp;rcases dD.mp hp with hp|hp
  .exact B.sub p hp
  .obtain⟨w,m1,_,_,rfl⟩:=(hm p).mp hp
   exact .inr (cN.mpr ⟨w,m1,rfl⟩)
 low p d h:=by
  rw[Ho] at h;rw[fU,bw];split at h
  .have:=B.low p d h;lia
  .split at h
   .rename_i m;cases h
    obtain⟨w,m1,m2,m3,rfl⟩:=(hm p).mp m
    have:=B.low _ _ ((B.last _).mp m2);have:=agu m;lia
   .cases h
theorem len_sub:∀{l m:List β},l.Nodup->(∀x∈l,x∈m)->l.length<=m.length
 |[],_,_,_=>kI _
 |a::l,m,hn,h=>by
  have ha:=h a dg;have:=len_sub (m:=m.erase a) (je.mp hn).2 λx hx=>(agJ (show x≠a from λz=>(je.mp hn).1 (z▸hx))).mpr (h x (dZ _ hx))
  rw[List.length_erase_of_mem ha] at this;have:=agu ha;rw[cA];lia
theorem uD.few{st:List (β×Int)}{new:List β}{k:Nat}(B:uD ws s st new k):st.length<=ws.length+1:=by
 have h:(st.map (·.1)).length<=(s::ws.map (·.2.1)).length:=by
  refine len_sub B.nd λp hp=>?_
  rcases B.sub p hp with rfl|h
  .exact dg
  .exact dZ _ h
 simpa using h
structure rE(ws:List (Int×β×β))(s:β)(st:List (β×Int)):Prop where
 sound:∀p d,cg st p=aa d->∃r,gm ws p r s/\(r.length:Int)=d
 whole:∀p r,gm ws p r s->∃d,cg st p=aa d/\d<=r.length
 few:∀p d,cg st p=aa d->d<=ws.length
 nd:(st.map (·.1)).Nodup
theorem uD.done{st:List (β×Int)}{k:Nat}(B:uD ws s st [] k):rE ws s st where
 sound p d h:=(B.sound p d h).2
 nd:=B.nd
 few p d h:=by
  have:=B.low p d h;have:=B.few;lia
 whole p r h:=by
  induction h with
  |nil p=>exact B.whole p [] (.nil p) (kI _)
  |cons hw hr ih=>
   rename_i n p q s' r
   obtain⟨d,e,hd⟩:=ih B
   obtain⟨hk,r2,hr2,l2⟩:=B.sound q d e
   have:d≠k:=λz=>by
    subst z;exact nomatch(B.last q).mpr e
   obtain⟨d',e',h'⟩:=B.whole p (n::r2) (.cons hw hr2) (by rw[cA];lia)
   refine⟨d',e',?_⟩
   rw[cA] at h'⊢;lia
theorem rE.self{st:List (β×Int)}(B:rE ws s st):cg st s=aa 0:=by
 obtain⟨d,e,h⟩:=B.whole s [] (.nil s)
 obtain⟨r,_,l⟩:=B.sound s d e
 rw[e];simp only[FP] at h;congr 1;lia
theorem rE.iff{st:List (β×Int)}(B:rE ws s st)(p:β):p∈st.map (·.1)↔∃r,gm ws p r s:=by
 constructor
 .intro h;cases e:cg st p with
  |none=>exact absurd h (pA.mp e)
  |some d=>
   obtain⟨r,h,_⟩:=B.sound p d e
   exact⟨r,h⟩
 .rintro⟨r,h⟩
  obtain⟨d,e,_⟩:=B.whole p r h
  apply agg;intro n;rw[pA.mpr n] at e;cases e
def nW(ws:List (Int×β×β))(a b:β):Prop:=∃r,gm ws a r b
theorem gm.snoc{a b c:β}{n:Int}{r:List Int}(h:gm ws a r b)(hw:(n,b,c)∈ws):gm ws a (r++[n]) c:=by
 induction h with
 |nil p=>exact .cons hw (.nil _)
 |cons h1 _ ih=>exact .cons h1 (ih hw)
def pJ(w:Int×β×β):Int×β×β:=(w.1,w.2.2,w.2.1)
theorem G4{n:Int}{a b:β}:(n,a,b)∈ws.map pJ↔(n,b,a)∈ws:=by
 rw[cN];constructor
 .rintro⟨w,h,e⟩
  injection e with e1 e2
  injection e2 with e2 e3
  subst e1 e2 e3;exact h
 .exact λh=>⟨_,h,rfl⟩
theorem gm.turn{a b:β}{r:List Int}(h:gm (ws.map pJ) a r b):gm ws b r.reverse a:=by
 induction h with
 |nil p=>exact .nil p
 |cons h1 _ ih=>
  rw[Ql];exact ih.snoc (G4.mp h1)
theorem gm.HH{a b:β}{r:List Int}(h:gm ws a r b):gm (ws.map pJ) b r.reverse a:=by
 induction h with
 |nil p=>exact .nil p
 |cons h1 _ ih=>
  rw[Ql];exact ih.snoc (G4.mpr h1)
theorem rE.Uu{st:List (β×Int)}(B:rE (ws.map pJ) s st){p:β}(h:nW ws s p):∃r,gm ws s r p/\r.length<=ws.length:=by
 obtain⟨r,h⟩:=h
 obtain⟨d,e,_⟩:=B.whole p _ h.HH
 obtain⟨r',h',l⟩:=B.sound p d e
 have:=B.few p d e;rw[bw] at this
 exact⟨_,h'.turn,by rw[agO];lia⟩
theorem rE.keys{st:List (β×Int)}(B:rE (ws.map pJ) s st)(p:β):p∈st.map (·.1)↔nW ws s p:=by
 rw[B.iff p]
 exact⟨λ⟨r,h⟩=>⟨_,h.turn⟩,λ⟨r,h⟩=>⟨_,h.HH⟩⟩
theorem Tr:∀{l m:List β},l.Nodup->m.Nodup->(∀x,x∈l↔x∈m)->l.Perm m
 |[],m,_,_,h=>by
  cases m with
  |nil=>exact .refl _
  |cons x _=>exact absurd ((h x).mpr dg) oA
 |a::l,m,hl,hm,h=>by
  have ha:=(h a).mp dg
  refine((Tr (m:=m.erase a) (je.mp hl).2 (hm.erase a) λx=>?_).cons a).trans (List.perm_cons_erase ha).symm
  constructor
  .intro hx;have ne:x≠a:=λz=>(je.mp hl).1 (z▸hx)
   exact(agJ ne).mpr ((h x).mp (dZ _ hx))
  .intro hx;have hx':=(h x).mpr (List.mem_of_mem_erase hx);rcases bY.mp hx' with rfl|hx'
   .exact absurd hx (List.Nodup.not_mem_erase hm)
   .exact hx'
def lexLe:List Int->List Int->Prop
 |[],_=>True
 |_::_,[]=>False
 |a::r,b::q=>a<b\/(a=b/\lexLe r q)
theorem aaI:∀{r q:List Int},r.length=q.length->lexLe r q->lexLe q r->r=q
 |[],[],_,_,_=>rfl
 |a::r,b::q,l,h,h'=>by
  have e:a=b:=by rcases h with h|h<;>rcases h' with h'|h'<;>lia
  subst e;rw[aaI (Gq l) (h.resolve_left (by lia)).2 (h'.resolve_left (by lia)).2]
def mV(ws:List (Int×β×β))(p s:β)(r:List Int):Prop:=gm ws p r s/\∀r',gm ws p r' s->r.length<r'.length\/(r.length=r'.length/\lexLe r r')
theorem mV.unique{p:β}{r r':List Int}(h:mV ws p s r)(h':mV ws p s r'):r=r':=by
 rcases h.2 r' h'.1 with l|⟨l,a⟩
 .rcases h'.2 r h.1 with l'|⟨l',_⟩<;>lia
 .rcases h'.2 r h.1 with l'|⟨_,b⟩
  .lia
  .exact aaI l a b
theorem mV.self(ws:List (Int×β×β))(s:β):mV ws s s []:=⟨.nil s,λr' _=>by
 cases r' with
 |nil=>exact .inr ⟨rfl,trivial⟩
 |cons _ _=>exact .inl (Rr _)⟩
theorem mV.go{p q:β}{n d:Int}{r:List Int}{st:List (β×Int)}(hU:∀w∈ws,∀w'∈ws,w.1=w'.1->w=w')(B:rE ws s st)(hp:cg st p=aa d)(hw:(n,p,q)∈ws)(hq:∃e,cg st q=aa e/\e<d)(hmin:∀n' q' e,(n',p,q')∈ws->cg st q'=aa e->e<d->n<=n')(hr:mV ws q s r):mV ws p s (n::r):=by
 obtain⟨e,hq,hlt⟩:=hq
 obtain⟨r1,hr1,l1⟩:=B.sound q e hq
 have hle:r.length<=r1.length:=by rcases hr.2 r1 hr1 with h|h<;>lia
 refine⟨.cons hw hr.1,λr' h'=>?_⟩
 obtain⟨d',e',hd'⟩:=B.whole p r' h'
 rw[hp] at e';cases e';rw[cA];cases h' with
 |nil=>
  simp only[FP] at hd';lia
 |cons hw' hr'=>
  rename_i n' q' r';rw[cA] at hd'⊢
  obtain⟨e2,h2,l2⟩:=B.whole q' r' hr'
  by_cases hl:r.length<r'.length
  .exact .inl (by lia)
  .refine .inr ⟨by lia,?_⟩;have hn:=hmin n' q' e2 hw' h2 (by lia);by_cases hnn:n<n'
   .exact .inl hnn
   .have:n=n':=by lia
    subst this;have:=hU _ hw _ hw' rfl;cases this;refine .inr ⟨rfl,?_⟩;rcases hr.2 r' hr' with h|h
    .lia
    .exact h.2
end
end L2
namespace L2
open PySem PySem.Spec PyProof.Rows PySem.W
def Bt:Option (Option Vl)->Option (List au)
 |some (some (.ow (.list ds)))=>aa ds
 |_=>aj
theorem MT(h:Bt x=aa ds):x=aa (aa (.ow (.list ds))):=by
 unfold Bt at h;split at h
 .cases h;rfl
 .cases h
def Wt(i j:Nat)(f:FB):FS:=λenv C=>(Bt env[i]?).bind λ_=>(Bt env[j]?).bind λ_=>(f env C).bind λp=>(Bt p.2.1[i]?).bind λds=>(Bt p.2.1[j]?).bind λes=>(intD p.1).bind λk=>(if 0<=k/\k<gF then es[k.toNat]? else aj).bind λy=>if ds.length<gF/\i≠j then aa (.nx,(p.2.1.set j (aa (.ow (.list (es.eraseIdx k.toNat))))).set i (aa (.ow (.list (ds++[y])))),p.2.2) else aj
theorem abf:∀{ds:List au}{vs:List V}(n:Nat),cB H ds vs->cB H (ds.eraseIdx n) (vs.eraseIdx n)
 |[],vs,n,r=>by
  have:vs=[]:=r;subst this;exact r
 |x::ds,vs,0,r=>by
  obtain⟨v,r',rfl,_,w⟩:=r
  exact w
 |x::ds,vs,n+1,r=>by
  obtain⟨v,r',rfl,q,w⟩:=r
  exact⟨v,_,rfl,q,abf n w⟩
theorem amY(ho:PE X o (sH i))(ho2:PE X o2 (sH j))(he:PE X e (dY X.K f))
  (hs0:xV (.Call (.Attribute o "append" apos) [.Call (.Attribute o2 "pop" El) [e] [] wI] [] cpos) aj pos.line X.env=pure aF:=by rfl)
  (hbase:xT o "append" X.env (eval o X.env)=eval o X.env:=by rfl)
  (hfew:((f9 cpos (bC [.Call (.Attribute o2 "pop" El) [e] [] wI] X.env)).all (λx=>!x.1)&&(Dj cpos (CT [] X.env)).all (λx=>x.1.isSome)
   &&decide (([.Call (.Attribute o2 "pop" El) [e] [] wI]:List Expr).length+([]:List pY).length+(if([]:List pY).isEmpty then 0 else 1)<30))=ao:=by rfl)
  (hline:(apos.endLine==cpos.line)=ao:=by rfl)(hs:bC [.Call (.Attribute o2 "pop" El) [e] [] wI] X.env=(aF,eval (.Call (.Attribute o2 "pop" El) [e] [] wI) X.env)::bC [] X.env:=by rfl)(hplain:(f9 cpos (bC [] X.env)).any (·.1)=aF:=by rfl)
  (aoB:xT o2 "pop" X.env (eval o2 X.env)=eval o2 X.env:=by rfl)
  (apH:((f9 wI (bC [e] X.env)).all (λx=>!x.1)&&(Dj wI (CT [] X.env)).all (λx=>x.1.isSome)
   &&decide (([e]:List Expr).length+([]:List pY).length+(if([]:List pY).isEmpty then 0 else 1)<30))=ao:=by rfl)
  (aoC:(El.endLine==wI.line)=ao:=by rfl)(hs2:bC [e] X.env=(aF,eval e X.env)::bC [] X.env:=by rfl)(amZ:(f9 wI (bC [] X.env)).any (·.1)=aF:=by rfl):
  PS X (.Expr (.Call (.Attribute o "append" apos) [.Call (.Attribute o2 "pop" El) [e] [] wI] [] cpos) pos) (tS X.K (Wt i j f)):=
 (acz (NQ X4 Yp agi (wW.r Tc) ho
  (pB (NQ X4 ahF PySem.F.type_list_pop (wW.r akI) ho2 (pB he tU hs2) aoB apH aoC hs2 amZ) tU hs) hbase hfew hline hs hplain) hs0).weak λD σ H aN=>by
  obtain⟨Z,Θ,env,C,fl,env',C',S,hf,q⟩:=aN
  obtain⟨_,g1,hf⟩:=lq.mp hf
  obtain⟨_,g2,hf⟩:=lq.mp hf
  obtain⟨p,g3,hf⟩:=lq.mp hf
  obtain⟨ds,g4,hf⟩:=lq.mp hf
  obtain⟨es,g5,hf⟩:=lq.mp hf
  obtain⟨k,g6,hf⟩:=lq.mp hf
  obtain⟨y,g7,hf⟩:=lq.mp hf
  split at hf
  case isFalse=>cases hf
  rename_i g8;split at g7
  case isFalse=>cases g7
  rename_i g9;cases hf
  obtain⟨v0,zj,a,rfl,Jd,ha0,r0⟩:=S.slot i _ (MT g1)
  obtain⟨v1,ev1,b,rfl,vs1,ha1,r1⟩:=S.slot j _ (MT g2)
  refine⟨_,zj,.inl ⟨rfl,Jd,bO.of ha0⟩,_,ev1,.inl ⟨rfl,vs1,bO.of ha1⟩,Z,Θ,env,C,p.1,p.2.1,p.2.2,S,g3,λv H1 kk ff S1 bb=>?_⟩
  rw[Mx g6] at bb;have bb:v=.int k:=bb;subst bb;have g4:=MT g4;have g5:=MT g5
  obtain⟨w0,ew0,a',ea,ws0,hw0,s0⟩:=S1.slot i _ g4
  obtain⟨w1,ew1,b',eb,Jp,hw1,s1⟩:=S1.slot j _ g5
  subst ea eb;rw[zj] at ew0;rw[ev1] at ew1;cases ew0;cases ew1
  obtain⟨yv,hy,ry⟩:=yr s1 g7
  have hk:k.toNat<Jp.length:=(jW.mp hy).1;have g9:0<=k/\k<1000000:=g9;have six:S9 k Jp.length=aa k.toNat:=by
   exact arQ g9.1 (by lia)
  refine⟨b,Jp,k,k.toNat,yv,rfl,rfl,hw1,by lia,by lia,six,hy,?_⟩
  have w1:eZ X.K Z Θ p.2.1 σ H1 Θ (p.2.1.set j (aa (.ow (.list (es.eraseIdx k.toNat))))) p.2.2 σ (upd H1 b (.lst (Jp.eraseIdx k.toNat))):=S1.write g5 ev1 ⟨_,eN,abf _ s1⟩
  obtain⟨x0,ex0,a',ea,xs0,hx0,t0⟩:=w1.sm.slot i _ (show(p.2.1.set j (aa (.ow (.list (es.eraseIdx k.toNat)))))[i]?=_ by rw[xx (λz=>g8.2 z.symm)];exact g4)
  subst ea;rw[zj] at ex0;cases ex0
  refine⟨a,xs0,yv,rfl,rfl,hx0,by rw[jK t0,iM];have:ds.length<1000000:=g8.1;lia,?_⟩
  have ep:aY Z Θ (p.2.1.set j (aa (.ow (.list (es.eraseIdx k.toNat))))) σ=aY Z Θ p.2.1 σ:=by show _++(_++_)=_;rw[Ui g5]
  have mp:b∈aY Z Θ p.2.1 σ:=iQ.mpr (.inr (.inr (nC.mpr ⟨j,_,g5,ev1⟩)));have ry':RZ (er (aY Z Θ (p.2.1.set j (aa (.ow (.list (es.eraseIdx k.toNat))))) σ) (upd H1 b (.lst (Jp.eraseIdx k.toNat)))) y yv:=by rw[ep,Np mp];exact ry
  have w2:=w1.sm.write (o:=.lst (xs0++[yv])) (d':=.list (ds++[y])) (show(p.2.1.set j (aa (.ow (.list (es.eraseIdx k.toNat)))))[i]?=_ by rw[xx (λz=>g8.2 z.symm)];exact g4) zj ⟨_,eN,Ac t0 ⟨yv,[],rfl,ry',rfl⟩⟩;exact q Θ σ _ (((eZ.uz kk ff S1).trans w1).trans w2)
def apI(i j k:Nat)(ta:TA):TS:=λD σ H=>ta σ H λvs H1=>vs.length=3/\(∀v w z,vs=[v,w,z]->D.nx (((σ.set i (aa v)).set j (aa w)).set k (aa z)) H1)
section
variable{X:Cx}{pos:Pos}
theorem am0{kt k2 pM}(hc:X.calm=ao)(hN:X.N.Nodup)(hi:X.N[i]?=aa x)(hj:X.N[j]?=aa y)(hk:X.N[k]?=aa z)(hij:i≠j)(hik:i≠k)(hjk:j≠k)
  (hx:X.env.scope.names.lookup x=aa .local)(hy:X.env.scope.names.lookup y=aa .local)(hz:X.env.scope.names.lookup z=aa .local)(ha:PA X [a,b,c] ta)
  (hw:zP [.Tuple [.Name x px,.Name y py,.Name z pz] kt pt] (.Tuple [a,b,c] k2 pM) X.env=pure (aa [x,y,z]))
  (hs:zO [.Tuple [.Name x px,.Name y py,.Name z pz] kt pt] (.Tuple [a,b,c] k2 pM) pos.line X.env=pure aF:=by rfl):
  PS X (.Assign [.Tuple [.Name x px,.Name y py,.Name z pz] kt pt] (.Tuple [a,b,c] k2 pM) pos) (apI i j k ta):=by
 intro pins s σ H D I h;rw[exec_Assign_arm];refine aC (vD ?_);rw[hs];refine aC (aZ ?_);rw[bf (by decide)];refine aC (Tuple_ (bH (ha _ pins s σ H _ I h) λus s1 aN=>?_))
 obtain⟨vs,H1,I1,r1,l1,q1⟩:=aN
 cases r1 with
 |nil=>cases l1
 |cons rv r1=>
 cases r1 with
 |nil=>cases l1
 |cons rw' r1=>
 cases r1 with
 |nil=>cases l1
 |cons rz r1=>
 cases r1 with
 |cons _ _=>cases l1
 |nil=>
 rename_i v u1 w u2 zz u3;refine mQ ?_ (by show 3<=bW;decide);have I2:Inv X pins σ H1 {s1 with heap:=s1.heap.push {cls:=.type "tuple",data:=.seq [u1,u2,u3].toArray}}:=I1.kept (t':=s1.toks) λb o e=>cJ _ e
 rw[hw];refine aC (aZ ?_);show aQ (model X.prog X.w) X.A (do rule "assign.swapped-stores";let items <-unpackItems (.ref s1.heap.objs.size) 3 aj;Gg [λv=>vJ X.env z v,λv=>vJ X.env y v,λv=>vJ X.env x v] items.reverse;pure SX) _ _ _;refine aC (zW (aC (unpackItems_tuple (items:=#[u1,u2,u3]) (I.ok.hd hc) (IsTup.new s1.heap _) λh' hx'=>?_)));have I3:=I2.kept (h':=h') (t':=s1.toks) λb o e=>hx' b o (fL (cC e)) e
 show aQ _ _ (Gg [λv=>vJ X.env z v,λv=>vJ X.env y v,λv=>vJ X.env x v] [u3,u2,u1] >>= λ_=>pure SX) _ _ _;refine aC (assignInOrder_cons (JV (uR I3 hN hk (.inl hz) rz (λs2 I4=>?_) (.inr hz))));refine assignInOrder_cons (JV (uR I4 hN hj (.inl hy) rw' (λs3 I5=>?_) (.inr hy)));refine assignInOrder_cons (JV (uR I5 hN hi (.inl hx) rv (λs4 I6=>assignInOrder_nil (aZ ?_)) (.inr hx)));rw[Q6 _ _ (lO hij),Q6 _ _ (lO hik),Q6 _ _ (lO hjk)] at I6
 exact⟨_,H1,I6,q1 _ _ _ rfl⟩
theorem am1{kt k2 pM}(hc:X.calm=ao)(hN:X.N.Nodup)(hi:X.N[i]?=aa x)(hj:X.N[j]?=aa y)(hk:X.N[k]?=aa z)(hij:i≠j)(hik:i≠k)(hjk:j≠k)
  (hx:X.env.scope.names.lookup x=aa .local)(hy:X.env.scope.names.lookup y=aa .local)(hz:X.env.scope.names.lookup z=aa .local)(ha:PA X [a,b,c] (zg X.K g))
  (hw:zP [.Tuple [.Name x px,.Name y py,.Name z pz] kt pt] (.Tuple [a,b,c] k2 pM) X.env=pure (aa [x,y,z]))
  (hs:zO [.Tuple [.Name x px,.Name y py,.Name z pz] kt pt] (.Tuple [a,b,c] k2 pM) pos.line X.env=pure aF:=by rfl):
  PS X (.Assign [.Tuple [.Name x px,.Name y py,.Name z pz] kt pt] (.Tuple [a,b,c] k2 pM) pos) (tS X.K (mX [i,j,k] g)):=(am0 hc hN hi hj hk hij hik hjk hx hy hz ha hw hs).weak λD σ H aN=>by
 obtain⟨Z,Θ,env,C,fl,env',C',S,hf,q⟩:=aN
 unfold mX at hf;split at hf
 case h_2=>cases hf
 rename_i xs e1 C1 h1;split at hf
 case isFalse=>cases hf
 rename_i hl;cases hf
 refine⟨Z,Θ,env,C,xs,e1,C',S,h1,λvs as H1 k1 f1 n1 S1 a1=>⟨by rw[MF a1,<-hl.1];rfl,λv w zz e=>?_⟩⟩
 obtain⟨S2,o2⟩:=Vb a1 hl.1 (bJ.refl _) S1
 subst e;refine q Θ _ H1 ⟨lK.refl _ _,yh k1,λb m=>?_,S2⟩;rcases o2 b m with m|m
 .exact .inl (f1.own.subset m)
 .exact .inr (n1 b m)
end
theorem alm(rel:KV kvs vs):∀{us:List Value},us.length=vs.length->(∀(i:Nat)(v:Value),us[i]?=aa v->∃k x,vs[i]?=aa (k,x)/\(jH P w).is k v=ao)->Vals (kvs.map λkv=>kV kv.1) us:=by
 induction rel with
 |nil=>
  intro us h2 h3;cases us with
  |nil=>exact .nil
  |cons _ _=>cases h2
 |@cons p w ps ws hp _ ih=>
  intro us h2 h3;cases us with
  |nil=>cases h2
  |cons u us=>
   refine .cons ?_ (ih (Gq h2) λi v e=>h3 (i+1) v e)
   obtain⟨k,x,e1,e2⟩:=h3 0 u rfl
   have ek:k=p.1:=by rw[hp.1];exact congrArg Prod.fst (gP e1.symm)
   subst ek;exact abe e2
section
variable{X:Cx}
theorem JZ(hc:X.calm=ao):gQ X (.builtin "sorted") (λxs H Q=>∃(d:aq)(kvs:List (Key×V))(ns:List Str),xs=[.ref d]/\H d=aa (.dK kvs)/\kvs.map (·.1)=ns.map .inr/\ns.length<64/\∀(l:aq)(ns':List Str),H l=aj->ns'.Perm ns->sortedS ns'=ao->Q (.ref l) (upd H l (.lst (ns'.map V.str)))):=by
 intro pins s σ H xs us Q I r h
 obtain⟨d,kvs,ns,rfl,hd,hns,few,q⟩:=h
 obtain⟨u,rfl,ru⟩:=vals1 r
 cases ru
 obtain⟨z,lo,vs,rel,dd⟩:=I.hok d _ hd
 obtain⟨ep,da⟩:=dd.dictAt
 have lv:vs.length=kvs.length:=(Paired.length rel).symm;have ln:kvs.length=ns.length:=by have:=congrArg rG hns;simpa using this
 refine PK kind_sorted plain_sorted entry_sorted (args_sorted1 _) ?_;unfold j5.«sorted»;refine aC (m:=Sq "sorted" 1 1 _) (aZ (aC (aan (A:=X.A.in1) (kdl_dict (knd:=jH X.prog X.w) (ep:=ep) lo) (I.ok.hd hc) da (by rw[lv];exact z) λh1 tk acc hsz kk hacc=>?_)));have hV:=alm (P:=X.prog) (w:=X.w) rel (us:=acc.toList) (by rw[jF];exact hacc.1) λi v e=>hacc.2 i v (by rw[<-Fe];exact e)
 have hV:Vals (ns.map V.str) acc.toList:=by
  rw[show ns.map V.str=(ns.map j4).map kV by rw[cU];rfl,<-hns,cU];exact hV
 have hS:StrsAre acc.toList ns:=K8 hV;have lu:acc.toList.length=ns.length:=by rw[<-hV.length,bw]
 refine aC (J2 ?_ (by rw[iM];lia));have gL:(h1.push (seqObj "list" acc.toList.toArray 0)).get? h1.objs.size=aa (seqObj "list" acc.toList.toArray 0):=iI _ rfl;refine aC (nj (oW slot_list_sort ⟨_,gL,rfl⟩ entry_list_sort (list_sort_treeK strKind_oneLt gL hS.keysOf (λv1 v2 rest e=>keyKind_strs (by rw[<-e];exact hS)) (by lia) λst hp1 hp2=>⟨_,rfl,?_⟩) (args_list_sort _)))
 obtain⟨ns',b1,b2,b3⟩:=sorted_out_str hS hp1 hp2
 obtain⟨c,gD⟩:=sortedHeap_at (out:=(arrOf st).map (·.2)) gL
 have kb:∀b o,s.heap.get? b=aa o->(sortedHeap (h1.push (seqObj "list" acc.toList.toArray 0)) h1.objs.size acc.toList ((arrOf st).map (·.2))).get? b=aa o:=λb o e=>by
  have lb:b<h1.objs.size:=cC (kk b o e);rw[sortedHeap_old (fL lb) (by rw[zJ];exact zB lb)];exact cJ _ (kk b o e)
 exact aZ ⟨_,rfl,.ref h1.objs.size,_,I.laid (o:=.lst (ns'.map V.str)) (t':=tk) kb hsz ⟨by rw[bw,b2.length_eq,iM];lia,((arrOf st).map (·.2)).toList,c,Lg b1,by rw[Array.toArray_toList];exact gD⟩,rfl,q _ ns' (I.hok.fresh hsz) b2 b3⟩
def tR:List au->Option Vl
 |[.dict kvs]=>(strsOf (kvs.map (·.1))).bind λns=>bif decide (ns.length<64) then aa (.ow (.list ((gR strLt ns).map .str))) else aj
 |_=>aj
theorem abg:∀{kvs:List (au×au)}{ns:List Str},strsOf (kvs.map (·.1))=aa ns->cH cL kvs=aa (ns.map .inr)
 |[],ns,h=>by cases h;rfl
 |(.str z,v)::kvs,ns,h=>by
  obtain⟨ns',h1,rfl⟩:∃ns',strsOf (kvs.map (·.1))=aa ns'/\ns=z::ns':=by
   have h:(strsOf (dR z::kvs.map (·.1)))=aa ns:=h;unfold strsOf at h;cases e:strsOf (kvs.map (·.1)) with
   |none=>rw[e] at h;cases h
   |some t=>rw[e] at h;cases h;exact⟨t,rfl,rfl⟩
  show cH cL ((.str z,v)::kvs)=_;unfold cH;rw[abg h1];rfl
 |(.none,v)::kvs,ns,h=>by cases h
 |(.bool _,v)::kvs,ns,h=>by cases h
 |(.int _,v)::kvs,ns,h=>by cases h
 |(.list _,v)::kvs,ns,h=>by cases h
 |(.tuple _,v)::kvs,ns,h=>by cases h
 |(.dict _,v)::kvs,ns,h=>by cases h
theorem Mp{K:aJ}:lX K (λxs H Q=>∃(d:aq)(kvs:List (Key×V))(ns:List Str),xs=[.ref d]/\H d=aa (.dK kvs)/\kvs.map (·.1)=ns.map .inr/\ns.length<64/\∀(l:aq)(ns':List Str),H l=aj->ns'.Perm ns->sortedS ns'=ao->Q (.ref l) (upd H l (.lst (ns'.map V.str)))) tR:=by
 intro Z Θ env C σ H xs ds res S b e Q q;refine hide λGG gg=>?_
 unfold tR at e;split at e
 case h_2=>cases e
 rename_i kvs
 obtain⟨ns,hns,e⟩:=jf e
 cases hl:decide (ns.length<64) with
 |false=>rw[hl] at e;cases e
 |true=>
 rw[hl] at e;cases e;have hl:=of_decide_eq_true hl
 obtain⟨v,rfl,bb⟩:=pH b
 obtain⟨a,vs,rfl,da,r⟩:=bb.dct
 have hk:=abg hns;rcases da with⟨ks,h1,ha⟩|⟨ks,⟨ne,h2⟩,ha⟩
 .rw[hk] at h1;cases h1;have lz:vs.length=(ns.map (j4:Str->Key)).length:=by rw[Ds r,vL hk]
  refine gg ⟨a,_,ns,rfl,ha,by rw[ahw (by lia)],hl,λl ns' hn p hp=>?_⟩;rw[V1 p hp];exact q _ _ (aX.upd hn) (oH S (Uc _) hn)
 .exact absurd (xX hk h2) ne
end
def aoD(K:aJ)(tl td:TE):TE:=λσ H Q=>tl σ H λx H1=>td σ H1 λy H2=>∃(a:aq)(ns:List Int),x=.ref a/\y=.bl ao/\bO K H2 a (ns.map V.int)/\ns.length<64/\∀(l:aq)(ns':List Int),H2 l=aj->ns'.Perm ns->Ordered ao ns'->Q (.ref l) (upd H2 l (.lst (ns'.map V.int)))
section
variable{X:Cx}{l de:Expr}{tl td:TE}{p pos kp:Pos}
theorem aln(hc:X.calm=ao)(hl:PE X l tl)(hd:PE X de td)(hg:Gl X "sorted")(hm:X.mg "sorted"=aj)(he:bC [l] X.env=(aF,eval l X.env)::bC [] X.env:=by rfl):PE X (.Call (.Name "sorted" p) [l] [⟨aa "reverse",de,kp⟩] pos) (aoD X.K tl td):=by
 intro pins s σ H Q I h;refine Fi (yp I hg hm (u:=.builtin "sorted") rfl ?_);have he2:f9 pos (bC [l] X.env)=(aF,eval l X.env)::f9 pos (bC [] X.env):=by rw[he];rfl
 refine callWith_kw (e:=l) (rest:=[]) ?_ (he:=he2) (hplain:=by rw[he2];rfl);show aQ _ _ (G8 (f9 pos (bC [l] X.env))) _ _ s;rw[he];show aQ _ _ (G8 ((aF,eval l X.env)::f9 pos (bC [] X.env))) _ _ s;refine Fg (bH (hl pins s σ H _ I h) λv s1 ⟨x,H1,I1,r1,q1⟩=>JL ?_);refine kws_cons (bH (hd pins s1 σ H1 _ I1 q1) λu s2 ⟨y,H2,I2,r2,a,ns,ex,ey,ha,h64,q2⟩=>kws_nil ?_);subst ex ey;cases r1;cases r2
 obtain⟨its,rv,pl,_⟩:=I2.list ha
 have hi:IntsAre its ns:=intsAre_of rv;have hll:=rv.length;rw[bw] at hll;refine sorted_ints_rev (b:=ao) pl.isList hi (by lia) λout ns' a1 a2 a3=>?_
 obtain⟨e,he⟩:=sortedAll_at s2.heap its out
 have hz:ns'.length<=bW:=by rw[a2.length_eq,iM];lia
 exact⟨.ref (s2.heap.objs.size+1),_,I2.laid (o:=.lst (ns'.map V.int)) (t':=s2.toks) (λ_ _=>sortedAll_old) (qK _) ⟨by rw[bw];exact hz,out.toList,e,Lf a1,by simpa[seqObj] using he⟩,rfl,q2 _ ns' (I2.hok.fresh (qK _)) a2 a3⟩
end
def V5(f g:FB):FE:=λenv C=>(f env C).bind λp=>(g p.2.1 p.2.2).bind λq=>(match p.1,q.1 with|.list ds,.bool true=>intsOf ds|_,_=>aj).bind λns=>bif decide (ns.length<64) then aa (.ow (.list ((gR ltI ns).reverse.map .int)),env,q.2.2) else aj
theorem alo{X:Cx}{l de:Expr}{f g:FB}{p pos kp:Pos}(hc:X.calm=ao)(hl:PE X l (dY X.K f))(hd:PE X de (dY X.K g))(hg:Gl X "sorted")(hm:X.mg "sorted"=aj)(he:bC [l] X.env=(aF,eval l X.env)::bC [] X.env:=by rfl):
  PE X (.Call (.Name "sorted" p) [l] [⟨aa "reverse",de,kp⟩] pos) (tE X.K (V5 f g)):=(aln hc hl hd hg hm he).weak λσ H Q aN=>by
 obtain⟨Z,Θ,env,C,r,env',C',S,hf,q⟩:=aN
 obtain⟨p1,h1,hf⟩:=jf hf
 obtain⟨p2,h2,hf⟩:=jf hf
 obtain⟨ns,hns,hf⟩:=jf hf
 cases h64:decide (ns.length<64) with
 |false=>rw[h64] at hf;cases hf
 |true=>
 rw[h64] at hf;cases hf;have h64:=of_decide_eq_true h64
 obtain⟨d1,e1,C1⟩:=p1
 obtain⟨d2,e2,C2⟩:=p2
 split at hns
 case h_2=>cases hns
 rename_i ds k1 k2;have k1:d1=.list ds:=k1;have k2:d2=.bool ao:=k2;subst k1 k2
 refine⟨Z,Θ,env,C,_,e1,C1,S,h1,λv H1 k1 f1 S1 b1=>⟨Z,Θ,e1,C1,_,e2,C2,S1,h2,λw H2 k2 f2 S2 b2=>?_⟩⟩
 obtain⟨a,vs,rfl,ha,r⟩:=(b1.go S1 k2 f2).lst
 rw[LQ hns r] at ha
 refine⟨a,ns,rfl,b2,bO.of ha,h64,λl' ns' hn p hp=>?_⟩
 have hp:ns'.Pairwise (·>=·):=hp;have e:ns'=(gR ltI ns).reverse:=by
  rw[<-sortI (ns':=ns'.reverse) ((List.reverse_perm ns').trans p) (agC.mpr hp),List.reverse_reverse]
 rw[e];have kk:=k1.trans k2;exact q _ _ (kk.trans (aX.upd hn)) (Fz.refl _) ((oH (S.go kk S2.cell) (abH _) hn).from kk)
inductive fW(K:aJ)(x:Str)(st:cX):Prop
 |mk {f:aq} {oc:Value} {od an:Option aq} {osl:Array (Option Value)} {kV doc pm cdv ct:Value} (a:oZ K iK x=aa (aa (.ref f))) (l:K.lookup f=aa ⟨oc,od,.func (zR x x (Dr st) (yg st) (cG st) .none kV doc pm an cdv ct),osl⟩) (c:QM K cdv x=ao) (k:xQ K (.ref f)=ao):fW K x st
abbrev V6(x:Str)(st:cX)(ps:List Str):Prop:=∀(kV doc pm:Value)(an:Option aq)(cdv ct:Value)(us:List Value),us.length=ps.length->bindArgs (zR x x (Dr st) (yg st) (cG st) .none kV doc pm an cdv ct) ⟨us,[]⟩=pure (ps.zip us)
section
variable{P:bD}{w:bB}{K:aJ}{mg:Str->Option Value}{base h:bz}{x:Str}{st:cX}{k:Nat}{ps:List Str}{sp:Sp}
theorem fW.has(d:fW K x st)(X:K.In h)(G:h.Ns iK mg)(o:∀f fd,fH K x x st f fd->dw P w K mg base eG k f fd ps sp)(hb:V6 x st ps):cZ P w K mg base x k ps sp:=by
 obtain⟨a,l,c,kp⟩:=d
 have F:=VH l c kp
 exact⟨_,_,Ra X G a,kp,F.binds hb,o _ _ F⟩
theorem fW.aqx(d:fW K x st)(X:K.In h)(G:h.Ns iK mg)(o:∀f fd,mg x=aa (.ref f)->xQ K (.ref f)=ao->Binds K fd ps []->fH K x x st f fd->cZ P w K mg base x k ps sp)(hb:V6 x st ps):cZ P w K mg base x k ps sp:=by
 obtain⟨a,l,c,kp⟩:=d
 have F:=VH l c kp;exact o _ _ (Ra X G a) kp (F.binds hb) F
theorem fW.law{y:Str}{fa:aq}(d:fW K x st)(X:K.In h)(G:h.Ns iK mg)(hfa:mg x=aa (.ref fa))(o:∀base f fd,fH K x x st f fd->dw P w K mg base eG k f fd [y] sp)(hb:V6 x st [y]):
  ∃fd:dF,(∀(s:aB)(v:Value),Aa s fd ⟨[v],[]⟩ [(y,v)])/\∀base:bz,K.In base->base.Ns iK mg->dw P w K mg base eG k fa fd [y] sp:=by
 obtain⟨a,l,c,kp⟩:=d
 have e:=hfa.symm.trans (Ra X G a);cases e
 exact⟨_,λs v=>.of_eq (hb _ _ _ _ _ _ [v] rfl),λbase _ _=>o base _ _ (VH l c kp)⟩
theorem iH{B:List Value->Prop}(h:B []):∀us:List Value,us.length=0->B us
 |[],_=>h
theorem bQ{n:Nat}{B:List Value->Prop}(h:∀a,∀us:List Value,us.length=n->B (a::us)):∀us:List Value,us.length=n+1->B us
 |a::us,e=>h a us (Gq e)
end
section
open PySem.SeqAt
open PySem.AutoSeq1 (wpAny_loadPart')
open PySem.MeetsSeq PySem.MeetsSeq2 PySem.MeetsSeq3
theorem adh{xs:Array Value}{i:Nat}(h:xs.toList.drop i=x::r):xs[i]?=aa x/\xs.toList.drop (i+1)=r:=by
 have h1:xs.toList[i]?=aa x:=by
  have:=congrArg (·[0]?) h;simpa using this
 refine⟨by simpa using h1,?_⟩
 rw[<-List.tail_drop,h,List.tail_cons]
theorem adi(l b:aq)(items items2:Array Value)(n n2:Nat)(dd dd2:Option aq)(sl sl2:Array (Option Value))(hsz:items.size=items2.size):
  ∀(ns ms:List Key)(i:Nat),Vals (ns.map kV) (items.toList.drop i)->Vals (ms.map kV) (items2.toList.drop i)->ns.map bM=ms.map bM->Meets (j5.«list.__eq__.loop» ⟨[.ref l,.ref b,jg i,jg 0],[]⟩)
   (λ_ R s=>s.heap.get? l=aa {cls:=.type "list",dict:=dd,data:=.seq items n,slots:=sl}/\s.heap.get? b=aa {cls:=.type "list",dict:=dd2,data:=.seq items2 n2,slots:=sl2}/\R (.ok (.ret (.bool (eO ns ms)))) s)
 |[],[],i,h1,h2,_=>λprog w A R s h=>by
  obtain⟨hp,g,d,tk,os⟩:=s;obtain⟨hl,hb,h⟩:=h
  have z1:=h1.length;rw[Cq,jF] at z1;have z1:0=items.size-i:=z1;have i1:items[((i:Nat):Int).toNat]?=aj:=by simp;lia
  have i2:items2[((i:Nat):Int).toNat]?=aj:=by simp;lia
  wp_walk using qI hl,qI hb;rw[i1,i2];wp_walk using qI hl,qI hb;show R (.ok (.ret (.bool (decide (items.size<items2.size))))) _;rw[dW (by lia)];exact h
 |a::ns,c::ms,i,h1,h2,ht=>λprog w A R s h=>by
  obtain⟨hp,g,d,tk,os⟩:=s;obtain⟨hl,hb,h⟩:=h
  generalize e1:items.toList.drop i=xs at h1;generalize e2:items2.toList.drop i=ys at h2;cases h1 with
  |cons r1 t1=>
   cases h2 with
   |cons r2 t2=>
    obtain⟨i1,d1⟩:=adh e1
    obtain⟨i2,d2⟩:=adh e2
    have k1:bM a=bM c:=(CJ ht).1;have hc:((i:Int)+1)=((i+1:Nat):Int):=rfl;unfold eO at h;wp_walk using qI hl,qI hb;rw[zA,i1,i2];refine aC (T7 A.in1 ⟨hp,g,d,tk,os⟩ r1 r2 k1 prog w _ _ ?_);by_cases hac:a=c
    .rw[aV hac] at h;rw[cY hac];wp_walk;rw[hc]
     refine⟨vG plain_eq_loop _,xO entry_eq_loop ?_⟩
     rw[xF plain_eq_loop _];exact adi l b items items2 n n2 dd dd2 sl sl2 hsz ns ms (i+1) (by rw[d1];exact t1) (by rw[d2];exact t2) (CJ ht).2 prog w A R _ ⟨hl,hb,h⟩
    .rw[bf hac] at h;rw[dW hac];have rc:=Ly A.in1 ⟨hp,g,d,tk,os⟩ r1 r2 k1 prog w;wp_walk using qI hl,qI hb;rw[i1,i2];wp_walk using rc;simpa using h
theorem am2(l b:aq)(items items2:Array Value)(n n2:Nat)(dd dd2:Option aq)(sl sl2:Array (Option Value))(hsz:items.size=items2.size)(ns ms:List Key)(h1:Vals (ns.map kV) items.toList)(h2:Vals (ms.map kV) items2.toList)(ht:ns.map bM=ms.map bM):
  Meets (j5.«list.__lt__» ⟨[.ref l,.ref b],[]⟩)
   (λ_ R s=>s.heap.get? l=aa {cls:=.type "list",dict:=dd,data:=.seq items n,slots:=sl}/\s.heap.get? b=aa {cls:=.type "list",dict:=dd2,data:=.seq items2 n2,slots:=sl2}/\R (.ok (.ret (.bool (eO ns ms)))) s):=by
 intro prog w A R s h
 obtain⟨hp,g,d,tk,os⟩:=s;obtain⟨hl,hb,h⟩:=h
 have f3:=AutoSeq1.sub_list_list;wp_walk using qI hl,qI hb
 refine⟨vG plain_eq_loop _,xO entry_eq_loop ?_⟩
 rw[xF plain_eq_loop _];exact adi l b items items2 n n2 dd dd2 sl sl2 hsz ns ms 0 h1 h2 ht prog w A R _ ⟨hl,hb,h⟩
def afj(A:cD)(s:aB)(x y:Value)(r:Bool):Prop:=∀(prog:bD)(w:bB)(E Q:Value->aB->Prop),Q (.bool r) s->aQ (model prog w) A (Gv .Lt x y) Q E s
theorem ajj(hl:s.heap.IsList l items)(hb:s.heap.IsList b items2)(h1:Vals (ns.map kV) items.toList)(h2:Vals (ms.map kV) items2.toList)(ht:ns.map bM=ms.map bM)(hu:A.units<fV):afj A s (.ref l) (.ref b) (eO ns ms):=λprog w E Q h=>by
 obtain⟨⟨cls,dd,data,sl⟩,ho,hc,n,hd⟩:=id hl
 obtain⟨⟨cls2,dd2,data2,sl2⟩,ho2,hc2,n2,hd2⟩:=id hb
 simp only at hc hd hc2 hd2;subst hc hd hc2 hd2;have z1:ns.length=items.size:=by have:=h1.length;simpa using this
 have z2:ms.length=items2.size:=by have:=h2.length;simpa using this
 have z3:ns.length=ms.length:=by have:=congrArg rG ht;simpa using this
 exact X8 (op:=.Lt) ⟨_,ho,rfl⟩ ⟨_,ho2,rfl⟩ PySem.F.slot_list_lt PySem.F.entry_list_lt (PySem.F.args_list_lt_2 _ _) (am2 l b items items2 n n2 dd dd2 sl sl2 (by lia) ns ms h1 h2 ht)
  ⟨ho,ho2,show rJ (eO ns ms)≠Qc/\Q (.bool (eO ns ms)) s from⟨(λx=>nomatch x),h⟩⟩ hu
inductive wJ(A:cD)(s:aB):List Value->List Value->Bool->Prop
 |nil:wJ A s [] [] aF
 |eq:EqAt A s x y ao->wJ A s xs ys r->wJ A s (x::xs) (y::ys) r
 |ne:EqAt A s x y aF->afj A s x y r->xs.length=ys.length->wJ A s (x::xs) (y::ys) r
theorem wJ.len(h:wJ A s xs ys r):xs.length=ys.length:=by
 induction h with
 |nil=>rfl
 |eq _ _ ih=>rw[cA,cA,ih]
 |ne _ _ e=>rw[cA,cA,e]
theorem alp(l b:aq)(items items2:Array Value)(n n2:Nat)(dd dd2:Option aq)(sl sl2:Array (Option Value))(r:Bool):
  Meets (j5.«tuple.__lt__» ⟨[.ref l,.ref b],[]⟩)
   (λA R s=>s.heap.get? l=aa {cls:=.type "tuple",dict:=dd,data:=.seq items n,slots:=sl}/\s.heap.get? b=aa {cls:=.type "tuple",dict:=dd2,data:=.seq items2 n2,slots:=sl2}/\wJ A.in1 s items.toList items2.toList r/\R (.ok (.ret (.bool r))) s):=
 .of_wp λprog w A R s h=>by
  obtain⟨hp,g,d,tk,os⟩:=s;obtain⟨hl,hb,hr,h⟩:=h
  have f2:=agh;have z0:=hr.len;rw[jF,jF] at z0;wp_walk using qI hl,qI hb,ahs _ (λrest b s'=>b.1=aj/\s'=⟨hp,g,d,tk,os⟩/\∃vs ws,rest=vs.zip ws/\wJ A.in1 ⟨hp,g,d,tk,os⟩ vs ws r) _
  case turn=>
   rintro⟨y,x⟩ rest b s' ⟨hb',rfl,vs,ws,hz,hr⟩
   cases hr with
   |nil=>cases hz
   |eq e t=>
    rw[JH] at hz;cases hz;refine aC (e prog w _ _ ?_);wp_walk
    exact⟨rfl,rfl,_,_,rfl,t⟩
   |ne e c _=>
    rw[JH] at hz;cases hz;refine aC (e prog w _ _ ?_);have c:=c prog w;wp_walk using c
    exact⟨_,rfl,by simpa using h⟩
  case fin=>
   rintro⟨b1,b2⟩ s' ⟨hb',rfl,vs,ws,hz,hr⟩
   simp only at hb';subst hb';cases hr with
   |nil=>
    wp_walk
    exact⟨_,rfl,by simpa[af2,z0] using h⟩
   |eq=>cases hz
   |ne=>cases hz
  case h=>exact⟨rfl,rfl,_,_,rfl,hr⟩
end
theorem Uv:∀{ns:List Key}{xs:List Value}{j:Nat}{v:Value},Vals (ns.map kV) xs->xs[j]?=aa v->∃x,ns[j]?=aa x/\RelV (kV x) v
 |[],_,j,v,.nil,h=>by cases h
 |n::ns,_::xs,0,v,.cons r _,h=>⟨n,rfl,by cases h;exact r⟩
 |n::ns,_::xs,j+1,v,.cons _ t,h=>Uv (ns:=ns) t (by simpa using h)
theorem akc{ns ms:List Key}(hl:s.heap.IsList l items)(hb:s.heap.IsList b items2)(h1:Vals (ns.map kV) items.toList)(h2:Vals (ms.map kV) items2.toList)(ht:ns.map bM=ms.map bM)(hs:l=b->ns=ms)(hu:A.units<fV):K6 A s (.ref l) (.ref b) (decide (ns=ms)):=by
 by_cases e:l=b
 .subst e;rw[cY (hs rfl)];exact ahE _
 .have z1:ns.length=items.size:=by have:=h1.length;simpa using this
  have z2:ms.length=items2.size:=by have:=h2.length;simpa using this
  have z3:ns.length=ms.length:=by have:=congrArg rG ht;simpa using this
  have key:∀j (a1:j<items.size)(a2:j<items2.size),∃x y,ns[j]?=aa x/\ms[j]?=aa y/\K6 A.in1 s items[j] items2[j] (decide (x=y)):=λj a1 a2=>by
   obtain⟨x,e1,r1⟩:=Uv h1 (j:=j) (v:=items[j]) (by simp[a1])
   obtain⟨y,e2,r2⟩:=Uv h2 (j:=j) (v:=items2[j]) (by simp[a2])
   refine⟨x,y,e1,e2,T7 _ _ r1 r2 ?_⟩
   have:=congrArg (·[j]?) ht;simpa[e1,e2] using this
  refine SeqAt.EqAt.of_refs e ?_;have:=SeqAt.RcAt.lists (e:=λj=>decide (ns[j]?=ms[j]?)) hl hb (by lia) hu (λj a1 a2=>by
   obtain⟨x,y,e1,e2,h⟩:=key j a1 a2
   rw[e1,e2];simpa using h)
  have eq:(fP items.size).all (λj=>decide (ns[j]?=ms[j]?))=decide (ns=ms):=by
   rw[pU,oX,decide_eq_true_iff]
   refine⟨λh=>YB λi=>?_,λh j _=>by rw[h];exact cY rfl⟩
   by_cases hi:i<items.size
   .exact of_decide_eq_true (h i (uL.mpr hi))
   .rw[Cj (by lia),Cj (by lia)]
  rw[<-eq];exact this
theorem aed:∀ks:List Key,eO ks ks=aF
 |[]=>by unfold eO;rfl
 |k::ks=>by
  unfold eO;rw[aV rfl];exact aed ks
def afk:R2:=λx y H Q=>∃a b i j l m ks js,x=.ref a/\y=.ref b/\H a=aa (.tup [.int i,.ref l])/\H b=aa (.tup [.int j,.ref m])/\H l=aa (.lst (ks.map kV))/\H m=aa (.lst (js.map kV))/\(i=j->ks.map bM=js.map bM)/\Q (.bl (if i=j then eO ks js else decide (i<j))) H
theorem aoE{X:Cx}(hu:X.A.units+1<fV):cM X (fj .Lt) afk:=by
 intro pins s σ H x y v u Q I rx ry h
 obtain⟨a,b,i,j,l,m,ks,js,rfl,rfl,ha,hb,hl,hm,ht,q⟩:=h
 cases rx;cases ry
 obtain⟨i1,r1,p1,_⟩:=I.tuple (cW.of (K:=X.K) ha)
 obtain⟨i2,r2,p2,_⟩:=I.tuple (cW.of (K:=X.K) hb)
 obtain⟨i3,r3,p3,_⟩:=I.list (bO.of (K:=X.K) hl)
 obtain⟨i4,r4,p4,_⟩:=I.list (bO.of (K:=X.K) hm)
 obtain⟨w1,w2,e1,x1,x2⟩:=r1.two
 obtain⟨w3,w4,e2,x3,x4⟩:=r2.two
 obtain⟨t1,rfl⟩:=x1
 obtain⟨t3,rfl⟩:=x3
 cases x2;cases x4;have row:wJ X.A.in1 s i1 i2 (if i=j then eO ks js else decide (i<j)):=by
  rw[e1,e2];have q1:=agV (A:=X.A.in1) (s:=s) i t1 j t3;by_cases h:i=j
  .rw[beq_iff_eq.mpr h] at q1;rw[aV h];refine .eq q1 ?_;have q2:=akc (A:=X.A.in1) p3.isList p4.isList r3 r4 (ht h) (λe=>by
    subst e;have:=gP (hl.symm.trans hm);injection this with this
    exact acG this) hu
   by_cases k:ks=js
   .rw[cY k] at q2;rw[k,aed];exact .eq q2 .nil
   .rw[dW k] at q2;exact .ne q2 (ajj p3.isList p4.isList r3 r4 (ht h) hu) rfl
  .rw[beq_eq_false_iff_ne.mpr h] at q1;rw[bf h];exact .ne q1 (λprog w E Q q=>Ly (a:=.inl i) (b:=.inl j) X.A.in1 s ⟨t1,rfl⟩ ⟨t3,rfl⟩ rfl prog w E Q q) rfl
 obtain⟨⟨cls,dd,data,sl⟩,ho,hc,n,hd⟩:=id p1
 obtain⟨⟨cls2,dd2,data2,sl2⟩,ho2,hc2,n2,hd2⟩:=id p2
 simp only at hc hd hc2 hd2;subst hc hd hc2 hd2;exact X8 (op:=.Lt) ⟨_,ho,rfl⟩ ⟨_,ho2,rfl⟩ agz ags (agk _ _) (alp a b i1.toArray i2.toArray n n2 dd dd2 sl sl2 _)
  ⟨ho,ho2,row,show rJ _≠Qc/\_ from⟨(λx=>nomatch x),gb I q rfl⟩⟩ (by lia)
def Ia:au->au->Option Vl
 |.tuple [.int a,.list xs],.tuple [.int b,.list ys]=>(keysOf xs).bind λks=>(keysOf ys).bind λjs=>if a=b->ks.map bM=js.map bM then aa (.im (.bool (if a=b then eO ks js else decide (a<b)))) else aj
 |_,_=>aj
theorem aeK(h:er P H a=aa o):H a=aa o:=by
 unfold er at h;split at h
 .cases h
 .exact h
theorem aoF{K:aJ}:fY K afk Ia:=by
 intro Z Θ env C σ H x y dx dy res S bx dm e Q q;unfold Ia at e;split at e
 .obtain⟨ks,h1,e⟩:=lq.mp e
  obtain⟨js,h2,e⟩:=lq.mp e
  split at e
  .rename_i ht;cases e
   obtain⟨a,vs,rfl,ha,v1,_,rfl,z1,_,_,rfl,⟨l,ls,rfl,hl,r1⟩,rfl⟩:=bx.tup
   obtain⟨b,ws,rfl,hb,v2,_,rfl,z2,_,_,rfl,⟨m,ms,rfl,hm,r2⟩,rfl⟩:=dm.tup
   cases(show v1=.int _ from z1)
   cases(show v2=.int _ from z2)
   rw[xW h1 r1] at hl;rw[xW h2 r2] at hm
   exact⟨a,b,_,_,l,m,ks,js,rfl,rfl,ha,hb,aeK hl,aeK hm,ht,q _ _ (aX.refl _ _) (jo S rfl rfl)⟩
  .cases e
 .cases e
section
variable{X:Cx}{e es:Expr}{p2 pos:Pos}
def Nx:au->au->Option Vl
 |.bool a,.bool b=>aa (.im (.bool (a != b)))
 |_,_=>aj
theorem am3{K:aJ}:fY K (λx y H Q=>∃a b,x=.bl a/\y=.bl b/\Q (.bl (a != b)) H) Nx:=by
 intro Z Θ env C σ H x y dx dy res S bx dm e Q q;unfold Nx at e;split at e
 .cases e
  exact⟨_,_,bx,dm,q _ _ (aX.refl _ _) (jo S rfl rfl)⟩
 .cases e
end
section
variable{prog:bD}{w:bB}{A:cD}{E:Value->aB->Prop}{s:aB}
end
section
variable{X:Cx}
end
def pairsOf:List au->Option (List (au×au))
 |[]=>aa []
 |.tuple [k,v]::r=>(pairsOf r).map λt=>(k,v)::t
 |_=>aj
section
variable{K:aJ}{E H:Hp}{Θ as:List aq}{xs:List Vl}{vs:List V}{p q:List au}{d:au}
end
section
variable{X:Cx}{pos:Pos}
end
theorem apJ(d:au):yP (.im d)=aF:=rfl
theorem apK(d:au):yP (.ow d)=aF:=rfl
theorem apL(n:Nat):yP (.ce n)=aF:=rfl
section
variable{X:Cx}
end
end L2
namespace HT
open PySem PySem.Spec PyProof.Rows
open Sem (wp)
open Builtin
theorem ajk(l:aq)(dd:Option aq)(items:Array Value)(n:Nat)(ss:Array (Option Value))(u:Tok)(hc:items.isEmpty=aF):
  Meets (j5.«tuple.__mul__» ⟨[.ref l,.int 0 u],[]⟩) (λ_ R s=>s.heap.get? l=aa {cls:=.type "tuple",dict:=dd,data:=.seq items n,slots:=ss}/\R (.ok (.ret (di s.heap.objs.size))) {s with heap:=s.heap.push {cls:=Dc "tuple",data:=Data.seq #[] 0}}):=
 .of_wp λprog w A R s h=>by obtain⟨hp,g,d,tk,os⟩:=s;obtain⟨hl,h⟩:=h;wp_walk;exact⟨_,rfl,h⟩
theorem ajl(l:aq)(dd:Option aq)(items:Array Value)(n:Nat)(ss:Array (Option Value))(u:Tok):
  Meets (j5.«tuple.__mul__» ⟨[.ref l,.int 1 u],[]⟩) (λ_ R s=>s.heap.get? l=aa {cls:=.type "tuple",dict:=dd,data:=.seq items n,slots:=ss}/\R (.ok (.ret (di l))) s):=
 .of_wp λprog w A R s h=>by obtain⟨hp,g,d,tk,os⟩:=s;obtain⟨hl,h⟩:=h;wp_walk;exact⟨_,rfl,h⟩
end HT
namespace L2
open PySem PySem.Spec PyProof.Rows PySem.W
section
variable{X:Cx}
def aeL(K:aJ):R2:=λx y H Q=>∃a xs k,x=.ref a/\y=.int k/\cW K H a xs/\xs≠[]/\((k=0/\∀p,H p=aj->Q (.ref p) (upd H p (.tup [])))\/(k=1/\Q x H))
theorem adk:cM X (oF .Mult) (aeL X.K):=by
 intro pins s σ H x y v u Q I rx ry h
 obtain⟨l,xs,k,rfl,rfl,hH,h0,h⟩:=h
 cases rx
 obtain⟨t,rfl⟩:=ry
 obtain⟨its,r,ht,_⟩:=I.tuple hH
 obtain⟨⟨cls,dd,data,sl⟩,ho,hc,n,hd⟩:=id ht
 simp only at hc hd;subst hc hd;have he:its.toArray.isEmpty=aF:=by
  cases its with
  |nil=>cases r;exact absurd rfl h0
  |cons _ _=>rfl
 rcases h with⟨rfl,q⟩|⟨rfl,q⟩
 .exact XM (T:="tuple") (U:="int") (by decide) ⟨_,ho,rfl⟩ (λs'=>Dd s' 0 t) HT.YQ Y5 FJ HT.Z3 F.slot_int_index.lookup
   (zX FJ (Dd s 0 t) YK (Yx _ _) (HT.Yb 0 t l dd its.toArray n sl)
    ⟨ho,rfl,⟨_,ho,rfl⟩,zX ahA ⟨_,ho,rfl⟩ ahg (agW _ _) (HT.ajk l dd its.toArray n sl t he) ⟨ho,.ref s.heap.objs.size,_,I.laid (t':=s.toks) (o:=.tup []) (λb ob q=>cJ _ q) (bU _) ⟨kI _,[],.nil,IsTup.new _ _⟩,rfl,q _ (I.hok.fresh (bU _))⟩⟩)
 .exact XM (T:="tuple") (U:="int") (by decide) ⟨_,ho,rfl⟩ (λs'=>Dd s' 1 t) HT.YQ Y5 FJ HT.Z3 F.slot_int_index.lookup
   (zX FJ (Dd s 1 t) YK (Yx _ _) (HT.Yb 1 t l dd its.toArray n sl)
    ⟨ho,rfl,⟨_,ho,rfl⟩,zX ahA ⟨_,ho,rfl⟩ ahg (agW _ _) (HT.ajl l dd its.toArray n sl t) ⟨ho,.ref l,H,I,rfl,q⟩⟩)
def DY:au->au->Option Vl
 |.tuple (d::ds),.int k=>if k=0 then aa (.im (.tuple [])) else if k=1 then aa (.im (.tuple (d::ds))) else aj
 |_,_=>aj
theorem adl{K:aJ}:fY K (aeL K) DY:=by
 intro Z Θ env C σ H x y dx dy res S bx dm e Q q;unfold DY at e;split at e
 case h_2=>cases e
 rename_i d ds k;cases dm.int;have bx:RZ (er (aY Z Θ env σ) H) (.tuple (d::ds)) x:=bx
 obtain⟨a,vs,rfl,ha,r⟩:=id bx
 refine⟨a,vs,k,rfl,rfl,cW.of (jJ ha),(λz=>by subst z;obtain⟨_,_,z,_⟩:=r;cases z),?_⟩
 by_cases h0:k=0
 .rw[aV h0] at e;cases e;exact .inl ⟨h0,λp hp=>q _ _ (aX.upd hp) (Hi S rfl hp)⟩
 .rw[bf h0] at e;by_cases h1:k=1
  .rw[aV h1] at e;cases e;exact .inr ⟨h1,q _ _ (aX.refl _ _) ⟨S,bx⟩⟩
  .rw[bf h1] at e;cases e
end
def yI(f:FN)(f0:FE)(g:FA):FE:=λenv C=>(f0 env C).bind λx=>match x.1 with
 |.ow (.list ds)=>(intsOf ds).bind λns=>(g x.2.1 x.2.2).bind λy=>(f (.ce y.2.2.length::y.1) (y.2.2++[ns])).bind λw=>if(!yP w.1&&wG y.2.2.length w.1)=ao then aa (w.1,rst w.1 env y.2.1,w.2.take y.2.2.length) else aj
 |_=>aj
section
variable{K:aJ}{Z Z0 Θ Δ:List aq}{env:En}{C C0:Ce}{σ:St}{H H0 H':Hp}
theorem Dt:bJ (er (aY Z (Θ++Δ) env σ) H) (er (aY Z Θ env σ) H):=tX λa m=>by
 rcases iQ.mp m with m|m|m
 .exact iQ.mpr (.inl m)
 .exact iQ.mpr (.inr (.inl (gO _ m)))
 .exact iQ.mpr (.inr (.inr m))
theorem Sm.cutE(S:Sm K Z (Θ++Δ) env C σ H)(S0:Sm K Z0 Θ env C0 σ H0):Sm K Z Θ env (C.take Θ.length) σ H:=by
 have c7:=S.c7;have cl:=S.cell.len;rw[fU] at cl
 refine⟨S.len,zf c7.1 (kE.mp c7.2.1).1 c7.2.2.1 (λb m m'=>c7.2.2.2 b m (gO _ m')) (λb m=>?_),S.dom,λi x e=>?_,⟨by rw[xM];lia,λn a ns e1 e2=>?_⟩⟩
 .exact⟨(S.nH m).1,λz=>(S.nH m).2 (gO _ z)⟩
 .obtain⟨v,e1,r⟩:=S.slot i x e
  refine⟨v,e1,?_⟩
  cases x with
  |im d=>exact RZ.same Dt r
  |ow d=>obtain⟨a,e,q⟩:=r;exact⟨a,e,q.same Dt λ_ h=>h⟩
  |ce n=>
   obtain⟨v',e1',r'⟩:=S0.slot i _ e
   rw[e1] at e1';cases e1';exact r'
  |sc ns=>obtain⟨a,e,q⟩:=r;exact⟨a,e,Dt.seq q⟩
  |tp=>exact r
 .have hn:n<Θ.length:=(jW.mp e1).1;rw[Qi,aV hn] at e2;exact S.cell.at_ n a ns (by rw[oh hn];exact e1) e2
theorem Res.cutE{r:Vl}{v:V}(ok:wG Θ.length r=ao)(S0:Sm K Z0 Θ env C0 σ H0)(h:Res K Z (Θ++Δ) env C σ H H' r v):Res K Z Θ env (C.take Θ.length) σ H H' r v:=by
 cases r with
 |im d=>exact⟨h.1.cutE S0,h.2.same Dt⟩
 |ow d=>
  obtain⟨a,e,m,S,r⟩:=h
  exact⟨a,e,m,S.cutE S0,r.same Dt λ_ h=>h⟩
 |ce n=>
  obtain⟨S,a,e,e2⟩:=h
  refine⟨S.cutE S0,a,e,?_⟩
  rw[oh (of_decide_eq_true ok)] at e2;exact e2
 |sc ns=>
  obtain⟨S,a,e,q⟩:=h
  exact⟨S.cutE S0,a,e,Dt.seq q⟩
 |tp=>exact h.elim
theorem pC.more{E:Hp}{xs:List Vl}{vs:List V}(h:pC K E Θ xs vs):pC K E (Θ++Δ) xs vs:=by
 induction h with
 |nil=>exact .nil
 |@cons x v xs vs a _ ih=>
  refine .cons ?_ ih;cases x with
  |ce n=>
   obtain⟨b,e5,e6⟩:=a
   exact⟨b,e5,by rw[oh (jW.mp e6).1];exact e6⟩
  |im d=>exact a
  |ow d=>exact a
  |sc ns=>exact a
  |tp=>exact a
theorem akd{f:FN}{f0:FE}{g:FA}:∀σ H Q,tE K (yI f f0 g) σ H Q->NK (spT K f) [] E0 (aet (tE K f0) (vp K g)) σ H Q:=by
 rintro σ H Q ⟨Z,Θ,env,C,res,env',C',S,hf,q⟩
 obtain⟨⟨r0,e1,C1⟩,h1,hf⟩:=lq.mp hf
 cases r0<;>first|cases hf|skip
 rename_i d0;cases d0<;>first|cases hf|skip
 obtain⟨ns,hns,hf⟩:=lq.mp hf
 obtain⟨⟨xs,e2,C2⟩,h2,hf⟩:=lq.mp hf
 obtain⟨⟨r,C3⟩,h3,hf⟩:=lq.mp hf
 by_cases hg:(!yP r&&wG C2.length r)=ao
 case neg=>rw[bf hg] at hf;cases hf
 rw[aV hg] at hf;cases hf;rw[jn,Qn] at hg
 refine⟨Z,Θ,env,C,_,e1,C1,S,h1,λv H1 k1 f1 R1=>?_⟩
 obtain⟨a,rfl,hn,S1,Jd,ha,rz⟩:=R1
 cases LQ hns rz
 refine⟨a::Z,Θ,e1,C1,xs,e2,C2,S1,h2,λvs H2 k2 f2 S2 a2=>?_⟩
 have na:a∉Θ:=S1.c7.2.2.2 a dg;have S3:=S2.aom (k2.keep _ _ ha na);have cl:=S2.cell.len;show spT K f ((.ref a::vs)++[]) H2 Q E0;rw[jd];have e3:er (aY (Z++bT e2 σ) (Θ++[a]) [] []) H2=er (aY (a::Z) Θ e2 σ) H2:=rR λb=>by
  rw[iQ,iQ,dD,dD,jb,bY];constructor
  .rintro((h|h)|(h|h)|h)
   .exact .inl (.inr h)
   .exact .inr (.inr h)
   .exact .inr (.inl h)
   .exact .inl (.inl h)
   .nomatch h
  .rintro((h|h)|h|h)
   .exact .inr (.inl (.inr h))
   .exact .inl (.inl h)
   .exact .inr (.inl (.inl h))
   .exact .inl (.inr h)
 rw[<-e3] at a2
 refine⟨Z++bT e2 σ,Θ++[a],C2++[ns],.ce C2.length::xs,r,C3,S3.bare,.cons ⟨a,rfl,by rw[cl,qD (bU _),Z2];rfl⟩ a2.more,h3,λv H3 k3 R=>?_⟩
 have k0:=k1.trans k2;have ne:∀b o,H b=aa o->b∉Θ->b∉Θ++[a]:=λb o e n m=>by
  rcases dD.mp m with m|m
  .exact n m
  .rw[jb.mp m,hn] at e;cases e
 have k4:aX Θ H H3:=⟨λb o e n=>k3.keep b o (k0.keep b o e n) (ne b o e n),λb e=>k3.dom b (k0.dom b e)⟩
 have R1:=Res.cutE (by rw[<-cl];exact hg.2) S2.pop ((Res.back S3 k3 (R.res hg.1)));rw[<-cl] at R1;exact q v H3 k4 ((f1.trans f2).rst _) ((R1.from k0).rst S k4)
end
section
variable{X:Cx}{x:Str}{k:Nat}{ps:List Str}{p pos:Pos}{e:Expr}{es:List Expr}{f:FN}{f0:FE}{g:FA}
theorem aee(F:cZ X.prog X.w X.K X.mg X.base x k ps (spT X.K f))(hr:jh k X.A)(hg:Gl X x)(h0:PE X e (tE X.K f0))(ha:PA X es (vp X.K g))(hdb:(x==("__debug__":Str))=aF:=by decide)
  (he:bC (e::es) X.env=(aF,eval e X.env)::bC es X.env:=by rfl)(hpl:(f9 pos (bC es X.env)).any (·.1)=aF:=by rfl):PE X (.Call (.Name x p) (e::es) [] pos) (tE X.K (yI f f0 g)):=(aey F hr hg (pB h0 ha he) hdb he hpl).weak akd
end
end L2
namespace Xy
open PySem L2
abbrev zaa:List Str:=["house","part","outer","over"]
abbrev zab:List Str:=["house","part"]
abbrev zac:List Str:=["house","paper","holder","signer","day"]
abbrev zad:List Str:=["house","paper","holder","day","turned"]
abbrev zae:List Str:=["house","paper","holder","day"]
abbrev zaf:List Str:=["house","paper","holder","signer","day","row","ways"]
abbrev zag:List Str:=["ways","number","holder","signer","others"]
abbrev zah:List Str:=["ways","number","holder","signer"]
abbrev zai:List Str:=["paper","person"]
abbrev zaj:List Str:=["house","paper","day","over"]
abbrev zak:List Str:=["house","paper","day"]
abbrev zal:List Str:=["ways","holder","signer"]
abbrev zam:List Str:=["ways","steps","person"]
abbrev zan:List Str:=["ways","signer","steps","newest","many","person"]
abbrev zao:List Str:=["ways","signer"]
abbrev zap:List Str:=["thing"]
abbrev zaq:List Str:=["keys"]
abbrev zar:List Str:=["house","paper","holder","signer","day","thing","ways"]
abbrev zas:List Str:=["house","paper","holder","signer","day","thing"]
abbrev zat:List Str:=["ways","holder","numbers"]
abbrev zau:List Str:=["house","part","sides","holder","signer","day"]
abbrev zav:List Str:=["house","bounds"]
abbrev zaw:List Str:=["house"]
abbrev zax:List Str:=["_law_cell","_law_k"]
abbrev zay:List Str:=["_law_script","_law_k"]
abbrev zaz:List Str:=["_law_left","_law_many"]
abbrev za0:List Str:=["_law_found","_law_due"]
abbrev za1:List Str:=["_law_left","_law_things"]
abbrev za2:List Str:=["_law_parts","_law_part"]
abbrev za3:List Str:=["_law_parts","_law_leaves"]
abbrev za4:List Str:=["_law_parts","_law_paper","_law_day","_law_leave"]
abbrev za5:List Str:=["_law_parts","_law_leaves","_law_paper","_law_holder","_law_day","_law_steps","_law_best","_law_turn","_law_leave","_law_row","_law_old"]
abbrev za6:List Str:=["_law_parts","_law_leaves","_law_paper","_law_holder","_law_day"]
abbrev za7:List Str:=["_law_parts","_law_leaves","_law_paper","_law_holder","_law_day","_law_best","_law_steps","_law_turn","_law_leave"]
abbrev za8:List Str:=["_law_left","_law_many","_law_letters","_law_found","_law_stem","_law_at","_law_first","_law_k"]
abbrev za9:List Str:=["_law_left","_law_many","_law_parts","_law_people","_law_leaves","_law_paper","_law_day","_law_seats","_law_ranks","_law_house","_law_some","_law_holder","_law_rows","_law_wide","_law_signer","_law_row","_law_due","_law_leave","_law_without"]
abbrev zba:List Str:=["_law_script"]
abbrev zbb:List Str:=["number","giver","taker"]
abbrev zbc:List Str:=["number"]
abbrev zbd:List Str:=["_law_leave"]
abbrev zbe:List Str:=["_law_parts","_law_paper","_law_day"]
def top(i:Nat):cX:=PySem.Challenge.pw_rankseals_k24_sixteen_leaves.main.body.getD i (.Pass ⟨0,0,0,0⟩)
abbrev Kg:cX:=top 1
theorem J4:gA zaa zab (cG Kg):=⟨rfl,rfl,rfl,by decide +kernel,rfl,by decide +kernel,by decide +kernel⟩
abbrev Uw:cX:=top 3
theorem ake:gA zac zac (cG Uw):=⟨rfl,rfl,rfl,by decide +kernel,rfl,by decide +kernel,by decide +kernel⟩
abbrev Kh:cX:=top 4
theorem ZL:gA zad zae (cG Kh):=⟨rfl,rfl,rfl,by decide +kernel,rfl,by decide +kernel,by decide +kernel⟩
abbrev JR:cX:=top 5
theorem Qu:gA zaf zac (cG JR):=⟨rfl,rfl,rfl,by decide +kernel,rfl,by decide +kernel,by decide +kernel⟩
abbrev Kz:cX:=top 6
theorem Z8:gA zag zah (cG Kz):=⟨rfl,rfl,rfl,by decide +kernel,rfl,by decide +kernel,by decide +kernel⟩
abbrev Tt:cX:=top 7
theorem ajm:gA zai zai (cG Tt):=⟨rfl,rfl,rfl,by decide +kernel,rfl,by decide +kernel,by decide +kernel⟩
abbrev Ln:cX:=top 8
theorem aaJ:gA zaj zak (cG Ln):=⟨rfl,rfl,rfl,by decide +kernel,rfl,by decide +kernel,by decide +kernel⟩
abbrev RM:cX:=top 9
theorem Gr:gA (["ways","holder","signer","steps","row","number"]:List Str) zal (cG RM):=⟨rfl,rfl,rfl,by decide +kernel,rfl,by decide +kernel,by decide +kernel⟩
abbrev Kl:cX:=top 10
theorem ah1:gA zam zam (cG Kl):=⟨rfl,rfl,rfl,by decide +kernel,rfl,by decide +kernel,by decide +kernel⟩
abbrev K9:cX:=top 11
theorem zU:gA zan zao (cG K9):=⟨rfl,rfl,rfl,by decide +kernel,rfl,by decide +kernel,by decide +kernel⟩
abbrev RN:cX:=top 13
theorem aiq:gA zap zap (cG RN):=⟨rfl,rfl,rfl,by decide +kernel,rfl,by decide +kernel,by decide +kernel⟩
abbrev KC:cX:=top 15
theorem air:gA zaq zaq (cG KC):=⟨rfl,rfl,rfl,by decide +kernel,rfl,by decide +kernel,by decide +kernel⟩
abbrev Mq:cX:=top 17
theorem abh:gA zar zas (cG Mq):=⟨rfl,rfl,rfl,by decide +kernel,rfl,by decide +kernel,by decide +kernel⟩
abbrev Jz:cX:=top 18
theorem agD:gA zap zap (cG Jz):=⟨rfl,rfl,rfl,by decide +kernel,rfl,by decide +kernel,by decide +kernel⟩
abbrev Rt:cX:=top 19
theorem CK:gA (["ways","holder","numbers","person","number","giver","taker"]:List Str) zat (cG Rt):=⟨rfl,rfl,rfl,by decide +kernel,rfl,by decide +kernel,by decide +kernel⟩
abbrev Tu:cX:=top 22
theorem La:gA (["house","part","sides","holder","signer","day","asker","getter","amount"]:List Str) zau (cG Tu):=⟨rfl,rfl,rfl,by decide +kernel,rfl,by decide +kernel,by decide +kernel⟩
abbrev J5:cX:=top 23
theorem Zr:gA zav zaw (cG J5):=⟨rfl,rfl,rfl,by decide +kernel,rfl,by decide +kernel,by decide +kernel⟩
abbrev V7:cX:=top 25
theorem adm:gA (["_law_cell","_law_k","_law_m"]:List Str) zax (cG V7):=⟨rfl,rfl,rfl,by decide +kernel,rfl,by decide +kernel,by decide +kernel⟩
abbrev Rb:cX:=top 26
theorem Zt:gA (["_law_script","_law_k","_law_cell"]:List Str) zay (cG Rb):=⟨rfl,rfl,rfl,by decide +kernel,rfl,by decide +kernel,by decide +kernel⟩
abbrev Vn:cX:=top 27
theorem ab1:gA (["_law_left","_law_many","_law_digit"]:List Str) zaz (cG Vn):=⟨rfl,rfl,rfl,by decide +kernel,rfl,by decide +kernel,by decide +kernel⟩
abbrev Hq:cX:=top 28
theorem alq:gA za0 za0 (cG Hq):=⟨rfl,rfl,rfl,by decide +kernel,rfl,by decide +kernel,by decide +kernel⟩
abbrev RP:cX:=top 29
theorem Z9:gA (["_law_left","_law_things","_law_rest","_law_found"]:List Str) za1 (cG RP):=⟨rfl,rfl,rfl,by decide +kernel,rfl,by decide +kernel,by decide +kernel⟩
abbrev Rc:cX:=top 30
theorem QX:gA (["_law_parts","_law_part","_law_found"]:List Str) za2 (cG Rc):=⟨rfl,rfl,rfl,by decide +kernel,rfl,by decide +kernel,by decide +kernel⟩
abbrev RQ:cX:=top 31
theorem ais:gA za3 za3 (cG RQ):=⟨rfl,rfl,rfl,by decide +kernel,rfl,by decide +kernel,by decide +kernel⟩
abbrev Vo:cX:=top 32
theorem alr:gA za4 za4 (cG Vo):=⟨rfl,rfl,rfl,by decide +kernel,rfl,by decide +kernel,by decide +kernel⟩
abbrev KD:cX:=top 33
theorem Gs:gA za5 za6 (cG KD):=⟨rfl,rfl,rfl,by decide +kernel,rfl,by decide +kernel,by decide +kernel⟩
abbrev Km:cX:=top 34
theorem Gk:gA za7 za6 (cG Km):=⟨rfl,rfl,rfl,by decide +kernel,rfl,by decide +kernel,by decide +kernel⟩
abbrev J6:cX:=top 35
theorem CG:gA za8 zaz (cG J6):=⟨rfl,rfl,rfl,by decide +kernel,rfl,by decide +kernel,by decide +kernel⟩
abbrev Vp:cX:=top 36
theorem qO:gA (["_law_left","_law_many","_law_names","_law_parts","_law_deep","_law_k","_law_people","_law_day","_law_paper","_law_leaves","_law_number","_law_over","_law_at","_law_part","_law_to","_law_days"]:List Str) zaz (cG Vp):=⟨rfl,rfl,rfl,by decide +kernel,rfl,by decide +kernel,by decide +kernel⟩
abbrev Gm:cX:=top 37
theorem mz:gA za9 zaz (cG Gm):=⟨rfl,rfl,rfl,by decide +kernel,rfl,by decide +kernel,by decide +kernel⟩
abbrev Wu:cX:=top 38
theorem aoG:gA zba zba (cG Wu):=⟨rfl,rfl,rfl,by decide +kernel,rfl,by decide +kernel,by decide +kernel⟩
structure Txt(K:aJ)(mg:Str->Option Value)(cu:Tok):Prop where
 Oc:mg "abs"=aj
 Ib:mg "all"=aj
 Ea:mg "bool"=aj
 Em:mg "int"=aj
 nq:mg "isinstance"=aj
 pK:mg "len"=aj
 Ak:mg "list"=aj
 Wv:mg "max"=aj
 Ie:mg "min"=aj
 vQ:mg "range"=aj
 tM:mg "sorted"=aj
 Ig:mg "str"=aj
 vR:mg "tuple"=aj
 Od:mg "zip"=aj
 Zu:mg "GREATEST_SUM"=aa (.int 1000000000 cu)
@[reducible] def Za:FT:=(dU (aR jM (aH 1) (aH 2)))
@[reducible] def Zb:FS:=(bG (sO 3 (aM 1)) (dH 1 (aR bI (aH 2) (aH 1))))
@[reducible] def QH:FE:=(aM 0)
@[reducible] def QJ:FE:=(aM 1)
@[reducible] def Ru:FS:=(bG (dH 2 (zm (uC (aA (aR bI (aH 0) (aA (aO (.int 0)))))) (.many 2) iZ QH QJ [])) (bG (dH 3 (jD aW)) (bG (uA Za Zb) (oJ 3))))
def Ko:FN:=fN 2 4 Ru
@[reducible] def Tv:FS:=(dX (aR jM (aH 1) (aA (gG (aH 0) (gj (aA (aO (.int 2)))) (gj (aA (aO (.int 4))))))))
def qM:FN:=fN 2 2 Tv
@[reducible] def Rv:FT:=(qU (dU (aR jM (aH 3) (aH 7))) (qU (dU (yO rm rm (aH 4) (aH 8) (aH 5))) (qU (dU (aR rm (aA (aR bI (aH 9) (aA (aO (.int 1))))) (aH 6))) (qU (qj (jN (aA (bN qM (az (aM 9) (az (aM 1) aW)))))) (qj (jN (aA (bN qM (az (aM 9) (az (aM 2) aW))))))))))
@[reducible] def Rw:FE:=(ji (az (aM 0) (az (aM 1) (az (aM 2) aW))))
@[reducible] def Tw:FS:=(bG (dH 3 (bN Ko (az (aM 0) (az (aR bI (aH 1) (aA (aO (.int 0)))) aW)))) (dX (lY (uC (aA (aR bI (aH 0) (aA (aO (.int 2)))))) (.many 7) Rv Rw [3,2,1])))
def tK:FN:=fN 3 4 Tw
@[reducible] def ZM:FS:=(oN 2 (aH 5) (aM 4))
@[reducible] def ZP:FT:=(qU (dU (aR jM (aH 2) (aH 3))) (dU (aR nD (aH 1) (aH 4))))
@[reducible] def ZQ:FE:=(aM 1)
@[reducible] def ZR:FT:=(jN (aH 3))
@[reducible] def ZS:FS:=(bG (Om 4 (aA (aO (.int 1)))) (bG (dH 3 (Jl (uC (aH 0)) (.many 3) ZP ZQ [3,2])) (jt (iV (aM 3)) (dz 5) ZM)))
@[reducible] def SJ:FS:=(bG (dH 2 (u9 (aH 1) (aO (.int 0)))) (bG (dH 3 (jD (az (aM 1) aW))) (bG (dH 4 (aO (.int 0))) (bG (uA ZR ZS) (oJ 2)))))
def Df:FN:=fN 2 6 SJ
@[reducible] def Zc:FT:=(qU (dU (aR mW (aH 1) (aH 3))) (qU (dU (aR jM (aH 2) (aH 4))) (dU (aR Bo (aA (aR bI (aH 4) (aH 2))) (aA (aR bI (aH 4) (aH 3)))))))
@[reducible] def Zd:FE:=(ji (az (aM 0) (az (aM 2) aW)))
@[reducible] def Rx:FS:=(dX (eY Nv (dM (aA (lY (uC (aH 0)) (.many 3) Zc Zd [2,1])) eX)))
def Kq:FN:=fN 3 3 Rx
@[reducible] def Zv:FT:=(dU (aR mK (aH 1) (aH 2)))
@[reducible] def Zw:FS:=(bG (Bq (bN Kq (az (aM 0) (az (aM 3) (az (aM 1) aW)))) (BR 2 (qe (dz 5) (qe (dz 1) Ba)))) (sO 4 (aM 5)))
@[reducible] def KH:FS:=(bG (dH 3 (bN Df (az (aM 0) (az (aM 2) aW)))) (bG (gW (dU (aR nD (aH 1) (aH 3))) (dX (aO .none)) iR) (bG (dH 4 (jD aW)) (bG (uA Zv Zw) (oJ 4)))))
def CW:FN:=fN 3 6 KH
@[reducible] def G5:FS:=(bG (gW (qt (jN (aA (bN qM (az (aM 1) (az (aM 2) aW))))) (jN (aA (bN qM (az (aM 1) (az (aM 3) aW)))))) (dX (aO .none)) iR) (dX (bN CW (az (bN tK (az (aM 0) (az (aM 1) (az (aM 4) aW)))) (az (aM 2) (az (aM 3) aW))))))
def xY:FN:=fN 5 5 G5
@[reducible] def QZ:FT:=(dU (aR mK (aA (aR bI (aH 0) (aA (aO (.int 0))))) (aH 1)))
@[reducible] def Q0:FE:=(aM 0)
@[reducible] def KJ:FS:=(bG (dH 4 (lY (iB (aH 0)) .one QZ Q0 [1])) (dX (aR pD (aA (bN CW (az (aM 4) (az (aM 2) (az (aM 3) aW))))) (aA (aO .none)))))
def Gw:FN:=fN 4 5 KJ
@[reducible] def Yr:FT:=(jN (aA (bN Gw (az (aM 1) (az (aM 0) (az (aM 2) (az (aM 3) aW)))))))
@[reducible] def Ys:FE:=(aM 0)
@[reducible] def JS:FS:=(bG (dH 5 (bN xY (az (aM 0) (az (aM 1) (az (aM 2) (az (aM 3) (az (aM 4) aW))))))) (bG (gW (dU (aR pD (aH 5) (aA (aO .none)))) (dX (jD aW)) iR) (bG (dH 6 (bN tK (az (aM 0) (az (aM 1) (az (aM 4) aW))))) (dX (lY (iB (aA (eY Hj (dM (aH 5) eX)))) .one Yr Ys [6,2,3])))))
def JT:FN:=fN 5 7 JS
@[reducible] def Ze:FE:=(ji (az (aM 0) (az (aM 2) (az (aM 1) aW))))
@[reducible] def Kr:FS:=(bG (gW (jN (aA (bN qM (az (aM 1) (az (aM 2) aW))))) (dX (jD aW)) iR) (bG (dH 4 (lY (uC (aA (bN tK (az (aM 0) (az (aM 1) (az (aM 3) aW)))))) (.many 3) iZ Ze [])) (dX (eY tR (dM (aA (bN Df (az (aM 4) (az (aM 2) aW)))) eX)))))
def Gu:FN:=fN 4 5 Kr
@[reducible] def RT:FS:=(dX (lD (kY "int" (aH 0)) (Ay (kY "bool" (aH 0)))))
def KN:FN:=fN 1 1 RT
@[reducible] def Zx:FE:=(aR Bo (aH 0) (aH 1))
@[reducible] def RV:FS:=(dX (eY wH (dM (aA (lY (BX (dM (aH 0) (dM (aA (gG (aH 0) (gj (aA (aO (.int 1)))) iG)) eX))) (.many 2) iZ Zx [])) eX)))
def KQ:FN:=fN 1 1 RV
@[reducible] def X5:FE:=(bN KN (az (aM 0) aW))
@[reducible] def Qf:FS:=(bG (gW (qt (qj (jN (aA (kY "list" (aH 0))))) (qj (jN (aA (eY wH (dM (aA (lY (iB (aH 0)) .one iZ X5 [])) eX)))))) (dX (aO (.bool aF))) iR) (dX (bN KQ (az (eY Hj (dM (aH 0) eX)) aW))))
def JB:FN:=fN 1 1 Qf
@[reducible] def Zf:FS:=(bG (gW (dU (aR nD (aH 4) (aH 0))) (dX (aO .none)) iR) (bG (Bq (aR bI (aH 0) (aH 4)) (BR 2 (qe (dz 5) (qe (dz 6) Ba)))) (bG (gW (dU (aR mK (aH 5) (aH 3))) (dX (aO .none)) iR) (dH 3 (aM 6)))))
@[reducible] def Ks:FS:=(bG (dH 3 (aM 1)) (bG (jt (iV (aM 2)) (dz 4) Zf) (oJ 3)))
def Ku:FN:=fN 3 7 Ks
@[reducible] def KR:FE:=(aM 0)
@[reducible] def KY:FE:=(ji (az (aM 1) (az (aM 2) aW)))
@[reducible] def xZ:FS:=(bG (gW (qt (jN (aA (bN qM (az (aM 1) (az (aM 2) aW))))) (qt (jN (aA (bN qM (az (aM 1) (az (aM 3) aW))))) (qj (jN (aA (bN JB (az (aM 5) aW))))))) (dX (aO (.bool aF))) iR) (bG (gW (dU (aR mW (aH 2) (aH 3))) (dX (aR mW (aH 5) (aA (jD aW)))) iR) (bG (dH 6 (zm (uC (aA (bN tK (az (aM 0) (az (aM 1) (az (aM 4) aW)))))) (.many 3) iZ KR KY [])) (dX (aR mW (aA (bN Ku (az (aM 6) (az (aM 2) (az (aM 5) aW))))) (aH 3))))))
def Mr:FN:=fN 6 7 xZ
@[reducible] def YW:FE:=(eY HD (dM (aA (aR bI (aH 0) (aA (aO (.int 6))))) (dM (aA (aO (.int 1000000000))) eX)))
@[reducible] def Rf:FS:=(bG (dH 1 (lY (iB (aA (aR bI (aH 0) (aA (aO (.int 2)))))) .one iZ YW [])) (dX (V5 (aA (aR gq (aA (jD (az (aO (.int 1000000000)) aW))) (aH 1))) (aA (aO (.bool ao))))))
def J7:FN:=fN 1 2 Rf
@[reducible] def aaa:FS:=(gW (dU (aR yu (aA (bN xY (az (aM 0) (az (ji (az (aM 1) (az (aM 8) (az (aM 6) (az (aM 7) aW))))) (az (aM 3) (az (aM 4) (az (aM 5) aW))))))) (aA (aO .none)))) (oJ 8) iR)
@[reducible] def Lp:FS:=(bG (Bq (aM 2) (BR 2 (qe (dz 6) (qe (dz 7) Ba)))) (bG (jt (iV (bN J7 (az (aM 0) aW))) (dz 8) aaa) (dX (aO .none))))
def GD:FN:=fN 6 9 Lp
@[reducible] def V8:FS:=(bG (dH 2 (aR qi (aA (aR qT (aA (aR gq (aA (aR gq (aA (aR qi (aH 0) (aA (aO (.int 2147483629))))) (aA (aR qT (aA (aR qT (aH 1) (aH 1))) (aA (aO (.int 7919))))))) (aA (aO (.int 11))))) (aA (aO (.int 48271))))) (aA (aO (.int 2147483647))))) (dX (aR qi (aA (aR qT (aH 2) (aH 2))) (aA (aO (.int 1999999973))))))
def HJ:FN:=fN 2 3 V8
@[reducible] def Rg:FS:=(bG (dH 2 (vf (dU (aR Bo (aH 1) (aA (Ei 0)))) (Ir 0 (aH 1)) (aO (.int 0)))) (dX (jD (az (aR bI (aA (jD (az (aO (.int 0)) (az (eY HS (dM (aH 2) eX)) aW)))) (aA (eY Bb (dM (aA (aR Oh (aA (eY HS (dM (aH 2) eX))) (aA (aR rZ (aA (aO (.int 10))) (aA (aO (.int 18))))))) eX)))) (az (aR gq (aH 2) (aA (aR qT (aA (aO (.int 1000003))) (aH 1)))) (az (aO (.int 0)) aW))))))
def vH:FN:=fN 2 3 Rg
@[reducible] def M3:FS:=(bG (oN 0 (aA (aO (.int 2))) (aR gq (aA (uq 0 (aA (aO (.int 2))))) (aA (aO (.int 1))))) (bG (gW (dU (aR Bp (aA (uq 0 (aA (aO (.int 0))))) (aA (aO (.int 0))))) (bG (dH 2 (aR qi (aA (uq 0 (aA (aO (.int 0))))) (aH 1))) (bG (oN 0 (aA (aO (.int 0))) (aR DP (aA (uq 0 (aA (aO (.int 0))))) (aH 1))) (oJ 2))) iR) (dX (aR qi (aA (aR DP (aA (bN HJ (az (bN HJ (az (uq 0 (aA (aO (.int 1)))) (az (uq 0 (aA (aO (.int 2)))) aW))) (az (aR gq (aA (uq 0 (aA (aO (.int 2))))) (aA (aO (.int 64)))) aW)))) (aA (aO (.int 64))))) (aH 1)))))
def gJ:FN:=fN 2 3 M3
@[reducible] def SM(Vq:FN):FE:=(bN Vq (az (aM 0) (az (aM 1) aW)))
@[reducible] def Du(Vq:FN):FS:=(bG (gW (jN (aA (Bc "list" "tuple" (aH 1)))) (bG (gW (qt (dU (aR mK (aA (kY "list" (aH 0))) (aA (kY "list" (aH 1))))) (dU (aR mK (aA (kY "tuple" (aH 0))) (aA (kY "tuple" (aH 1)))))) (dX (aO (.bool aF))) iR) (dX (lD (aR mW (aA (eY mH (dM (aH 0) eX))) (aA (eY mH (dM (aH 1) eX)))) (eY wH (dM (aA (lY (BX (dM (aH 0) (dM (aH 1) eX))) (.many 2) iZ (SM Vq) [])) eX))))) iR) (bG (gW (qt (dU (aR pD (aH 1) (aA (aO .none)))) (jN (aA (kY "str" (aH 1))))) (dX (lD (aR mW (aH 0) (aH 1)) (aR mW (aA (kY "str" (aH 0))) (aA (kY "str" (aH 1)))))) iR) (bG (gW (jN (aA (kY "bool" (aH 1)))) (dX (lD (kY "bool" (aH 0)) (aR mW (aH 0) (aH 1)))) iR) (dX (lD (kY "int" (aH 0)) (lD (Ay (kY "bool" (aH 0))) (aR mW (aH 0) (aH 1))))))))
def lR:Nat->FN
 |0=>Wq
 |n+1=>fN 2 2 (Du (lR n))
@[reducible] def Zy:FT:=(dU (aR mK (aH 2) (aA (jD aW))))
@[reducible] def Zz:FS:=(Wt 3 2 (aA (bN gJ (az (aM 0) (az (eY mH (dM (aH 2) eX)) aW)))))
@[reducible] def RW:FS:=(bG (mX [2,3] (jC (eY MK (dM (aH 1) eX)) (jC (jD aW) aW))) (bG (uA Zy Zz) (oJ 3)))
def Gx:FN:=fN 2 4 RW
@[reducible] def YX:FT:=(dU (aR jM (aH 1) (aH 0)))
@[reducible] def YZ:FS:=(bG (sO 2 (aM 1)) (dH 1 (aR bI (aH 0) (aH 1))))
@[reducible] def Rh:FS:=(bG (dH 2 (jD aW)) (bG (uA YX YZ) (oJ 2)))
def CN:FN:=fN 2 3 Rh
@[reducible] def R0:FS:=(dX (ji (az (eY vO (dM (aA (Vm (aH 0))) eX)) (az (ji aW) (az (eY vO (dM (aH 1) eX)) (az (ji aW) aW))))))
def KZ:FN:=fN 2 2 R0
@[reducible] def Dv:FS:=(bG (gW (qt (dU (aR jM (aA (aR bI (aH 3) (aA (aO (.int 1))))) (aA (gG (aH 1) (gj (aA (aO (.int 2)))) iG)))) (qt (dU (aR jM (aA (aR bI (aH 3) (aA (aO (.int 2))))) (aA (gG (aH 1) (gj (aA (aO (.int 2)))) iG)))) (dU (aR nD (aA (aR bI (aH 3) (aA (aO (.int 3))))) (aA (bN CN (az (aM 0) (az (aR bI (aH 1) (aA (aO (.int 0)))) aW)))))))) (dX (aO (.bool aF))) iR) (dX (lD (yO rm rm (aA (aR bI (aH 3) (aA (aO (.int 4))))) (aH 2) (aA (aR bI (aH 3) (aA (aO (.int 5)))))) (aR rm (aA (aR bI (aH 1) (aA (aO (.int 1))))) (aA (aR bI (aH 3) (aA (aO (.int 6)))))))))
def Dw:FN:=fN 4 4 Dv
@[reducible] def Q3:FS:=(gW (dU (aR jM (aA (aR bI (aH 8) (aA (aO (.int 1))))) (aH 6))) (bG (mX [9,10] (jC (aR gq (aA (aR bI (aH 6) (aA (aR bI (aH 8) (aA (aO (.int 1))))))) (aA (jD (az (aR bI (aH 8) (aA (aO (.int 0)))) aW)))) (jC (oO (aH 6) (aA (aR bI (aH 8) (aA (aO (.int 2))))) (aO .none)) aW))) (gW (qt (dU (aR pD (aH 10) (aA (aO .none)))) (dU (aR Ia (aA (ji (az (eY mH (dM (aH 9) eX)) (az (aM 9) aW)))) (aA (ji (az (eY mH (dM (aH 10) eX)) (az (aM 10) aW))))))) (oN 6 (aA (aR bI (aH 8) (aA (aO (.int 2))))) (aM 9)) iR)) iR)
@[reducible] def ZC:FS:=(jt (iV (aM 5)) (dz 8) Q3)
@[reducible] def Q4:FT:=(jN (aA (bN Dw (az (aM 1) (az (aM 2) (az (aM 3) (az (aM 0) aW)))))))
@[reducible] def Q5:FE:=(aM 0)
@[reducible] def K1:FS:=(bG (gW (dU (aR jM (aH 3) (aA (gG (aH 2) (gj (aA (aO (.int 2)))) iG)))) (dX vX) iR) (bG (mX [5,6] (jC (lY (iB (aH 1)) .one Q4 Q5 [0,2,4]) (jC (u9 (aH 3) (jD aW)) aW))) (bG (jt (qy (aA (eY mH (dM (aH 5) eX)))) (dz 7) ZC) (oJ 6))))
def zV:FN:=fN 5 11 K1
@[reducible] def FW:FS:=(gW (dU (aR jM (aA (aR bI (aH 8) (aA (aO (.int 1))))) (aH 5))) (oN 5 (aA (aR bI (aH 8) (aA (aO (.int 2))))) (eY Nr (dM (aA (oO (aH 5) (aA (aR bI (aH 8) (aA (aO (.int 2))))) (Ep (aA (aO (.int 1)))))) (dM (aA (eY HD (dM (aA (aR bI (aH 5) (aA (aR bI (aH 8) (aA (aO (.int 1))))))) (dM (aA (aR bI (aH 8) (aA (aO (.int 6))))) eX)))) eX)))) iR)
@[reducible] def Zg:FS:=(jt (iV (aM 6)) (dz 8) FW)
@[reducible] def FZ:FT:=(jN (aA (bN Dw (az (aM 1) (az (aR gq (aA (ji (az (aR bI (aH 2) (aA (aO (.int 0)))) (az (aO (.int 0)) aW)))) (aA (gG (aH 2) (gj (aA (aO (.int 2)))) iG))) (az (aM 3) (az (aM 0) aW)))))))
@[reducible] def Ga:FE:=(aM 0)
@[reducible] def aab:FS:=(bG (dH 5 (vf (dU (aR nD (aH 3) (aA (gG (aH 2) (gj (aA (aO (.int 2)))) iG)))) (u9 (aH 3) (aR rZ (aA (aO (.int 10))) (aA (aO (.int 9))))) vX)) (bG (dH 6 (lY (iB (aH 1)) .one FZ Ga [0,2,4])) (bG (jt (qy (aA (eY mH (dM (aH 6) eX)))) (dz 7) Zg) (oJ 5))))
def Kv:FN:=fN 5 9 aab
@[reducible] def Qv:FS:=(sO 3 (aR gq (aA (aR gq (aA (gG (aH 4) iG (gj (aH 5)))) (aA (aR bI (aH 2) (aA (aR qi (aA (aR gq (aH 6) (aA (aR qT (aA (aO (.int 5))) (aH 7))))) (aA (aO (.int 26))))))))) (aA (gG (aH 4) (gj (aH 5)) iG))))
@[reducible] def Y0:FE:=(aR bI (aH 1) (aA (bN gJ (az (aM 2) (az (aO (.int 26)) aW)))))
@[reducible] def Ri:FS:=(bG (mX [2,3] (jC (aO (.str (dO "abcdefghijklmnopqrstuvwxyz"))) (jC (jD aW) aW))) (bG (dH 4 (N7 (aA (aO (.str (dO "")))) (aA (lY (qy (aA (aO (.int 7)))) .one iZ Y0 [2,0])))) (bG (mX [5,6] (jC (bN gJ (az (aM 0) (az (aO (.int 8)) aW))) (jC (bN gJ (az (aM 0) (az (aO (.int 26)) aW))) aW))) (bG (jt (qy (aH 1)) (dz 7) Qv) (oJ 3)))))
def J8:FN:=fN 2 8 Ri
@[reducible] def SN:FS:=(bG (dH 10 (aR gq (aA (aR gq (aH 10) (aA (aO (.int 1))))) (aA (bN gJ (az (aM 0) (az (aO (.int 60)) aW)))))) (bG (mX [12,13] (jC (bN gJ (az (aM 0) (az (eY mH (dM (aH 6) eX)) aW))) (jC (aR bI (aH 2) (aA (bN gJ (az (aM 0) (az (aO (.int 8)) aW))))) aW))) (bG (dH 14 (aR qi (aA (aR gq (aA (aR gq (aH 12) (aA (aO (.int 1))))) (aA (aR qT (aA (bN gJ (az (aM 0) (az (aO (.int 2)) aW)))) (aA (bN gJ (az (aM 0) (az (aR Aw (aA (eY mH (dM (aH 6) eX))) (aA (aO (.int 1)))) aW)))))))) (aA (eY mH (dM (aH 6) eX))))) (bG (gW (dU (aR Bp (aA (bN gJ (az (aM 0) (az (aO (.int 4)) aW)))) (aA (aO (.int 0))))) (dH 13 (aR bI (aH 11) (aA (bN gJ (az (aM 0) (az (eY mH (dM (aH 11) eX)) aW)))))) iR) (bG (dH 15 (aR bI (aA (jD (az (ji (az (aO (.int 0)) (az (aO (.int 99999)) aW))) (az (ji (az (aM 7) (az (aM 7) aW))) (az (ji (az (aO (.int 0)) (az (aM 7) aW))) (az (ji (az (aM 7) (az (aO (.int 99999)) aW))) aW)))))) (aA (bN gJ (az (aM 0) (az (aO (.int 4)) aW)))))) (sO 9 (aR gq (aA (aR gq (aA (ji (az (aM 10) (az (aR bI (aH 6) (aH 12)) (az (aR bI (aH 6) (aH 14)) (az (aM 13) aW)))))) (aH 15))) (aA (ji (az (aR Aw (aA (aR rZ (aA (aO (.int 10))) (aA (aO (.int 9))))) (aA (bN gJ (az (aM 0) (az (aO (.int 4)) aW))))) aW))))))))))
@[reducible] def Lb:FS:=(oN 3 (aA (aR bI (aH 2) (aH 5))) (vf (dU (aR Bp (aH 5) (aA (aO (.int 0))))) (aR bI (aA (jD (az (aR bI (aH 2) (aA (aR Aw (aH 5) (aA (aO (.int 1)))))) (az (aR bI (aH 2) (aA (aO (.int 0)))) (az (aO (.str (dO ""))) aW))))) (aH 4)) (aO (.str (dO "")))))
@[reducible] def Vr:FS:=(bG (dH 2 (bN J8 (az (aM 0) (az (aO (.int 26)) aW)))) (bG (mX [3,4] (jC vX (jC (bN gJ (az (aM 0) (az (aO (.int 3)) aW))) aW))) (bG (jt (qy (aA (aO (.int 8)))) (dz 5) Lb) (bG (mX [6,7] (jC (gG (aH 2) (gj (aA (aO (.int 8)))) (gj (aA (aR gq (aA (aO (.int 13))) (aA (bN gJ (az (aM 0) (az (aO (.int 13)) aW)))))))) (jC (aR bI (aA (jD (az (aO (.int 0)) (az (aO (.int 99999)) (az (bN gJ (az (aM 0) (az (aO (.int 100000)) aW))) aW))))) (aA (bN gJ (az (aM 0) (az (aO (.int 3)) aW))))) aW))) (bG (dH 8 (ji (az (aR bI (aH 2) (aA (aR bI (aA (jD (az (aO (.int 7)) (az (bN gJ (az (aM 0) (az (aO (.int 8)) aW))) aW)))) (aA (bN gJ (az (aM 0) (az (aO (.int 2)) aW))))))) (az (aR Aw (aA (aR rZ (aA (aO (.int 10))) (aA (aO (.int 9))))) (aA (bN gJ (az (aM 0) (az (aO (.int 3)) aW))))) (az (aO (.str (dO "a"))) (az (aO (.str (dO "z"))) aW)))))) (bG (mX [9,10,11] (jC (jD aW) (jC (aO (.int 0)) (jC (bN CN (az (aM 3) (az (aR bI (aH 8) (aA (aO (.int 0)))) aW))) aW)))) (bG (jt (qy (aH 1)) (dz 5) SN) (dX (ji (az (aM 3) (az (aM 6) (az (aM 9) (az (aM 8) (az (aM 7) aW))))))))))))))
def M4:FN:=fN 2 16 Vr
@[reducible] def Qw:FT:=(dU (aR mK (aH 0) (aH 1)))
@[reducible] def Qx:FE:=(aM 0)
@[reducible] def Qy:FS:=(bG (dH 18 (bN zV (az (aM 2) (az (lY (iB (aH 4)) .one Qw Qx [17]) (az (aM 5) (az (aM 11) (az (aM 6) aW))))))) (dH 16 (aR gq (aH 16) (aA (aR HF (aA (jD (az (aR bI (aH 17) (aA (aO (.int 0)))) aW))) (aA (eY Bb (dM (aA (lD (aR jM (aH 14) (aH 12)) (aR nD (aH 14) (aH 18)))) eX))))))))
@[reducible] def Qz:FS:=(bG (dH 15 (oO (aH 12) (aH 14) (aO .none))) (bG (gW (qj (jN (aA (bN (lR 3) (az (bN xY (az (aM 9) (az (aM 5) (az (aM 11) (az (aM 14) (az (aM 6) aW)))))) (az (aM 15) aW)))))) (dX (aO (.bool aF))) iR) (bG (gW (qj (jN (aA (bN (lR 3) (az (bN GD (az (aM 9) (az (aR bI (aH 5) (aA (aO (.int 0)))) (az (gG (aH 5) (gj (aA (aO (.int 2)))) iG) (az (aM 11) (az (aM 14) (az (aM 6) aW))))))) (az (oO (aH 13) (aH 14) (aO .none)) aW)))))) (dX (aO (.bool aF))) iR) (gW (qU (dU (aR yu (aH 15) (aA (aO .none)))) (dU (aR Nx (aA (bN Mr (az (aM 9) (az (aM 5) (az (aM 11) (az (aM 14) (az (aM 6) (az (aM 15) aW)))))))) (aA (aO (.bool ao)))))) (dX (aO (.bool aF))) iR))))
@[reducible] def QB:FS:=(bG (mX [12,13] (jC (bN zV (az (aM 2) (az (aM 4) (az (aM 5) (az (aM 11) (az (aM 6) aW)))))) (jC (bN Kv (az (aM 2) (az (aM 4) (az (aM 5) (az (aM 11) (az (aM 6) aW)))))) aW))) (bG (gW (qj (jN (aA (bN (lR 3) (az (bN Gu (az (aM 9) (az (aM 5) (az (aM 11) (az (aM 6) aW))))) (az (eY tR (dM (aH 12) eX)) aW)))))) (dX (aO (.bool aF))) iR) (bG (jt (iV (gG (aH 3) iG (gj (aA (aO (.int 9)))))) (dz 14) Qz) (bG (mX [14,16] (jC (aR bI (aH 3) (aA (bN gJ (az (aM 0) (az (eY mH (dM (aH 3) eX)) aW))))) (jC (jD aW) aW))) (bG (jt (iV (aM 4)) (dz 17) Qy) (gW (qj (jN (aA (bN (lR 3) (az (bN JT (az (aM 9) (az (aM 5) (az (aM 11) (az (aM 14) (az (aM 6) aW)))))) (az (aM 16) aW)))))) (dX (aO (.bool aF))) iR))))))
@[reducible] def QC:FE:=(ji (az (aM 0) (az (aR bI (aH 1) (aA (aR qi (aH 0) (aA (aO (.int 5)))))) (az (aR gq (aA (aO (.int 1))) (aA (aR qi (aH 0) (aA (aO (.int 9)))))) (az (aR bI (aA (eY tR (dM (aH 2) eX))) (aA (aR qi (aH 0) (aA (aO (.int 8)))))) (az (aO (.int 0)) (az (aO (.int 99999)) aW)))))))
@[reducible] def Rj:FS:=(bG (Bq (bN M4 (az (aM 0) (az (aM 1) aW))) (BR 5 (qe (dz 2) (qe (dz 3) (qe (dz 4) (qe (dz 5) (qe (dz 6) Ba))))))) (bG (dH 7 (eY vO (dM (aA (jD (az (ji (az (aO (.int 9)) (az (aO (.str (dO ""))) aW))) (az (ji (az (aO (.int 1)) (az (aR bI (aA (eY tR (dM (aH 2) eX))) (aA (aO (.int 0)))) aW))) aW)))) eX))) (bG (dH 8 (lY (qy (aA (aO (.int 20)))) .one iZ QC [3,2])) (bG (dH 9 (bN KZ (az (aM 2) (az (aM 4) aW)))) (bG (dH 9 (ji (az (aR bI (aH 9) (aA (aO (.int 0)))) (az (aR DY (aA (eY vO (dM (aH 8) eX))) (aA (bN gJ (az (aM 0) (az (aO (.int 2)) aW))))) (az (aR bI (aH 9) (aA (aO (.int 2)))) (az (aR DY (aA (ji (az (ji (az (aR bI (aH 5) (aA (aO (.int 0)))) (az (aO (.int 0)) (az (aM 7) aW)))) aW))) (aA (bN gJ (az (aM 0) (az (aO (.int 2)) aW))))) aW)))))) (bG (dH 10 (gG (aA (bN Gx (az (aM 0) (az (aM 3) aW)))) iG (gj (aA (aO (.int 4)))))) (bG (jt (iV (aM 10)) (dz 11) QB) (dX (aO (.bool ao))))))))))
def vI:FN:=fN 2 19 Rj
@[reducible] def Ww:FS:=(dX (lD (yI vI (bN vH (az (aM 0) (az (aO (.int 0)) aW))) (az (aO (.int 16)) aW)) (yI vI (bN vH (az (aM 0) (az (aO (.int 1)) aW))) (az (aO (.int 5)) aW))))
def Ih:FN:=fN 1 1 Ww
theorem ah2{P:bD}{w:bB}{K:aJ}{mg:Str->Option Value}{base:bz}{cu:Tok}{f:aq}{fd:dF}(F:fH K "parts_over" "parts_over" Kg f fd)(T:Txt K mg cu):dw P w K mg base eG 1 f fd zab (spT K Ko):=
 iD (body:=Ru) F J4 λcdv A outer s H E hr=>(bK (abQ (i:=2) (T:=(.many 2)) (NT:=(["name","within"]:List Str)) (NF:=([]:List Str)) (js:=[]) (nP.ok (N0:=zaa) (lH:=cG Kg) (by decide +kernel) rfl rfl) (⟨_,_,_,rfl,(.cons ⟨_,rfl⟩ (.cons ⟨_,rfl⟩ .nil)),rfl⟩) rfl hr.bL (Ek (aG (cP (cO hr.bL) cQ (aK (pv 0)) (aG (aU bh)) (λ_ _=>rfl)))) (λb=>⟨vN,(aP (pv 0)),(aP (pv 1))⟩) (by rfl) J4.nd rfl rfl) (bK (gM (i:=3) J4.nd rfl (dj rfl) (j8 bA)) (bK (GQ m7 (gf (rQ hr.bL) sr (aK (pv 1)) (aK (pv 2)) (by with_unfolding_all rfl)) (bK (HB (pv 3) (aP (pv 1))) (bV (gM (i:=1) J4.nd rfl (dj rfl) (cP (cO hr.bL) cQ (aK (pv 2)) (aK (pv 1)) (λ_ _=>rfl)))))) (bV (tQ (pv 3))))))
theorem ajn{P:bD}{w:bB}{K:aJ}{mg:Str->Option Value}{base:bz}{cu:Tok}{f:aq}{fd:dF}(F:fH K "is_side" "is_side" Tt f fd)(T:Txt K mg cu):dw P w K mg base eG 1 f fd zai (spT K qM):=
 iD (body:=Tv) F ajm λcdv A outer s H E hr=>(bV (eV (qb (rQ hr.bL) sr (aK (pv 1)) (aG (qX (aK (pv 0)) (pI (aG (aU bh))) (pI (aG (aU bh))))) (by with_unfolding_all rfl))))
theorem ajo{P:bD}{w:bB}{K:aJ}{mg:Str->Option Value}{base:bz}{cu:Tok}{f:aq}{fd:dF}(F:fH K "ways_on" "ways_on" Ln f fd)(T:Txt K mg cu)(Ry:cZ P w K mg base "parts_over" 1 zab (spT K Ko))(o9:cZ P w K mg base "is_side" 1 zai (spT K qM)):dw P w K mg base eG 2 f fd zak (spT K tK):=
 iD (body:=Tw) F aaJ λcdv A outer s H E hr=>(bK (gM (i:=3) aaJ.nd rfl (tW rfl) (bZ Ry (hr.mono (by decide)) rfl (aD (aP (pv 0)) (aD (cP (cO hr.bL) cQ (aK (pv 1)) (aG (aU bh)) (λ_ _=>rfl)) bA)))) (bV (eV (wF (T:=(.many 7)) (NT:=(["number","giver","taker","part","first","last","most"]:List Str)) (NF:=(["over","day","paper"]:List Str)) (js:=[3,2,1]) (nP.ok (N0:=zaj) (lH:=cG Ln) (by decide +kernel) rfl rfl) (⟨_,_,_,rfl,(.cons ⟨_,rfl⟩ (.cons ⟨_,rfl⟩ (.cons ⟨_,rfl⟩ (.cons ⟨_,rfl⟩ (.cons ⟨_,rfl⟩ (.cons ⟨_,rfl⟩ (.cons ⟨_,rfl⟩ .nil))))))),rfl⟩) rfl (Ek (aG (cP (cO hr.bL) cQ (aK (pv 0)) (aG (aU bh)) (λ_ _=>rfl)))) (λb=>⟨(yj (PW.pt (yw (gf (rQ hr.bL) sr (aK (pv 3)) (aK (pv 7)) (by with_unfolding_all rfl)) (yw (aok DQ Ef DQ Ef (aK (pv 4)) (aK (pv 8)) (aK (pv 5))) (yw (gf DQ Ef (aG (cP (cO hr.bL) cQ (aK (pv 9)) (aG (aU bh)) (λ_ _=>rfl))) (aK (pv 6)) (gK _)) (yw (vV (lB (aG (bZ o9 (hr.mono (by decide)) rfl (aD (aP (pv 9)) (aD (aP (pv 1)) bA)))))) (My (vV (lB (aG (bZ o9 (hr.mono (by decide)) rfl (aD (aP (pv 9)) (aD (aP (pv 2)) bA))))))))))))),(jL (aD (aP (pv 0)) (aD (aP (pv 1)) (aD (aP (pv 2)) bA))))⟩)))))
theorem aiN{P:bD}{w:bB}{K:aJ}{mg:Str->Option Value}{base:bz}{cu:Tok}{f:aq}{fd:dF}(F:fH K "steps_to" "steps_to" K9 f fd)(T:Txt K mg cu):dw P w K mg base eG 1 f fd zao (spT K Df):=
 iD (body:=SJ) F zU λcdv A outer s H E hr=>(bK (gM (i:=2) zU.nd rfl (tW rfl) (Ut (aK (pv 1)) (aU bh))) (bK (gM (i:=3) zU.nd rfl (tW rfl) (j8 (aD (aP (pv 1)) bA))) (bK (gM (i:=4) zU.nd rfl (dj rfl) (aU bh)) (bK (GQ m7 (lB (aK (pv 3))) (bK (aon (i:=4) zU.nd rfl (dj rfl) (aG (aU bh))) (bK (gM (i:=3) zU.nd rfl (tW rfl) (apm (T:=(.many 3)) (NT:=zbb) (NF:=(["newest","steps"]:List Str)) (js:=[3,2]) (nP.ok (N0:=zan) (lH:=cG K9) (by decide +kernel) rfl rfl) (⟨_,_,_,rfl,(.cons ⟨_,rfl⟩ (.cons ⟨_,rfl⟩ (.cons ⟨_,rfl⟩ .nil))),rfl⟩) rfl rfl T.tM (Ek (aK (pv 0))) (λb=>⟨(yj (PW.pt (yw (gf (rQ hr.bL) sr (aK (pv 2)) (aK (pv 3)) (by with_unfolding_all rfl)) (My (gf (Dh hr.bL) Dk (aK (pv 1)) (aK (pv 4)) (by with_unfolding_all rfl)))))),(aP (pv 1))⟩))) (bV (qP m7 rfl (yQ (aP (pv 3))) (jz (i:=5) zU.nd rfl (dj rfl)) jR (bV (DR hr.bL (pv 2) (aK (pv 5)) (aP (pv 4))))))))) (bV (tQ (pv 2)))))))
theorem ah3{P:bD}{w:bB}{K:aJ}{mg:Str->Option Value}{base:bz}{cu:Tok}{f:aq}{fd:dF}(F:fH K "nearer_way" "nearer_way" Kl f fd)(T:Txt K mg cu):dw P w K mg base eG 1 f fd zam (spT K Kq):=
 iD (body:=Rx) F ah1 λcdv A outer s H E hr=>(bV (eV (jq (ah0 rfl hr.bL) amW rfl T.Ie (by decide +kernel) (eU (aG (wF (T:=(.many 3)) (NT:=zbb) (NF:=(["person","steps"]:List Str)) (js:=[2,1]) (nP.ok (N0:=zam) (lH:=cG Kl) (by decide +kernel) rfl rfl) (⟨_,_,_,rfl,(.cons ⟨_,rfl⟩ (.cons ⟨_,rfl⟩ (.cons ⟨_,rfl⟩ .nil))),rfl⟩) rfl (Ek (aK (pv 0))) (λb=>⟨(yj (PW.pt (yw (gf (vU hr.units) wz (aK (pv 1)) (aK (pv 3)) (gK _)) (yw (gf (rQ hr.bL) sr (aK (pv 2)) (aK (pv 4)) (by with_unfolding_all rfl)) (My (gf (Ss hr.VB) Wm (aG (cP (cO hr.bL) cQ (aK (pv 4)) (aK (pv 2)) (λ_ _=>rfl))) (aG (cP (cO hr.bL) cQ (aK (pv 4)) (aK (pv 3)) (λ_ _=>rfl))) (gK _))))))),(jL (aD (aP (pv 0)) (aD (aP (pv 2)) bA)))⟩))) fZ))))
theorem ait{P:bD}{w:bB}{K:aJ}{mg:Str->Option Value}{base:bz}{cu:Tok}{f:aq}{fd:dF}(F:fH K "first_row" "first_row" RM f fd)(T:Txt K mg cu)(Dg:cZ P w K mg base "steps_to" 1 zao (spT K Df))(Rz:cZ P w K mg base "nearer_way" 1 zam (spT K Kq)):dw P w K mg base eG 2 f fd zal (spT K CW):=
 iD (body:=KH) F Gr λcdv A outer s H E hr=>(bK (gM (i:=3) Gr.nd rfl (dj rfl) (bZ Dg (hr.mono (by decide)) rfl (aD (aP (pv 0)) (aD (aP (pv 2)) bA)))) (bK (jB (gf (Dh hr.bL) Dk (aK (pv 1)) (aK (pv 3)) (by with_unfolding_all rfl)) (bV (eV (aU p6))) jA) (bK (gM (i:=4) Gr.nd rfl (dj rfl) (j8 bA)) (bK (GQ m7 (gf (Ah hr.units) Ax (aK (pv 1)) (aK (pv 2)) (gK _)) (bK (Nm (bZ Rz (hr.mono (by decide)) rfl (aD (aP (pv 0)) (aD (aP (pv 3)) (aD (aP (pv 1)) bA)))) (Hs rfl (qN (jz (i:=5) Gr.nd rfl (dj rfl)) (qN (jz (i:=1) Gr.nd rfl (dj rfl)) G9))) (Nk (tL jR (tL jR Mz)))) (bV (HB (pv 4) (aP (pv 5)))))) (bV (tQ (pv 4)))))))
theorem akf{P:bD}{w:bB}{K:aJ}{mg:Str->Option Value}{base:bz}{cu:Tok}{f:aq}{fd:dF}(F:fH K "row_of" "row_of" Uw f fd)(T:Txt K mg cu)(o9:cZ P w K mg base "is_side" 1 zai (spT K qM))(rO:cZ P w K mg base "ways_on" 2 zak (spT K tK))(CZ:cZ P w K mg base "first_row" 2 zal (spT K CW)):dw P w K mg base eG 3 f fd zac (spT K xY):=
 iD (body:=G5) F ake λcdv A outer s H E hr=>(bK (jB (PW.pt (wA (lB (aG (bZ o9 (hr.mono (by decide)) rfl (aD (aP (pv 1)) (aD (aP (pv 2)) bA))))) (Ai (lB (aG (bZ o9 (hr.mono (by decide)) rfl (aD (aP (pv 1)) (aD (aP (pv 3)) bA)))))))) (bV (eV (aU p6))) jA) (bV (eV (bZ CZ (hr.mono (by decide)) rfl (aD (bZ rO (hr.mono (by decide)) rfl (aD (aP (pv 0)) (aD (aP (pv 1)) (aD (aP (pv 4)) bA)))) (aD (aP (pv 2)) (aD (aP (pv 3)) bA)))))))
theorem aiu{P:bD}{w:bB}{K:aJ}{mg:Str->Option Value}{base:bz}{cu:Tok}{f:aq}{fd:dF}(F:fH K "is_needed" "is_needed" Kz f fd)(T:Txt K mg cu)(CZ:cZ P w K mg base "first_row" 2 zal (spT K CW)):dw P w K mg base eG 3 f fd zah (spT K Gw):=
 iD (body:=KJ) F Z8 λcdv A outer s H E hr=>(bK (GR (i:=4) (T:=.one) (NT:=(["way"]:List Str)) (NF:=zbc) (js:=[1]) (nP.ok (N0:=zag) (lH:=cG Kz) (by decide +kernel) rfl rfl) (⟨_,⟨_,rfl⟩,rfl⟩) rfl (Bs (aK (pv 0))) (λb=>⟨(yj (gf (Ah hr.units) Ax (aG (cP (cO hr.bL) cQ (aK (pv 0)) (aG (aU bh)) (λ_ _=>rfl))) (aK (pv 1)) (gK _))),(aP (pv 0))⟩) (by rfl) Z8.nd rfl rfl) (bV (eV (qb M9 Nj (aG (bZ CZ (hr.mono (by decide)) rfl (aD (aP (pv 4)) (aD (aP (pv 2)) (aD (aP (pv 3)) bA))))) (aG (aU p6)) (gK _)))))
theorem ahB{P:bD}{w:bB}{K:aJ}{mg:Str->Option Value}{base:bz}{cu:Tok}{f:aq}{fd:dF}(F:fH K "leaves_in_all" "leaves_in_all" JR f fd)(T:Txt K mg cu)(rO:cZ P w K mg base "ways_on" 2 zak (spT K tK))(vM:cZ P w K mg base "row_of" 3 zac (spT K xY))(R4:cZ P w K mg base "is_needed" 3 zah (spT K Gw)):dw P w K mg base eG 4 f fd zac (spT K JT):=
 iD (body:=JS) F Qu λcdv A outer s H E hr=>(bK (gM (i:=5) Qu.nd rfl (dj rfl) (bZ vM (hr.mono (by decide)) rfl (aD (aP (pv 0)) (aD (aP (pv 1)) (aD (aP (pv 2)) (aD (aP (pv 3)) (aD (aP (pv 4)) bA))))))) (bK (jB (gf M9 Nj (aK (pv 5)) (aG (aU p6)) (gK _)) (bV (eV (j8 bA))) jA) (bK (gM (i:=6) Qu.nd rfl (tW rfl) (bZ rO (hr.mono (by decide)) rfl (aD (aP (pv 0)) (aD (aP (pv 1)) (aD (aP (pv 4)) bA))))) (bV (eV (wF (T:=.one) (NT:=zbc) (NF:=zal) (js:=[6,2,3]) (nP.ok (N0:=zaf) (lH:=cG JR) (by decide +kernel) rfl rfl) (⟨_,⟨_,rfl⟩,rfl⟩) rfl (Bs (aG (jq (aaB rfl) abT rfl T.tM (by decide +kernel) (eU (aK (pv 5)) fZ)))) (λb=>⟨(yj (lB (aG (bZ R4 (hr.mono (by decide)) rfl (aD (aP (pv 1)) (aD (aP (pv 0)) (aD (aP (pv 2)) (aD (aP (pv 3)) bA)))))))),(aP (pv 0))⟩)))))))
theorem ah4{P:bD}{w:bB}{K:aJ}{mg:Str->Option Value}{base:bz}{cu:Tok}{f:aq}{fd:dF}(F:fH K "signers_of" "signers_of" Kh f fd)(T:Txt K mg cu)(o9:cZ P w K mg base "is_side" 1 zai (spT K qM))(rO:cZ P w K mg base "ways_on" 2 zak (spT K tK))(Dg:cZ P w K mg base "steps_to" 1 zao (spT K Df)):dw P w K mg base eG 3 f fd zae (spT K Gu):=
 iD (body:=Kr) F ZL λcdv A outer s H E hr=>(bK (jB (lB (aG (bZ o9 (hr.mono (by decide)) rfl (aD (aP (pv 1)) (aD (aP (pv 2)) bA))))) (bV (eV (j8 bA))) jA) (bK (GR (i:=4) (T:=(.many 3)) (NT:=zbb) (NF:=([]:List Str)) (js:=[]) (nP.ok (N0:=zad) (lH:=cG Kh) (by decide +kernel) rfl rfl) (⟨_,_,_,rfl,(.cons ⟨_,rfl⟩ (.cons ⟨_,rfl⟩ (.cons ⟨_,rfl⟩ .nil))),rfl⟩) rfl (Ek (aG (bZ rO (hr.mono (by decide)) rfl (aD (aP (pv 0)) (aD (aP (pv 1)) (aD (aP (pv 3)) bA)))))) (λb=>⟨vN,(jL (aD (aP (pv 0)) (aD (aP (pv 2)) (aD (aP (pv 1)) bA))))⟩) (by rfl) ZL.nd rfl rfl) (bV (eV (jq (JZ rfl) Mp rfl T.tM (by decide +kernel) (eU (aG (bZ Dg (hr.mono (by decide)) rfl (aD (aP (pv 4)) (aD (aP (pv 2)) bA)))) fZ))))))
theorem aiv{P:bD}{w:bB}{K:aJ}{mg:Str->Option Value}{base:bz}{cu:Tok}{f:aq}{fd:dF}(F:fH K "is_number" "is_number" RN f fd)(T:Txt K mg cu):dw P w K mg base eG 1 f fd zap (spT K KN):=
 iD (body:=RT) F aiq λcdv A outer s H E hr=>(bV (eV (vW (qg (by decide) (aK (pv 0)) (oG (v:=.ty "int") rfl T.Em (by decide +kernel) rfl) rfl T.nq (by decide +kernel)) (yx (adX (qg (by decide) (aK (pv 0)) (oG (v:=.ty "bool") rfl T.Ea (by decide +kernel) rfl) rfl T.nq (by decide +kernel)))))))
theorem aiw{P:bD}{w:bB}{K:aJ}{mg:Str->Option Value}{base:bz}{cu:Tok}{f:aq}{fd:dF}(F:fH K "is_rising" "is_rising" KC f fd)(T:Txt K mg cu):dw P w K mg base eG 1 f fd zaq (spT K KQ):=
 iD (body:=RV) F air λcdv A outer s H E hr=>(bV (eV (jq (T4 rfl) VP rfl T.Ib (by decide +kernel) (eU (aG (wF (T:=(.many 2)) (NT:=(["low","high"]:List Str)) (NF:=([]:List Str)) (js:=[]) (nP.ok (N0:=zaq) (lH:=cG KC) (by decide +kernel) rfl rfl) (⟨_,_,_,rfl,(.cons ⟨_,rfl⟩ (.cons ⟨_,rfl⟩ .nil)),rfl⟩) rfl (ad8 rfl T.Od (eU (aK (pv 0)) (eU (aG (qX (aK (pv 0)) (pI (aG (aU bh))) ud)) fZ))) (λb=>⟨vN,(qb (Ss hr.VB) Wm (aK (pv 0)) (aK (pv 1)) (gK _))⟩))) fZ))))
theorem agE{P:bD}{w:bB}{K:aJ}{mg:Str->Option Value}{base:bz}{cu:Tok}{f:aq}{fd:dF}(F:fH K "are_unlike_numbers" "are_unlike_numbers" Jz f fd)(T:Txt K mg cu)(R7:cZ P w K mg base "is_number" 1 zap (spT K KN))(R8:cZ P w K mg base "is_rising" 1 zaq (spT K KQ)):dw P w K mg base eG 2 f fd zap (spT K JB):=
 iD (body:=Qf) F agD λcdv A outer s H E hr=>(bK (jB (PW.pt (wA (vV (lB (aG (qg (by decide) (aK (pv 0)) (oG (v:=.ty "list") rfl T.Ak (by decide +kernel) rfl) rfl T.nq (by decide +kernel))))) (Ai (vV (lB (aG (jq (T4 rfl) VP rfl T.Ib (by decide +kernel) (eU (aG (wF (T:=.one) (NT:=zbc) (NF:=([]:List Str)) (js:=[]) (nP.ok (N0:=zap) (lH:=cG Jz) (by decide +kernel) rfl rfl) (⟨_,⟨_,rfl⟩,rfl⟩) rfl (Bs (aK (pv 0))) (λb=>⟨vN,(bZ R7 (hr.mono (by decide)) rfl (aD (aP (pv 0)) bA))⟩))) fZ)))))))) (bV (eV (aU rW))) jA) (bV (eV (bZ R8 (hr.mono (by decide)) rfl (aD (jq (aaB rfl) abT rfl T.tM (by decide +kernel) (eU (aK (pv 0)) fZ)) bA)))))
theorem ah5{P:bD}{w:bB}{K:aJ}{mg:Str->Option Value}{base:bz}{cu:Tok}{f:aq}{fd:dF}(F:fH K "last_taker" "last_taker" Rt f fd)(T:Txt K mg cu):dw P w K mg base eG 1 f fd zat (spT K Ku):=
 iD (body:=Ks) F CK λcdv A outer s H E hr=>(bK (gM (i:=3) CK.nd rfl (dj rfl) (aP (pv 1))) (bK (qP m7 rfl (yQ (aP (pv 2))) (jz (i:=4) CK.nd rfl (dj rfl)) jR (bK (jB (gf (Dh hr.bL) Dk (aK (pv 4)) (aK (pv 0)) (by with_unfolding_all rfl)) (bV (eV (aU p6))) jA) (bK (Nm (cP (cO hr.bL) cQ (aK (pv 0)) (aK (pv 4)) (λ_ _=>rfl)) (Hs rfl (qN (jz (i:=5) CK.nd rfl (dj rfl)) (qN (jz (i:=6) CK.nd rfl (dj rfl)) G9))) (Nk (tL jR (tL jR Mz)))) (bK (jB (gf (Ah hr.units) Ax (aK (pv 5)) (aK (pv 3)) (gK _)) (bV (eV (aU p6))) jA) (bV (gM (i:=3) CK.nd rfl (dj rfl) (aP (pv 6)))))))) (bV (tQ (pv 3)))))
theorem akg{P:bD}{w:bB}{K:aJ}{mg:Str->Option Value}{base:bz}{cu:Tok}{f:aq}{fd:dF}(F:fH K "is_row" "is_row" Mq f fd)(T:Txt K mg cu)(o9:cZ P w K mg base "is_side" 1 zai (spT K qM))(rO:cZ P w K mg base "ways_on" 2 zak (spT K tK))(Qg:cZ P w K mg base "are_unlike_numbers" 2 zap (spT K JB))(RB:cZ P w K mg base "last_taker" 1 zat (spT K Ku)):dw P w K mg base eG 3 f fd zas (spT K Mr):=
 iD (body:=xZ) F abh λcdv A outer s H E hr=>(bK (jB (PW.pt (wA (lB (aG (bZ o9 (hr.mono (by decide)) rfl (aD (aP (pv 1)) (aD (aP (pv 2)) bA))))) (wA (lB (aG (bZ o9 (hr.mono (by decide)) rfl (aD (aP (pv 1)) (aD (aP (pv 3)) bA))))) (Ai (vV (lB (aG (bZ Qg (hr.mono (by decide)) rfl (aD (aP (pv 5)) bA))))))))) (bV (eV (aU rW))) jA) (bK (jB (gf (vU hr.units) wz (aK (pv 2)) (aK (pv 3)) (gK _)) (bV (eV (qb (vU hr.units) wz (aK (pv 5)) (aG (j8 bA)) (gK _)))) jA) (bK (abQ (i:=6) (T:=(.many 3)) (NT:=zbb) (NF:=([]:List Str)) (js:=[]) (nP.ok (N0:=zar) (lH:=cG Mq) (by decide +kernel) rfl rfl) (⟨_,_,_,rfl,(.cons ⟨_,rfl⟩ (.cons ⟨_,rfl⟩ (.cons ⟨_,rfl⟩ .nil))),rfl⟩) rfl hr.bL (Ek (aG (bZ rO (hr.mono (by decide)) rfl (aD (aP (pv 0)) (aD (aP (pv 1)) (aD (aP (pv 4)) bA)))))) (λb=>⟨vN,(aP (pv 0)),(jL (aD (aP (pv 1)) (aD (aP (pv 2)) bA)))⟩) (by rfl) abh.nd rfl rfl) (bV (eV (qb (vU hr.units) wz (aG (bZ RB (hr.mono (by decide)) rfl (aD (aP (pv 6)) (aD (aP (pv 2)) (aD (aP (pv 5)) bA))))) (aK (pv 3)) (gK _)))))))
theorem ahO{P:bD}{w:bB}{K:aJ}{mg:Str->Option Value}{base:bz}{cu:Tok}{f:aq}{fd:dF}(F:fH K "sums_to_try" "sums_to_try" J5 f fd)(T:Txt K mg cu):dw P w K mg base eG 1 f fd zaw (spT K J7):=
 iD (body:=Rf) F Zr λcdv A outer s H E hr=>(bK (GR (i:=1) (T:=.one) (NT:=(["leave"]:List Str)) (NF:=([]:List Str)) (js:=[]) (nP.ok (N0:=zav) (lH:=cG J5) (by decide +kernel) rfl rfl) (⟨_,⟨_,rfl⟩,rfl⟩) rfl (Bs (aG (cP (cO hr.bL) cQ (aK (pv 0)) (aG (aU bh)) (λ_ _=>rfl)))) (λb=>⟨vN,(jq (aaR rfl) ac7 rfl T.Ie (by decide +kernel) (eU (aG (cP (cO hr.bL) cQ (aK (pv 0)) (aG (aU bh)) (λ_ _=>rfl))) (eU (aG (aU (acy (v:=toV (.int 1000000000)) rfl T.Zu ⟨_,rfl⟩))) fZ)))⟩) (by rfl) Zr.nd rfl rfl) (bV (eV (alo rfl (aG (dG lQ lU (aG (j8 (aD (aU (acy (v:=toV (.int 1000000000)) rfl T.Zu ⟨_,rfl⟩)) bA))) (aK (pv 1)))) (aG (aU rW)) rfl T.tM))))
theorem ajp{P:bD}{w:bB}{K:aJ}{mg:Str->Option Value}{base:bz}{cu:Tok}{f:aq}{fd:dF}(F:fH K "most_of" "most_of" Tu f fd)(T:Txt K mg cu)(vM:cZ P w K mg base "row_of" 3 zac (spT K xY))(Rk:cZ P w K mg base "sums_to_try" 1 zaw (spT K J7)):dw P w K mg base eG 4 f fd zau (spT K GD):=
 iD (body:=Lp) F La λcdv A outer s H E hr=>(bK (Nm (aP (pv 2)) (Hs rfl (qN (jz (i:=6) La.nd rfl (dj rfl)) (qN (jz (i:=7) La.nd rfl (dj rfl)) G9))) (Nk (tL jR (tL jR Mz)))) (bK (qP m7 rfl (yQ (bZ Rk (hr.mono (by decide)) rfl (aD (aP (pv 0)) bA))) (jz (i:=8) La.nd rfl (dj rfl)) jR (bV (jB (gf acC acX (aG (bZ vM (hr.mono (by decide)) rfl (aD (aP (pv 0)) (aD (jL (aD (aP (pv 1)) (aD (aP (pv 8)) (aD (aP (pv 6)) (aD (aP (pv 7)) bA))))) (aD (aP (pv 3)) (aD (aP (pv 4)) (aD (aP (pv 5)) bA))))))) (aG (aU p6)) (gK _)) (bV (tQ (pv 8))) jA))) (bV (eV (aU p6)))))
theorem am4{P:bD}{w:bB}{K:aJ}{mg:Str->Option Value}{base:bz}{cu:Tok}{f:aq}{fd:dF}(F:fH K "_law_mix" "_law_mix" V7 f fd)(T:Txt K mg cu):dw P w K mg base eG 1 f fd zax (spT K HJ):=
 iD (body:=V8) F adm λcdv A outer s H E hr=>(bK (gM (i:=2) adm.nd rfl (dj rfl) (dG uW uY (aG (dG yq yt (aG (dG lQ lU (aG (dG lQ lU (aG (dG uW uY (aK (pv 0)) (aG (aU bh)))) (aG (dG yq yt (aG (dG yq yt (aK (pv 1)) (aK (pv 1)))) (aG (aU bh)))))) (aG (aU bh)))) (aG (aU bh)))) (aG (aU bh)))) (bV (eV (dG uW uY (aG (dG yq yt (aK (pv 2)) (aK (pv 2)))) (aG (aU bh))))))
theorem ahP{P:bD}{w:bB}{K:aJ}{mg:Str->Option Value}{base:bz}{cu:Tok}{f:aq}{fd:dF}(F:fH K "_law_drawn_from" "_law_drawn_from" Rb f fd)(T:Txt K mg cu):dw P w K mg base eG 1 f fd zay (spT K vH):=
 iD (body:=Rg) F Zt λcdv A outer s H E hr=>(bK (gM (i:=2) Zt.nd rfl (dj rfl) (Wo (gf (Ss hr.VB) Wm (aK (pv 1)) (aG (amG (pv 0) rfl T.pK (by decide +kernel))) (gK _)) (aop (pv 0) (aK (pv 1)) (λ_ _=>rfl)) (aU bh))) (bV (eV (j8 (aD (cP (cO hr.bL) cQ (aG (j8 (aD (aU bh) (aD (jq abx ad1 rfl T.Oc (by decide +kernel) (eU (aK (pv 2)) fZ)) bA)))) (aG (z6 aaS ad2 rfl T.Em (by decide +kernel) (eU (aG (qb ao8 aph (aG (jq abx ad1 rfl T.Oc (by decide +kernel) (eU (aK (pv 2)) fZ))) (aG (dG M8 Ni (aG (aU bh)) (aG (aU bh)))) (gK _))) fZ))) (λ_ _=>rfl)) (aD (dG lQ lU (aK (pv 2)) (aG (dG yq yt (aG (aU bh)) (aK (pv 1))))) (aD (aU bh) bA)))))))
theorem als{P:bD}{w:bB}{K:aJ}{mg:Str->Option Value}{base:bz}{cu:Tok}{f:aq}{fd:dF}(F:fH K "_law_pick" "_law_pick" Vn f fd)(T:Txt K mg cu)(Ny:cZ P w K mg base "_law_mix" 1 zax (spT K HJ)):dw P w K mg base eG 2 f fd zaz (spT K gJ):=
 iD (body:=M3) F ab1 λcdv A outer s H E hr=>(bK (DR hr.bL (pv 0) (aG (aU bh)) (dG lQ lU (aG (Aj (pv 0) (aG (aU bh)) (λ_ _=>rfl))) (aG (aU bh)))) (bK (jB (gf Wg Wn (aG (Aj (pv 0) (aG (aU bh)) (λ_ _=>rfl))) (aG (aU bh)) (gK _)) (bK (gM (i:=2) ab1.nd rfl (dj rfl) (dG uW uY (aG (Aj (pv 0) (aG (aU bh)) (λ_ _=>rfl))) (aK (pv 1)))) (bK (DR hr.bL (pv 0) (aG (aU bh)) (dG acA acW (aG (Aj (pv 0) (aG (aU bh)) (λ_ _=>rfl))) (aK (pv 1)))) (bV (tQ (pv 2))))) jA) (bV (eV (dG uW uY (aG (dG acA acW (aG (bZ Ny (hr.mono (by decide)) rfl (aD (bZ Ny (hr.mono (by decide)) rfl (aD (Aj (pv 0) (aG (aU bh)) (λ_ _=>rfl)) (aD (Aj (pv 0) (aG (aU bh)) (λ_ _=>rfl)) bA))) (aD (dG lQ lU (aG (Aj (pv 0) (aG (aU bh)) (λ_ _=>rfl))) (aG (aU bh))) bA)))) (aG (aU bh)))) (aK (pv 1)))))))
theorem alu{P:bD}{w:bB}{K:aJ}{mg:Str->Option Value}{base:bz}{cu:Tok}{f:aq}{fd:dF}(n:Nat)(F:fH K "_law_same" "_law_same" Hq f fd)(T:Txt K mg cu)(ym:cZ P w K mg base "_law_same" n za0 (spT K (lR n))):dw P w K mg base eG (n+1) f fd za0 (spT K (lR (n+1))):=
 iD (body:=Du (lR n)) F alq λcdv A outer s H E hr=>(bK (jB (lB (aG (amI (by decide) (by decide) (aK (pv 1)) (oG (v:=.ty "list") rfl T.Ak (by decide +kernel) rfl) (oG (v:=.ty "tuple") rfl T.vR (by decide +kernel) rfl) rfl T.nq (by decide +kernel)))) (bK (jB (PW.pt (wA (gf (Ah hr.units) Ax (aG (qg (by decide) (aK (pv 0)) (oG (v:=.ty "list") rfl T.Ak (by decide +kernel) rfl) rfl T.nq (by decide +kernel))) (aG (qg (by decide) (aK (pv 1)) (oG (v:=.ty "list") rfl T.Ak (by decide +kernel) rfl) rfl T.nq (by decide +kernel))) (gK _)) (Ai (gf (Ah hr.units) Ax (aG (qg (by decide) (aK (pv 0)) (oG (v:=.ty "tuple") rfl T.vR (by decide +kernel) rfl) rfl T.nq (by decide +kernel))) (aG (qg (by decide) (aK (pv 1)) (oG (v:=.ty "tuple") rfl T.vR (by decide +kernel) rfl) rfl T.nq (by decide +kernel))) (gK _))))) (bV (eV (aU rW))) jA) (bV (eV (vW (qb (vU hr.units) wz (aG (jq rN rT rfl T.pK (by decide +kernel) (eU (aK (pv 0)) fZ))) (aG (jq rN rT rfl T.pK (by decide +kernel) (eU (aK (pv 1)) fZ))) (gK _)) (yx (jq (T4 rfl) VP rfl T.Ib (by decide +kernel) (eU (aG (wF (T:=(.many 2)) (NT:=(["_law_one","_law_other"]:List Str)) (NF:=([]:List Str)) (js:=[]) (nP.ok (N0:=za0) (lH:=cG Hq) (by decide +kernel) rfl rfl) (⟨_,_,_,rfl,(.cons ⟨_,rfl⟩ (.cons ⟨_,rfl⟩ .nil)),rfl⟩) rfl (ad8 rfl T.Od (eU (aK (pv 0)) (eU (aK (pv 1)) fZ))) (λb=>⟨vN,(bZ ym hr rfl (aD (aP (pv 0)) (aD (aP (pv 1)) bA)))⟩))) fZ))))))) jA) (bK (jB (PW.pt (wA (gf M9 Nj (aK (pv 1)) (aG (aU p6)) (gK _)) (Ai (lB (aG (qg (by decide) (aK (pv 1)) (oG (v:=.ty "str") rfl T.Ig (by decide +kernel) rfl) rfl T.nq (by decide +kernel))))))) (bV (eV (vW (qb (vU hr.units) wz (aK (pv 0)) (aK (pv 1)) (gK _)) (yx (qb (vU hr.units) wz (aG (qg (by decide) (aK (pv 0)) (oG (v:=.ty "str") rfl T.Ig (by decide +kernel) rfl) rfl T.nq (by decide +kernel))) (aG (qg (by decide) (aK (pv 1)) (oG (v:=.ty "str") rfl T.Ig (by decide +kernel) rfl) rfl T.nq (by decide +kernel))) (gK _)))))) jA) (bK (jB (lB (aG (qg (by decide) (aK (pv 1)) (oG (v:=.ty "bool") rfl T.Ea (by decide +kernel) rfl) rfl T.nq (by decide +kernel)))) (bV (eV (vW (qg (by decide) (aK (pv 0)) (oG (v:=.ty "bool") rfl T.Ea (by decide +kernel) rfl) rfl T.nq (by decide +kernel)) (yx (qb (vU hr.units) wz (aK (pv 0)) (aK (pv 1)) (gK _)))))) jA) (bV (eV (vW (qg (by decide) (aK (pv 0)) (oG (v:=.ty "int") rfl T.Em (by decide +kernel) rfl) rfl T.nq (by decide +kernel)) (vW (adX (qg (by decide) (aK (pv 0)) (oG (v:=.ty "bool") rfl T.Ea (by decide +kernel) rfl) rfl T.nq (by decide +kernel))) (yx (qb (vU hr.units) wz (aK (pv 0)) (aK (pv 1)) (gK _))))))))))
theorem abi{P:bD}{w:bB}{K:aJ}{mg:Str->Option Value}{base:bz}{cu:Tok}{f:aq}{fd:dF}(hm:mg "_law_same"=aa (.ref f))(hk:xQ K (.ref f)=ao)(hb:Binds K fd za0 [])(F:fH K "_law_same" "_law_same" Hq f fd)(T:Txt K mg cu):
  ∀n,cZ P w K mg base "_law_same" n za0 (spT K (lR n))
 |0=>⟨f,fd,hm,hk,hb,amN⟩
 |n+1=>⟨f,fd,hm,hk,hb,alu n F T (abi hm hk hb F T n)⟩
theorem aix{P:bD}{w:bB}{K:aJ}{mg:Str->Option Value}{base:bz}{cu:Tok}{f:aq}{fd:dF}(F:fH K "_law_shuffled" "_law_shuffled" RP f fd)(T:Txt K mg cu)(ir:cZ P w K mg base "_law_pick" 2 zaz (spT K gJ)):dw P w K mg base eG 3 f fd za1 (spT K Gx):=
 iD (body:=RW) F Z9 λcdv A outer s H E hr=>(bK (vY (i:=2) (j:=3) rfl Z9.nd rfl rfl (by decide) rfl rfl (j6 (z6 (ajf rfl) alb rfl T.Ak (by decide +kernel) (eU (aK (pv 1)) fZ)) (j6 (j8 bA) tY)) rfl) (bK (GQ m7 (gf (Ah hr.units) Ax (aK (pv 2)) (aG (j8 bA)) (gK _)) (bV (amY (pv 3) (pv 2) (aG (bZ ir (hr.mono (by decide)) rfl (aD (aP (pv 0)) (aD (jq rN rT rfl T.pK (by decide +kernel) (eU (aK (pv 2)) fZ)) bA))))))) (bV (tQ (pv 3)))))
theorem ahQ{P:bD}{w:bB}{K:aJ}{mg:Str->Option Value}{base:bz}{cu:Tok}{f:aq}{fd:dF}(F:fH K "_law_parts_over" "_law_parts_over" Rc f fd)(T:Txt K mg cu):dw P w K mg base eG 1 f fd za2 (spT K CN):=
 iD (body:=Rh) F QX λcdv A outer s H E hr=>(bK (gM (i:=2) QX.nd rfl (dj rfl) (j8 bA)) (bK (GQ m7 (gf (rQ hr.bL) sr (aK (pv 1)) (aK (pv 0)) (by with_unfolding_all rfl)) (bK (HB (pv 2) (aP (pv 1))) (bV (gM (i:=1) QX.nd rfl (dj rfl) (cP (cO hr.bL) cQ (aK (pv 0)) (aK (pv 1)) (λ_ _=>rfl)))))) (bV (tQ (pv 2)))))
theorem aiy{P:bD}{w:bB}{K:aJ}{mg:Str->Option Value}{base:bz}{cu:Tok}{f:aq}{fd:dF}(F:fH K "_law_house_of" "_law_house_of" RQ f fd)(T:Txt K mg cu):dw P w K mg base eG 1 f fd za3 (spT K KZ):=
 iD (body:=R0) F ais λcdv A outer s H E hr=>(bV (eV (jL (aD (z6 J1 Ma rfl T.vR (by decide +kernel) (eU (aG (akb rfl (aK (pv 0)) rfl T.tM)) fZ)) (aD (jL bA) (aD (z6 J1 Ma rfl T.vR (by decide +kernel) (eU (aK (pv 1)) fZ)) (aD (jL bA) bA)))))))
theorem alv{P:bD}{w:bB}{K:aJ}{mg:Str->Option Value}{base:bz}{cu:Tok}{f:aq}{fd:dF}(F:fH K "_law_lets" "_law_lets" Vo f fd)(T:Txt K mg cu)(CP:cZ P w K mg base "_law_parts_over" 1 za2 (spT K CN)):dw P w K mg base eG 2 f fd za4 (spT K Dw):=
 iD (body:=Dv) F alr λcdv A outer s H E hr=>(bK (jB (PW.pt (wA (gf (rQ hr.bL) sr (aG (cP (cO hr.bL) cQ (aK (pv 3)) (aG (aU bh)) (λ_ _=>rfl))) (aG (qX (aK (pv 1)) (pI (aG (aU bh))) ud)) (by with_unfolding_all rfl)) (wA (gf (rQ hr.bL) sr (aG (cP (cO hr.bL) cQ (aK (pv 3)) (aG (aU bh)) (λ_ _=>rfl))) (aG (qX (aK (pv 1)) (pI (aG (aU bh))) ud)) (by with_unfolding_all rfl)) (Ai (gf (Dh hr.bL) Dk (aG (cP (cO hr.bL) cQ (aK (pv 3)) (aG (aU bh)) (λ_ _=>rfl))) (aG (bZ CP (hr.mono (by decide)) rfl (aD (aP (pv 0)) (aD (cP (cO hr.bL) cQ (aK (pv 1)) (aG (aU bh)) (λ_ _=>rfl)) bA)))) (by with_unfolding_all rfl)))))) (bV (eV (aU rW))) jA) (bV (eV (vW (aoj DQ Ef DQ Ef (aG (cP (cO hr.bL) cQ (aK (pv 3)) (aG (aU bh)) (λ_ _=>rfl))) (aK (pv 2)) (aG (cP (cO hr.bL) cQ (aK (pv 3)) (aG (aU bh)) (λ_ _=>rfl)))) (yx (qb DQ Ef (aG (cP (cO hr.bL) cQ (aK (pv 1)) (aG (aU bh)) (λ_ _=>rfl))) (aG (cP (cO hr.bL) cQ (aK (pv 3)) (aG (aU bh)) (λ_ _=>rfl))) (gK _)))))))
theorem aiz{P:bD}{w:bB}{K:aJ}{mg:Str->Option Value}{base:bz}{cu:Tok}{f:aq}{fd:dF}(F:fH K "_law_all_rows" "_law_all_rows" KD f fd)(T:Txt K mg cu)(Dy:cZ P w K mg base "_law_lets" 2 za4 (spT K Dw)):dw P w K mg base eG 3 f fd za6 (spT K zV):=
 iD (body:=K1) F Gs λcdv A outer s H E hr=>(bK (jB (gf (rQ hr.bL) sr (aK (pv 3)) (aG (qX (aK (pv 2)) (pI (aG (aU bh))) ud)) (by with_unfolding_all rfl)) (bV (eV Ug)) jA) (bK (vY (i:=5) (j:=6) rfl Gs.nd rfl rfl (by decide) rfl rfl (j6 (wF (T:=.one) (NT:=zbd) (NF:=zbe) (js:=[0,2,4]) (nP.ok (N0:=za5) (lH:=cG KD) (by decide +kernel) rfl rfl) (⟨_,⟨_,rfl⟩,rfl⟩) rfl (Bs (aK (pv 1))) (λb=>⟨(yj (lB (aG (bZ Dy (hr.mono (by decide)) rfl (aD (aP (pv 1)) (aD (aP (pv 2)) (aD (aP (pv 3)) (aD (aP (pv 0)) bA)))))))),(aP (pv 0))⟩)) (j6 (Ut (aK (pv 3)) (j8 bA)) tY)) rfl) (bK (qP m7 rfl (z7 rfl T.vQ (aG (jq rN rT rfl T.pK (by decide +kernel) (eU (aK (pv 5)) fZ)))) (jz (i:=7) Gs.nd rfl (dj rfl)) jR (bV (qP m7 rfl (yQ (aP (pv 5))) (jz (i:=8) Gs.nd rfl (dj rfl)) jR (bV (jB (gf (rQ hr.bL) sr (aG (cP (cO hr.bL) cQ (aK (pv 8)) (aG (aU bh)) (λ_ _=>rfl))) (aK (pv 6)) (by with_unfolding_all rfl)) (bK (vY (i:=9) (j:=10) rfl Gs.nd rfl rfl (by decide) rfl rfl (j6 (dG lQ lU (aG (cP (cO hr.bL) cQ (aK (pv 6)) (aG (cP (cO hr.bL) cQ (aK (pv 8)) (aG (aU bh)) (λ_ _=>rfl))) (λ_ _=>rfl))) (aG (j8 (aD (cP (cO hr.bL) cQ (aK (pv 8)) (aG (aU bh)) (λ_ _=>rfl)) bA)))) (j6 (Nt hr.bL (aK (pv 6)) (aG (cP (cO hr.bL) cQ (aK (pv 8)) (aG (aU bh)) (λ_ _=>rfl))) (aU p6) ⟨rfl,rfl,rfl,rfl⟩) tY)) rfl) (bV (jB (PW.pt (wA (gf M9 Nj (aK (pv 10)) (aG (aU p6)) (gK _)) (Ai (gf (aoE hr.bL) aoF (aG (jL (aD (jq rN rT rfl T.pK (by decide +kernel) (eU (aK (pv 9)) fZ)) (aD (aP (pv 9)) bA)))) (aG (jL (aD (jq rN rT rfl T.pK (by decide +kernel) (eU (aK (pv 10)) fZ)) (aD (aP (pv 10)) bA)))) (gK _))))) (bV (DR hr.bL (pv 6) (aG (cP (cO hr.bL) cQ (aK (pv 8)) (aG (aU bh)) (λ_ _=>rfl))) (aP (pv 9)))) jA))) jA))))) (bV (tQ (pv 6))))))
theorem ah6{P:bD}{w:bB}{K:aJ}{mg:Str->Option Value}{base:bz}{cu:Tok}{f:aq}{fd:dF}(F:fH K "_law_widest_of" "_law_widest_of" Km f fd)(T:Txt K mg cu)(Dy:cZ P w K mg base "_law_lets" 2 za4 (spT K Dw)):dw P w K mg base eG 3 f fd za6 (spT K Kv):=
 iD (body:=aab) F Gk λcdv A outer s H E hr=>(bK (gM (i:=5) Gk.nd rfl (dj rfl) (Wo (gf (Dh hr.bL) Dk (aK (pv 3)) (aG (qX (aK (pv 2)) (pI (aG (aU bh))) ud)) (by with_unfolding_all rfl)) (Ut (aK (pv 3)) (dG M8 Ni (aG (aU bh)) (aG (aU bh)))) Ug)) (bK (GR (i:=6) (T:=.one) (NT:=zbd) (NF:=zbe) (js:=[0,2,4]) (nP.ok (N0:=za7) (lH:=cG Km) (by decide +kernel) rfl rfl) (⟨_,⟨_,rfl⟩,rfl⟩) rfl (Bs (aK (pv 1))) (λb=>⟨(yj (lB (aG (bZ Dy (hr.mono (by decide)) rfl (aD (aP (pv 1)) (aD (dG lQ lU (aG (jL (aD (cP (cO hr.bL) cQ (aK (pv 2)) (aG (aU bh)) (λ_ _=>rfl)) (aD (aU bh) bA)))) (aG (qX (aK (pv 2)) (pI (aG (aU bh))) ud))) (aD (aP (pv 3)) (aD (aP (pv 0)) bA)))))))),(aP (pv 0))⟩) (by rfl) Gk.nd rfl rfl) (bK (qP m7 rfl (z7 rfl T.vQ (aG (jq rN rT rfl T.pK (by decide +kernel) (eU (aK (pv 6)) fZ)))) (jz (i:=7) Gk.nd rfl (dj rfl)) jR (bV (qP m7 rfl (yQ (aP (pv 6))) (jz (i:=8) Gk.nd rfl (dj rfl)) jR (bV (jB (gf (rQ hr.bL) sr (aG (cP (cO hr.bL) cQ (aK (pv 8)) (aG (aU bh)) (λ_ _=>rfl))) (aK (pv 5)) (by with_unfolding_all rfl)) (bV (DR hr.bL (pv 5) (aG (cP (cO hr.bL) cQ (aK (pv 8)) (aG (aU bh)) (λ_ _=>rfl))) (jq (ajC rfl) amH rfl T.Wv (by decide +kernel) (eU (aG (Nt hr.bL (aK (pv 5)) (aG (cP (cO hr.bL) cQ (aK (pv 8)) (aG (aU bh)) (λ_ _=>rfl))) (aol (aG (aU bh))) ⟨rfl,rfl,rfl,rfl⟩)) (eU (aG (jq (aaR rfl) ac7 rfl T.Ie (by decide +kernel) (eU (aG (cP (cO hr.bL) cQ (aK (pv 5)) (aG (cP (cO hr.bL) cQ (aK (pv 8)) (aG (aU bh)) (λ_ _=>rfl))) (λ_ _=>rfl))) (eU (aG (cP (cO hr.bL) cQ (aK (pv 8)) (aG (aU bh)) (λ_ _=>rfl))) fZ)))) fZ))))) jA))))) (bV (tQ (pv 5))))))
theorem ahR{P:bD}{w:bB}{K:aJ}{mg:Str->Option Value}{base:bz}{cu:Tok}{f:aq}{fd:dF}(F:fH K "_law_long_names" "_law_long_names" J6 f fd)(T:Txt K mg cu)(ir:cZ P w K mg base "_law_pick" 2 zaz (spT K gJ)):dw P w K mg base eG 3 f fd zaz (spT K J8):=
 iD (body:=Ri) F CG λcdv A outer s H E hr=>(bK (amA (is:=[2,3]) (j6 (aU Af) (j6 (j8 bA) tY)) (Hs rfl (qN (jz (i:=2) CG.nd rfl (tW rfl)) (qN (jz (i:=3) CG.nd rfl (dj rfl)) G9)))) (bK (gM (i:=4) CG.nd rfl (dj rfl) (amL (aG (aU Af)) (aG (wF (T:=.one) (NT:=(["_law_turn"]:List Str)) (NF:=(["_law_letters","_law_left"]:List Str)) (js:=[2,0]) (nP.ok (N0:=za8) (lH:=cG J6) (by decide +kernel) rfl rfl) (⟨_,⟨_,rfl⟩,rfl⟩) rfl (z7 rfl T.vQ (aG (aU bh))) (λb=>⟨vN,(cP (cO hr.bL) cQ (aK (pv 1)) (aG (bZ ir (hr.mono (by decide)) rfl (aD (aP (pv 2)) (aD (aU bh) bA)))) (λ_ _=>rfl))⟩))))) (bK (vY (i:=5) (j:=6) rfl CG.nd rfl rfl (by decide) rfl rfl (j6 (bZ ir (hr.mono (by decide)) rfl (aD (aP (pv 0)) (aD (aU bh) bA))) (j6 (bZ ir (hr.mono (by decide)) rfl (aD (aP (pv 0)) (aD (aU bh) bA))) tY)) rfl) (bK (qP m7 rfl (z7 rfl T.vQ (aK (pv 1))) (jz (i:=7) CG.nd rfl (dj rfl)) jR (bV (HB (pv 3) (dG lQ lU (aG (dG lQ lU (aG (qX (aK (pv 4)) ud (pI (aK (pv 5))))) (aG (cP (cO hr.bL) cQ (aK (pv 2)) (aG (dG uW uY (aG (dG lQ lU (aK (pv 6)) (aG (dG yq yt (aG (aU bh)) (aK (pv 7)))))) (aG (aU bh)))) (λ_ _=>rfl))))) (aG (qX (aK (pv 4)) (pI (aK (pv 5))) ud)))))) (bV (tQ (pv 3)))))))
theorem alw{P:bD}{w:bB}{K:aJ}{mg:Str->Option Value}{base:bz}{cu:Tok}{f:aq}{fd:dF}(F:fH K "_law_full" "_law_full" Vp f fd)(T:Txt K mg cu)(ir:cZ P w K mg base "_law_pick" 2 zaz (spT K gJ))(CP:cZ P w K mg base "_law_parts_over" 1 za2 (spT K CN))(Rm:cZ P w K mg base "_law_long_names" 3 zaz (spT K J8)):dw P w K mg base eG 4 f fd zaz (spT K M4):=
 iD (body:=Vr) F qO λcdv A outer s H E hr=>(bK (gM (i:=2) qO.nd rfl (dj rfl) (bZ Rm (hr.mono (by decide)) rfl (aD (aP (pv 0)) (aD (aU bh) bA)))) (bK (vY (i:=3) (j:=4) rfl qO.nd rfl rfl (by decide) rfl rfl (j6 Ug (j6 (bZ ir (hr.mono (by decide)) rfl (aD (aP (pv 0)) (aD (aU bh) bA))) tY)) rfl) (bK (qP m7 rfl (z7 rfl T.vQ (aG (aU bh))) (jz (i:=5) qO.nd rfl (dj rfl)) jR (bV (DR hr.bL (pv 3) (aG (cP (cO hr.bL) cQ (aK (pv 2)) (aK (pv 5)) (λ_ _=>rfl))) (Wo (gf Wg Wn (aK (pv 5)) (aG (aU bh)) (gK _)) (cP (cO hr.bL) cQ (aG (j8 (aD (cP (cO hr.bL) cQ (aK (pv 2)) (aG (dG M7 Nh (aK (pv 5)) (aG (aU bh)))) (λ_ _=>rfl)) (aD (cP (cO hr.bL) cQ (aK (pv 2)) (aG (aU bh)) (λ_ _=>rfl)) (aD (aU Af) bA))))) (aK (pv 4)) (λ_ _=>rfl)) (aU Af))))) (bK (vY (i:=6) (j:=7) rfl qO.nd rfl rfl (by decide) rfl rfl (j6 (qX (aK (pv 2)) (pI (aG (aU bh))) (pI (aG (dG lQ lU (aG (aU bh)) (aG (bZ ir (hr.mono (by decide)) rfl (aD (aP (pv 0)) (aD (aU bh) bA)))))))) (j6 (cP (cO hr.bL) cQ (aG (j8 (aD (aU bh) (aD (aU bh) (aD (bZ ir (hr.mono (by decide)) rfl (aD (aP (pv 0)) (aD (aU bh) bA))) bA))))) (aG (bZ ir (hr.mono (by decide)) rfl (aD (aP (pv 0)) (aD (aU bh) bA)))) (λ_ _=>rfl)) tY)) rfl) (bK (gM (i:=8) qO.nd rfl (dj rfl) (jL (aD (cP (cO hr.bL) cQ (aK (pv 2)) (aG (cP (cO hr.bL) cQ (aG (j8 (aD (aU bh) (aD (bZ ir (hr.mono (by decide)) rfl (aD (aP (pv 0)) (aD (aU bh) bA))) bA)))) (aG (bZ ir (hr.mono (by decide)) rfl (aD (aP (pv 0)) (aD (aU bh) bA)))) (λ_ _=>rfl))) (λ_ _=>rfl)) (aD (dG M7 Nh (aG (dG M8 Ni (aG (aU bh)) (aG (aU bh)))) (aG (bZ ir (hr.mono (by decide)) rfl (aD (aP (pv 0)) (aD (aU bh) bA))))) (aD (aU Af) (aD (aU Af) bA)))))) (bK (am1 (i:=9) (j:=10) (k:=11) rfl qO.nd rfl rfl rfl (by decide) (by decide) (by decide) rfl rfl rfl (j6 (j8 bA) (j6 (aU bh) (j6 (bZ CP (hr.mono (by decide)) rfl (aD (aP (pv 3)) (aD (cP (cO hr.bL) cQ (aK (pv 8)) (aG (aU bh)) (λ_ _=>rfl)) bA))) tY))) rfl) (bK (qP m7 rfl (z7 rfl T.vQ (aK (pv 1))) (jz (i:=5) qO.nd rfl (dj rfl)) jR (bK (gM (i:=10) qO.nd rfl (dj rfl) (dG lQ lU (aG (dG lQ lU (aK (pv 10)) (aG (aU bh)))) (aG (bZ ir (hr.mono (by decide)) rfl (aD (aP (pv 0)) (aD (aU bh) bA)))))) (bK (vY (i:=12) (j:=13) rfl qO.nd rfl rfl (by decide) rfl rfl (j6 (bZ ir (hr.mono (by decide)) rfl (aD (aP (pv 0)) (aD (jq rN rT rfl T.pK (by decide +kernel) (eU (aK (pv 6)) fZ)) bA))) (j6 (cP (cO hr.bL) cQ (aK (pv 2)) (aG (bZ ir (hr.mono (by decide)) rfl (aD (aP (pv 0)) (aD (aU bh) bA)))) (λ_ _=>rfl)) tY)) rfl) (bK (gM (i:=14) qO.nd rfl (dj rfl) (dG uW uY (aG (dG lQ lU (aG (dG lQ lU (aK (pv 12)) (aG (aU bh)))) (aG (dG yq yt (aG (bZ ir (hr.mono (by decide)) rfl (aD (aP (pv 0)) (aD (aU bh) bA)))) (aG (bZ ir (hr.mono (by decide)) rfl (aD (aP (pv 0)) (aD (dG M7 Nh (aG (jq rN rT rfl T.pK (by decide +kernel) (eU (aK (pv 6)) fZ))) (aG (aU bh))) bA)))))))) (aG (jq rN rT rfl T.pK (by decide +kernel) (eU (aK (pv 6)) fZ))))) (bK (jB (gf Wg Wn (aG (bZ ir (hr.mono (by decide)) rfl (aD (aP (pv 0)) (aD (aU bh) bA)))) (aG (aU bh)) (gK _)) (bV (gM (i:=13) qO.nd rfl (dj rfl) (cP (cO hr.bL) cQ (aK (pv 11)) (aG (bZ ir (hr.mono (by decide)) rfl (aD (aP (pv 0)) (aD (jq rN rT rfl T.pK (by decide +kernel) (eU (aK (pv 11)) fZ)) bA)))) (λ_ _=>rfl)))) jA) (bK (gM (i:=15) qO.nd rfl (dj rfl) (cP (cO hr.bL) cQ (aG (j8 (aD (jL (aD (aU bh) (aD (aU bh) bA))) (aD (jL (aD (aP (pv 7)) (aD (aP (pv 7)) bA))) (aD (jL (aD (aU bh) (aD (aP (pv 7)) bA))) (aD (jL (aD (aP (pv 7)) (aD (aU bh) bA))) bA)))))) (aG (bZ ir (hr.mono (by decide)) rfl (aD (aP (pv 0)) (aD (aU bh) bA)))) (λ_ _=>rfl))) (bV (HB (pv 9) (dG lQ lU (aG (dG lQ lU (aG (jL (aD (aP (pv 10)) (aD (cP (cO hr.bL) cQ (aK (pv 6)) (aK (pv 12)) (λ_ _=>rfl)) (aD (cP (cO hr.bL) cQ (aK (pv 6)) (aK (pv 14)) (λ_ _=>rfl)) (aD (aP (pv 13)) bA)))))) (aK (pv 15)))) (aG (jL (aD (dG M7 Nh (aG (dG M8 Ni (aG (aU bh)) (aG (aU bh)))) (aG (bZ ir (hr.mono (by decide)) rfl (aD (aP (pv 0)) (aD (aU bh) bA))))) bA)))))))))))) (bV (eV (jL (aD (aP (pv 3)) (aD (aP (pv 6)) (aD (aP (pv 9)) (aD (aP (pv 8)) (aD (aP (pv 7)) bA)))))))))))))))
theorem ahS{P:bD}{w:bB}{K:aJ}{mg:Str->Option Value}{base:bz}{cu:Tok}{f:aq}{fd:dF}(F:fH K "_law_full_right" "_law_full_right" Gm f fd)(T:Txt K mg cu)(vM:cZ P w K mg base "row_of" 3 zac (spT K xY))(QK:cZ P w K mg base "leaves_in_all" 4 zac (spT K JT))(RC:cZ P w K mg base "signers_of" 3 zae (spT K Gu))(Ux:cZ P w K mg base "is_row" 3 zas (spT K Mr))(Tz:cZ P w K mg base "most_of" 4 zau (spT K GD))(ir:cZ P w K mg base "_law_pick" 2 zaz (spT K gJ))(ym:cZ P w K mg base "_law_same" 3 za0 (spT K (lR 3)))(R9:cZ P w K mg base "_law_shuffled" 3 za1 (spT K Gx))(Sd:cZ P w K mg base "_law_house_of" 1 za3 (spT K KZ))(K3:cZ P w K mg base "_law_all_rows" 3 za6 (spT K zV))(RG:cZ P w K mg base "_law_widest_of" 3 za6 (spT K Kv))(Vs:cZ P w K mg base "_law_full" 4 zaz (spT K M4)):dw P w K mg base eG 5 f fd zaz (spT K vI):=
 iD (body:=Rj) F mz λcdv A outer s H E hr=>(bK (Nm (bZ Vs (hr.mono (by decide)) rfl (aD (aP (pv 0)) (aD (aP (pv 1)) bA))) (Hs rfl (qN (jz (i:=2) mz.nd rfl (tW rfl)) (qN (jz (i:=3) mz.nd rfl (tW rfl)) (qN (jz (i:=4) mz.nd rfl (dj rfl)) (qN (jz (i:=5) mz.nd rfl (dj rfl)) (qN (jz (i:=6) mz.nd rfl (dj rfl)) G9)))))) (Nk (tL jR (tL jR (tL jR (tL jR (tL jR Mz))))))) (bK (gM (i:=7) mz.nd rfl (dj rfl) (z6 J1 Ma rfl T.vR (by decide +kernel) (eU (aG (j8 (aD (jL (aD (aU bh) (aD (aU Af) bA))) (aD (jL (aD (aU bh) (aD (cP (cO hr.bL) cQ (aG (jq (JZ rfl) Mp rfl T.tM (by decide +kernel) (eU (aK (pv 2)) fZ))) (aG (aU bh)) (λ_ _=>rfl)) bA))) bA)))) fZ))) (bK (GR (i:=8) (T:=.one) (NT:=(["_law_number"]:List Str)) (NF:=(["_law_people","_law_parts"]:List Str)) (js:=[3,2]) (nP.ok (N0:=za9) (lH:=cG Gm) (by decide +kernel) rfl rfl) (⟨_,⟨_,rfl⟩,rfl⟩) rfl (z7 rfl T.vQ (aG (aU bh))) (λb=>⟨vN,(jL (aD (aP (pv 0)) (aD (cP (cO hr.bL) cQ (aK (pv 1)) (aG (dG uW uY (aK (pv 0)) (aG (aU bh)))) (λ_ _=>rfl)) (aD (dG lQ lU (aG (aU bh)) (aG (dG uW uY (aK (pv 0)) (aG (aU bh))))) (aD (cP (cO hr.bL) cQ (aG (jq (JZ rfl) Mp rfl T.tM (by decide +kernel) (eU (aK (pv 2)) fZ))) (aG (dG uW uY (aK (pv 0)) (aG (aU bh)))) (λ_ _=>rfl)) (aD (aU bh) (aD (aU bh) bA)))))))⟩) (by rfl) mz.nd rfl rfl) (bK (gM (i:=9) mz.nd rfl (dj rfl) (bZ Sd (hr.mono (by decide)) rfl (aD (aP (pv 2)) (aD (aP (pv 4)) bA)))) (bK (gM (i:=9) mz.nd rfl (dj rfl) (jL (aD (cP (cO hr.bL) cQ (aK (pv 9)) (aG (aU bh)) (λ_ _=>rfl)) (aD (dG adk adl (aG (z6 J1 Ma rfl T.vR (by decide +kernel) (eU (aK (pv 8)) fZ))) (aG (bZ ir (hr.mono (by decide)) rfl (aD (aP (pv 0)) (aD (aU bh) bA))))) (aD (cP (cO hr.bL) cQ (aK (pv 9)) (aG (aU bh)) (λ_ _=>rfl)) (aD (dG adk adl (aG (jL (aD (jL (aD (cP (cO hr.bL) cQ (aK (pv 5)) (aG (aU bh)) (λ_ _=>rfl)) (aD (aU bh) (aD (aP (pv 7)) bA)))) bA))) (aG (bZ ir (hr.mono (by decide)) rfl (aD (aP (pv 0)) (aD (aU bh) bA))))) bA)))))) (bK (gM (i:=10) mz.nd rfl (dj rfl) (qX (aG (bZ R9 (hr.mono (by decide)) rfl (aD (aP (pv 0)) (aD (aP (pv 3)) bA)))) ud (pI (aG (aU bh))))) (bK (qP m7 rfl (yQ (aP (pv 10))) (jz (i:=11) mz.nd rfl (dj rfl)) jR (bK (vY (i:=12) (j:=13) rfl mz.nd rfl rfl (by decide) rfl rfl (j6 (bZ K3 (hr.mono (by decide)) rfl (aD (aP (pv 2)) (aD (aP (pv 4)) (aD (aP (pv 5)) (aD (aP (pv 11)) (aD (aP (pv 6)) bA)))))) (j6 (bZ RG (hr.mono (by decide)) rfl (aD (aP (pv 2)) (aD (aP (pv 4)) (aD (aP (pv 5)) (aD (aP (pv 11)) (aD (aP (pv 6)) bA)))))) tY)) rfl) (bK (jB (vV (lB (aG (bZ ym (hr.mono (by decide)) rfl (aD (bZ RC (hr.mono (by decide)) rfl (aD (aP (pv 9)) (aD (aP (pv 5)) (aD (aP (pv 11)) (aD (aP (pv 6)) bA))))) (aD (jq (JZ rfl) Mp rfl T.tM (by decide +kernel) (eU (aK (pv 12)) fZ)) bA)))))) (bV (eV (aU rW))) jA) (bK (qP m7 rfl (yQ (qX (aK (pv 3)) ud (pI (aG (aU bh))))) (jz (i:=14) mz.nd rfl (dj rfl)) jR (bK (gM (i:=15) mz.nd rfl (dj rfl) (Nt hr.bL (aK (pv 12)) (aK (pv 14)) (aU p6) ⟨rfl,rfl,rfl,rfl⟩)) (bK (jB (vV (lB (aG (bZ ym (hr.mono (by decide)) rfl (aD (bZ vM (hr.mono (by decide)) rfl (aD (aP (pv 9)) (aD (aP (pv 5)) (aD (aP (pv 11)) (aD (aP (pv 14)) (aD (aP (pv 6)) bA)))))) (aD (aP (pv 15)) bA)))))) (bV (eV (aU rW))) jA) (bK (jB (vV (lB (aG (bZ ym (hr.mono (by decide)) rfl (aD (bZ Tz (hr.mono (by decide)) rfl (aD (aP (pv 9)) (aD (cP (cO hr.bL) cQ (aK (pv 5)) (aG (aU bh)) (λ_ _=>rfl)) (aD (qX (aK (pv 5)) (pI (aG (aU bh))) ud) (aD (aP (pv 11)) (aD (aP (pv 14)) (aD (aP (pv 6)) bA))))))) (aD (Nt hr.bL (aK (pv 13)) (aK (pv 14)) (aU p6) ⟨rfl,rfl,rfl,rfl⟩) bA)))))) (bV (eV (aU rW))) jA) (bV (jB (PW.pt (yw (gf acC acX (aK (pv 15)) (aG (aU p6)) (gK _)) (My (gf ahW am3 (aG (bZ Ux (hr.mono (by decide)) rfl (aD (aP (pv 9)) (aD (aP (pv 5)) (aD (aP (pv 11)) (aD (aP (pv 14)) (aD (aP (pv 6)) (aD (aP (pv 15)) bA)))))))) (aG (aU rW)) (gK _))))) (bV (eV (aU rW))) jA)))))) (bK (vY (i:=14) (j:=16) rfl mz.nd rfl rfl (by decide) rfl rfl (j6 (cP (cO hr.bL) cQ (aK (pv 3)) (aG (bZ ir (hr.mono (by decide)) rfl (aD (aP (pv 0)) (aD (jq rN rT rfl T.pK (by decide +kernel) (eU (aK (pv 3)) fZ)) bA)))) (λ_ _=>rfl)) (j6 (j8 bA) tY)) rfl) (bK (qP m7 rfl (yQ (aP (pv 4))) (jz (i:=17) mz.nd rfl (tW rfl)) jR (bK (gM (i:=18) mz.nd rfl (dj rfl) (bZ K3 (hr.mono (by decide)) rfl (aD (aP (pv 2)) (aD (wF (T:=.one) (NT:=(["_law_one"]:List Str)) (NF:=zbd) (js:=[17]) (nP.ok (N0:=za9) (lH:=cG Gm) (by decide +kernel) rfl rfl) (⟨_,⟨_,rfl⟩,rfl⟩) rfl (Bs (aK (pv 4))) (λb=>⟨(yj (gf (Ah hr.units) Ax (aK (pv 0)) (aK (pv 1)) (gK _))),(aP (pv 0))⟩)) (aD (aP (pv 5)) (aD (aP (pv 11)) (aD (aP (pv 6)) bA))))))) (bV (gM (i:=16) mz.nd rfl (dj rfl) (dG lQ lU (aK (pv 16)) (aG (dG amQ amR (aG (j8 (aD (cP (cO hr.bL) cQ (aK (pv 17)) (aG (aU bh)) (λ_ _=>rfl)) bA))) (aG (z6 aaS ad2 rfl T.Em (by decide +kernel) (eU (aG (vW (qb (rQ hr.bL) sr (aK (pv 14)) (aK (pv 12)) (by with_unfolding_all rfl)) (yx (qb (Dh hr.bL) Dk (aK (pv 14)) (aK (pv 18)) (by with_unfolding_all rfl))))) fZ)))))))))) (bV (jB (vV (lB (aG (bZ ym (hr.mono (by decide)) rfl (aD (bZ QK (hr.mono (by decide)) rfl (aD (aP (pv 9)) (aD (aP (pv 5)) (aD (aP (pv 11)) (aD (aP (pv 14)) (aD (aP (pv 6)) bA)))))) (aD (aP (pv 16)) bA)))))) (bV (eV (aU rW))) jA)))))))) (bV (eV (aU rW))))))))))
theorem aoH{P:bD}{w:bB}{K:aJ}{mg:Str->Option Value}{base:bz}{cu:Tok}{f:aq}{fd:dF}(F:fH K "law" "law" Wu f fd)(T:Txt K mg cu)(J9:cZ P w K mg base "_law_drawn_from" 1 zay (spT K vH))(Ka:cZ P w K mg base "_law_full_right" 5 zaz (spT K vI)):dw P w K mg base eG 6 f fd zba (spT K Ih):=
 iD (body:=Ww) F aoG λcdv A outer s H E hr=>(bV (eV (vW (aee Ka (hr.mono (by decide)) rfl (bZ J9 (hr.mono (by decide)) rfl (aD (aP (pv 0)) (aD (aU bh) bA))) (aD (aU bh) bA)) (yx (aee Ka (hr.mono (by decide)) rfl (bZ J9 (hr.mono (by decide)) rfl (aD (aP (pv 0)) (aD (aU bh) bA))) (aD (aU bh) bA))))))
local macro_rules|`(tactic|simp_arith[$ts,*])=>`(tactic|simp only[apJ,apK,apL,apn,apo,aqq,apq,aqr,apr,aqs,aps,aM,dU,jN,Ip,aO,dat,still,bN,eY,az,aW,dM,eX,jC,dH,bG,dX,oJ,iR,Ep,jD,ji,Eg,iB,iV,uC,iV2,Jj,W3,lY,frB,mX,setM,Bq,BR,qe,Ba,dz,gF,add_int,sub_int,le_int,lt_int,ge_int,gt_int,eq_int,ade,Hl,amP,aqv,aqw,Ou,Ov,W5,afi,aqn,aqo,aqp,alh,aqt,aoy,apt,apu,aqu,Option.bind_some,Option.map_some,List.getElem?_cons_zero,List.getElem?_cons_succ,List.set_cons_zero,List.set_cons_succ,List.map_cons,List.map_nil,List.length_cons,List.length_nil,Bool.not_true,Bool.not_false,if_true,if_false,ite_self,Bool.false_eq_true,Option.join,id_eq,Nat.reduceAdd,Nat.reduceLeDiff,Nat.reduceLT,and_true,true_and,and_self,String.reduceBEq,Bool.or_false,Bool.or_true,Bool.false_or,Bool.true_or,Bool.and_true,Bool.and_false,Bool.true_and,Bool.false_and,decide_true,decide_false,reduceCtorEq,eq_bool,ne_bool,ne_int,apv,apw,beq_self_eq_true,List.length_map,apx,apy,apz,apA,apB,apC,apD,apE,apF,apG,aa9,abd,ux,Es,intD,Og,cond_true,cond_false,$ts,*])
theorem aef{C:Ce}{c k:Int}(k0:0<=k)(k1:k<=1000000):∃r:Int,HJ [.im (.int c),.im (.int k)] C=aa (.im (.int r),C)/\0<=r:=by
 obtain⟨m,hm⟩:∃m,(c%2147483629+k*k*7919+11)*48271%2147483647=m:=⟨_,rfl⟩
 have m0:0<=m:=by rw[<-hm];exact xP _ (by decide)
 have m1:m<2147483647:=by rw[<-hm];exact Fo _ (by decide)
 refine⟨m*m%1999999973,fM [aa (.im (.int c)),aa (.im (.int k)),aj] rfl rfl ?_ rfl rfl,xP _ (by decide)⟩
 simp_arith[V8,mod_eq (i:=c) (j:=2147483629) (by decide),mul_eq (i:=k) (j:=k) (.inl (by lia)),mul_eq (i:=k*k) (j:=7919) (.inr (by decide)),mul_eq (i:=c%2147483629+k*k*7919+11) (j:=48271) (.inr (by decide)),mod_eq (i:=(c%2147483629+k*k*7919+11)*48271) (j:=2147483647) (by decide),hm,mul_eq (i:=m) (j:=m) (.inl (by lia)),mod_eq (i:=m*m) (j:=1999999973) (by decide)]
theorem j7{C:Ce}{b L k:Nat}{m:Int}(h:Bl L C b (k+1))(h0:0<m)(h1:m<1073741824):
  ∃t C',gJ [.ce b,.im (.int m)] C=aa (.im (.int t),C')/\0<=t/\t<m/\Bl L C' b k:=by
 obtain⟨hL,x,y,z,hc,hx,hz,hz2⟩:=h
 have i0:pN 3 0=aa 0:=rfl;have i2:pN 3 2=aa 2:=rfl;have c2:(C.set b [x,y,z+1])[b]?=aa [x,y,z+1]:=aea hc;by_cases hp:0<x
 .refine⟨x%m,(C.set b [x,y,z+1]).set b [x / m,y,z+1],fM [aa (.ce b),aa (.im (.int m)),aj] rfl rfl ?_ rfl (by simp),xP _ (by lia),Fo _ h0,⟨by simpa using hL,x / m,y,z+1,aea c2,Int.ediv_nonneg hx (by lia),by lia,by lia⟩⟩
  simp_arith[M3,uq,hc,c2,hp,mod_eq h0,fdiv_eq h0 h1,oN,qW,i0,i2]
 .obtain⟨r1,e1,p1⟩:=aef (C:=C.set b [x,y,z+1]) (c:=y) (k:=z+1) (by lia) (by lia)
  obtain⟨r2,e2,p2⟩:=aef (C:=C.set b [x,y,z+1]) (c:=r1) (k:=z+1+64) (by lia) (by lia)
  refine⟨r2 / 64%m,C.set b [x,y,z+1],fM [aa (.ce b),aa (.im (.int m)),aj] rfl rfl ?_ rfl (by simp),xP _ (by lia),Fo _ h0,⟨by simpa using hL,x,y,z+1,c2,hx,by lia,by lia⟩⟩
  simp_arith[M3,uq,hc,c2,hp,oN,qW,i0,i2,e1,e2,fdiv_eq (j:=64) (by lia) (by lia),mod_eq h0]
theorem alx{C:Ce}{ns:List Int}{k:Int}(k0:0<=k)(k9:k<=100):∃x y:Int,vH [.sc ns,.im (.int k)] C=aa (.ow (.list [.int x,.int y,.int 0]),C)/\0<=x:=by
 obtain⟨c,hc⟩:∃c:Int,vf (dU (aR Bo (aH 1) (aA (Ei 0)))) (Ir 0 (aH 1)) (aO (.int 0)) [aa (.sc ns),aa (.im (.int k)),aj] C=aa (.im (.int c),[aa (.sc ns),aa (.im (.int k)),aj],C):=by
  by_cases h:k<ns.length
  .obtain⟨c,hc,_⟩:=aeb (xs:=ns) k0 h
   exact⟨c,by simp_arith[Ei,Ir,h,hc]⟩
  .exact⟨0,by simp_arith[Ei,h]⟩
 have a0:0<=(if c<0 then -c else c):=by split<;>lia
 obtain⟨a,hA⟩:∃a,(if c<0 then -c else c)=a:=⟨_,rfl⟩
 rw[hA] at a0;have pw:rZ (.int 10) (.int 18)=aa (.im (.int 1000000000000000000)):=rfl
 obtain⟨j,x,hj,hx,x0⟩:∃(j x:Int),(if decide (1000000000000000000<=a)=ao then(1:Int) else 0)=j/\fG [ie 0,.int a] j=aa (.int x)/\0<=x:=by
  by_cases h:1000000000000000000<=a
  .exact⟨1,a,by rw[aV (cY h)],rfl,a0⟩
  .exact⟨0,0,by rw[bf (by simpa using h)],rfl,rH _⟩
 refine⟨x,c+1000003*k,fM [aa (.sc ns),aa (.im (.int k)),aj] rfl rfl ?_ rfl rfl,x0⟩
 simp_arith[Rg,↓hc,HS,hA,pw,Bb,hj,hx,mul_eq (i:=1000003) (j:=k) (.inl (by decide))]
theorem am5{fe:FE}(he:fe=aR bI (aH 1) (aA (bN gJ (az (aM 2) (az (aO (.int 26)) aW))))){C:Ce}{b L j w:Nat}{size:Int}(h:Bl L C b (j+w))(h0:0<=size)(h1:size<=w):
  ∃(cs:List Nat)(C':Ce),jU .one iZ fe [aa (.im (.str abc)),aa (.ce b)] (jV 0 size.toNat) C=aa ((cs.map λc=>.str ⟨#[c]⟩),C')/\cs.length=size.toNat/\(∀c∈cs,97<=c/\c<=122)/\Bl L C' b j:=by
 subst he;refine hide λGG gg=>?_
 obtain⟨ys,C',e,hB,hl,hr⟩:=aa7 (T:=.one) (fe:=aR bI (aH 1) (aA (bN gJ (az (aM 2) (az (aO (.int 26)) aW))))) (fs:=[aa (.im (.str abc)),aa (.ce b)]) (λi C1=>Bl L C1 b (j+(w-i))) (λ_ y=>∃c:Nat,y=.str ⟨#[c]⟩/\97<=c/\c<=122) (its:=jV 0 size.toNat) (C:=C) (k:=0) h (λi d C1 hd hB=>by
  obtain⟨rfl,hi⟩:=Vj hd
  rw[Rp] at hB⊢;rw[aoz j (by lia:i<w)] at hB
  obtain⟨k1,C2,e1,a1,b1,nY⟩:=j7 (m:=26) hB (by decide) (by decide)
  refine⟨_,.im (.str ⟨#[97+k1.toNat]⟩),[aa (.im (.int (0+i))),aa (.im (.str abc)),aa (.ce b)],C2,.str ⟨#[97+k1.toNat]⟩,rfl,?_,rfl,⟨_,rfl,by lia,by lia⟩,nY⟩
  simp_arith[dN,mR,jy,e1,bI,letters k1 a1 b1])
 rw[z8] at hB hl
 obtain⟨cs,rfl,hcs⟩:∃cs:List Nat,ys=cs.map (λc=>.str ⟨#[c]⟩)/\∀c∈cs,97<=c/\c<=122:=by
  clear e hl hB gg;induction ys with
  |nil=>exact⟨[],rfl,λ_ m=>(nomatch m)⟩
  |cons y ys ih=>
   obtain⟨c,rfl,c1,c2⟩:=hr 0 y rfl
   obtain⟨cs,rfl,h2⟩:=ih λi z hz=>hr (i+1) z (by simpa using hz)
   exact⟨c::cs,rfl,λx hx=>by
    rcases bY.mp hx with rfl|hx
    .exact⟨c1,c2⟩
    .exact h2 x hx⟩
 exact gg ⟨cs,C',e,by simpa using hl,hcs,hB.mono (Nat.le_add_right _ _)⟩
theorem am6{cs:List Nat}(h:cs.length<=100):∃z:Str,Nu (.str (dO "")) (.list (cs.map λc=>.str ⟨#[c]⟩))=aa (.im (.str z))/\z.cps.toList=cs/\z.length=cs.length:=by
 refine⟨Txt.join (dO "") (cs.map λc=>⟨#[c]⟩),?_,aaD cs,?_⟩
 .simp only[Nu,Z7];refine aV ?_;rw[cU,ac9,aj8,Nat.mul_zero];unfold gF;lia
 .have:=congrArg rG (aaD cs);rw[<-this];show _=(Txt.join (dO "") (cs.map λc=>⟨#[c]⟩)).cps.toList.length;simp;rfl
theorem aly{C:Ce}{ps:List (Str×Str)}:∀{z:Str}{os:List Str},Over (jr ps) z os->∀(n:Nat)(acc:List Str),os.length<n->acc.length+os.length<1000->
  ∃z',j9 YX YZ n [aa (.im (.dict (aL (bF ps)))),aa (.im (.str z)),aa (.ow (.list (acc.map .str)))] C=aa (.nx,[aa (.im (.dict (aL (bF ps)))),aa (.im (.str z')),aa (.ow (.list ((acc++os).map .str)))],C):=by
 have hin:∀z,jM (.str z) (.dict (aL (bF ps)))=aa (.im (.bool (jr ps z).isSome)):=λz=>by
  show((mG (aL (bF ps)) (.str z)).map (·.isSome)).map (λb=>Vl.im (.bool b))=_
  rw[Ml];cases jr ps z<;>rfl
 intro z os ho;induction ho with
 |@stop z h=>
  intro n acc hn ha;cases n with
  |zero=>exact absurd hn (zH _)
  |succ n=>
   refine⟨z,?_⟩
   unfold j9;simp_arith[hin,h,Yt,jd]
 |@step z y r h _ ih=>
  intro n acc hn ha;cases n with
  |zero=>exact absurd hn (zH _)
  |succ n=>
   rw[cA] at hn ha
   obtain⟨z',e⟩:=ih n (acc++[z]) (by lia) (by rw[fU];show acc.length+1+_<_;lia)
   refine⟨z',?_⟩
   have g:(acc.length<1000000)=True:=eq_true (by lia);have i:bI (.dict (aL (bF ps))) (.str z)=aa (.im (.str y)):=by
    unfold bI uy;simp only[Ml,h,jG]
   simp only[jZ,cj,oE,lA,mR,jy] at e⊢;unfold j9;simp_arith[hin,h,Fj,g,sO,yE,i,e]
theorem ab2{C:Ce}{zs:List Str}{ps:List (Str×Str)}(hN:Names zs)(hP:gn zs ps)(h8:ps.length<=8)(z:Str):
  CN [.im (.dict (aL (bF ps))),.im (.str z)] C=aa (.ow (.list ((up ps z).map .str)),C):=by
 have hul:=V2 ps z
 obtain⟨z',e⟩:=aly (C:=C) (MP hN hP z) Eh [] (by show _<100000;lia) (by show 0+_<1000;lia)
 rw[oE,jy] at e;refine fM [aa (.im (.dict (aL (bF ps)))),aa (.im (.str z)),aj] rfl rfl ?_ rfl rfl;simp_arith[Rh,uA,e]
theorem ab3{C:Ce}:∀(l q:List (Str×Str)),((q++l).map (·.1)).Nodup->(q++l).length<=8->su (.many 2) iZ QH QJ [] (l.map u5) (aL (bF q)) C=aa (aL (bF (q++l)),C)
 |[],q,_,_=>by rw[jd];rfl
 |x::l,q,nd,h8=>by
  have ih:=ab3 (C:=C) l (q++[x]) (by rw[lA];exact nd) (by rw[lA];exact h8);have hx:x.1∉(bF q).map (·.1):=by
   unfold bF;rw[cU];show x.1∉q.map (·.1);rw[jZ,kE] at nd;exact λhm=>nd.2.2 _ hm _ dg rfl
  have hl:(aL (bF q)).length<gF:=by
   unfold aL bF;rw[fU] at h8;rw[bw,bw];show _<1000000;lia
  rw[cj];unfold su;rw[show vq (.many 2) (u5 x)=aa [.str x.1,.str x.2] from rfl]
  show(if(aL (bF q)).length<gF then su (.many 2) iZ QH QJ [] (l.map u5) (mL cL (.inr x.1) (.str x.1) (.str x.2) (aL (bF q))) C else aj)=_
  rw[aV hl,abX hx];have e:bF q++[(x.1,.str x.2)]=bF (q++[x]):=by unfold bF;rw[jZ];rfl
  rw[e,ih,lA];rfl
theorem am7{C:Ce}{hs:Option Vl}{q ps:List (Str×Str)}(hl:∀z,jr q z=jr ps z):∀{z:Str}{os:List Str},Over (jr ps) z os->∀(n:Nat)(acc:List Str),os.length<n->acc.length+os.length<1000->
  ∃z',j9 Za Zb n [hs,aa (.im (.str z)),aa (.ow (.dict (aL (bF q)))),aa (.ow (.list (acc.map .str)))] C=aa (.nx,[hs,aa (.im (.str z')),aa (.ow (.dict (aL (bF q)))),aa (.ow (.list ((acc++os).map .str)))],C):=by
 have hin:∀z,jM (.str z) (.dict (aL (bF q)))=aa (.im (.bool (jr ps z).isSome)):=λz=>by
  show((mG (aL (bF q)) (.str z)).map (·.isSome)).map (λb=>Vl.im (.bool b))=_
  rw[Ml,hl];cases jr ps z<;>rfl
 intro z os ho;induction ho with
 |@stop z h=>
  intro n acc hn ha;cases n with
  |zero=>exact absurd hn (zH _)
  |succ n=>
   refine⟨z,?_⟩
   unfold j9;simp_arith[hin,h,Yt,jd]
 |@step z y r h _ ih=>
  intro n acc hn ha;cases n with
  |zero=>exact absurd hn (zH _)
  |succ n=>
   rw[cA] at hn ha
   obtain⟨z',e⟩:=ih n (acc++[z]) (by lia) (by rw[fU];show acc.length+1+_<_;lia)
   refine⟨z',?_⟩
   have g:(acc.length<1000000)=True:=eq_true (by lia);have i:bI (.dict (aL (bF q))) (.str z)=aa (.im (.str y)):=by
    unfold bI uy;simp only[Ml,hl,h,jG]
   simp only[jZ,cj,oE,lA,mR,jy] at e⊢;unfold j9;simp_arith[hin,h,Fj,g,sO,yE,i,e]
theorem ah7{C:Ce}{zs:List Str}{ps:List (Str×Str)}{ht:iC}(hN:Names zs)(hP:gn zs ps)(hG:j0 zs ps ht)(z:Str):
  Ko [.im (gB ht),.im (.str z)] C=aa (.ow (.list ((up ps z).map .str)),C):=by
 have nd:=CV hN hP;have nd':(ht.ps.map (·.1)).Nodup:=(hG.parts.map (·.1)).nodup_iff.mpr nd;have hL:ht.ps.length<=8:=by rw[hG.parts.length_eq];exact hG.p8
 have t:=ab3 (C:=C) ht.ps [] nd' hL;rw[show aL (bF [])=[] from rfl,jy] at t;have hul:=V2 ps z;have h8:=hG.p8
 obtain⟨z',e⟩:=am7 (C:=C) (hs:=aa (.im (gB ht))) (ajh hG.parts nd) (MP hN hP z) Eh [] (by show _<100000;lia) (by show 0+_<1000;lia)
 rw[oE,jy] at e;refine fM [aa (.im (gB ht)),aa (.im (.str z)),aj,aj] rfl rfl ?_ rfl rfl;simp_arith[Ru,zm,t,abY,uA,e]
theorem Ae{C:Ce}{z a1 b1 p:Str}{n:Int}:qM [.im (.tuple [.str z,.int n,.str a1,.str b1]),.im (.str p)] C=aa (.im (.bool (decide (p=a1\/p=b1))),C):=by
 have ct:lG [dR z,.int n,.str a1,.str b1] (aa 2) (aa 4)=[.str a1,.str b1]:=rfl;have i1:jM (.str p) (.tuple [.str a1,.str b1])=aa (.im (.bool (decide (p=a1\/p=b1)))):=by
  have:inB (.str p) (.tuple [.str a1,.str b1])=aa (inD (.str p) ([a1,b1].map .str)):=aV (c:=(lC (.str p)&&[dR a1,.str b1].all lC)=ao) (e:=aj) rfl;unfold jM;rw[this,Mi];simp
 refine fM [aa (.im (.tuple [.str z,.int n,.str a1,.str b1])),aa (.im (.str p))] rfl rfl ?_ rfl rfl;simp_arith[Tv,gG,gj,lZ,ct,i1]
def iT(os:List Str)(n day:Int)(a1 b1:Str)(r:bR):Bool:=decide (r.2.2.2.1∈os)&&((decide (r.2.2.2.2.1<=day)&&decide (day<=r.2.2.2.2.2.1))&&(decide (n<=r.2.2.2.2.2.2)&&(!decide (r.2.1=a1\/r.2.1=b1)&&!decide (r.2.2.1=a1\/r.2.2.1=b1))))
def Et(r:bR):au:=.tuple [.int r.1,.str r.2.1,.str r.2.2.1]
abbrev cI(z a1 b1:Str)(n:Int):au:=.tuple [.str z,.int n,.str a1,.str b1]
theorem am8{C:Ce}{zs:List Str}{ps:List (Str×Str)}{ht:iC}(hN:Names zs)(hP:gn zs ps)(hG:j0 zs ps ht)(z a1 b1:Str)(n day:Int):
  tK [.im (gB ht),.im (cI z a1 b1 n),.im (.int day)] C=aa (.ow (.list ((ht.leaves.filter (iT (up ps z) n day a1 b1)).map Et)),C):=by
 have p:=ah7 (C:=C) hN hP hG z;have h16:=hG.jE
 obtain⟨l,lE⟩:∃l,l=ht.leaves.filter (iT (up ps z) n day a1 b1):=⟨_,rfl⟩
 have ll:l.length<=16:=by rw[lE];exact jQ (xu _ _) h16
 have t:jU (.many 7) Rv Rw [aa (.im (.list ((up ps z).map .str))),aa (.im (.int day)),aa (.im (cI z a1 b1 n))] (ht.leaves.map bu) C=aa (l.map Et,C):=by
  rw[lE];refine pX (T:=.many 7) (ft:=Rv) (fe:=Rw) (fs:=[aa (.im (.list ((up ps z).map .str))),aa (.im (.int day)),aa (.im (cI z a1 b1 n))]) (C:=C) bu (iT (up ps z) n day a1 b1) Et (l:=ht.leaves) λr _=>?_
  refine⟨[.int r.1,.str r.2.1,.str r.2.2.1,.str r.2.2.2.1,.int r.2.2.2.2.1,.int r.2.2.2.2.2.1,.int r.2.2.2.2.2.2],rfl,?_,λ_=>⟨.im (Et r),[aa (.im (.int r.1)),aa (.im (.str r.2.1)),aa (.im (.str r.2.2.1)),aa (.im (.str r.2.2.2.1)),aa (.im (.int r.2.2.2.2.1)),aa (.im (.int r.2.2.2.2.2.1)),aa (.im (.int r.2.2.2.2.2.2)),aa (.im (.list ((up ps z).map .str))),aa (.im (.int day)),aa (.im (cI z a1 b1 n))],by simp_arith[dN,mR,jy];rfl,rfl⟩⟩
  have c:=aeI rm rm (aH 4) (aH 8) (aH 5) (env:=[aa (.im (.int r.1)),aa (.im (.str r.2.1)),aa (.im (.str r.2.2.1)),aa (.im (.str r.2.2.2.1)),aa (.im (.int r.2.2.2.2.1)),aa (.im (.int r.2.2.2.2.2.1)),aa (.im (.int r.2.2.2.2.2.2)),aa (.im (.list ((up ps z).map .str))),aa (.im (.int day)),aa (.im (cI z a1 b1 n))]) (C:=C) (a:=decide (r.2.2.2.2.1<=day)) (b:=decide (day<=r.2.2.2.2.2.1)) rfl rfl rfl rfl rfl;have s1:=Ae (C:=C) (z:=z) (a1:=a1) (b1:=b1) (n:=n) (p:=r.2.1);have s2:=Ae (C:=C) (z:=z) (a1:=a1) (b1:=b1) (n:=n) (p:=r.2.2.1);simp_arith[dN,mR,jy,c,s1,s2];unfold iT;cases decide (r.2.2.2.1∈up ps z)<;>cases decide (r.2.2.2.2.1<=day)<;>cases decide (day<=r.2.2.2.2.2.1)<;>cases decide (n<=r.2.2.2.2.2.2)<;>cases decide (r.2.1=a1\/r.2.1=b1)<;>rfl
 have q:(l.length<=1000000)=True:=eq_true (by lia);have nl:fQ (l.map Et)=ao:=by
  clear t lE ll q;induction l with
  |nil=>rfl
  |cons r l ih=>show(ao&&fQ (l.map Et))=ao;rw[ih];rfl
 refine fM [aa (.im (gB ht)),aa (.im (cI z a1 b1 n)),aa (.im (.int day)),aj] rfl rfl ?_ rfl rfl;simp_arith[Tw,p,t,q,nl];rw[lE]
theorem Eb(p a1 b1:Str):jM (.str p) (.tuple [.str a1,.str b1])=aa (.im (.bool (decide (p=a1\/p=b1)))):=by
 have:inB (.str p) (.tuple [.str a1,.str b1])=aa (inD (.str p) ([a1,b1].map .str)):=aV (c:=(lC (.str p)&&[dR a1,.str b1].all lC)=ao) (e:=aj) rfl;unfold jM;rw[this,Mi];simp
theorem aaK(o:Str)(zs:List Str):nD (.str o) (.list (zs.map .str))=aa (.im (.bool (!decide (o∈zs)))):=by
 have:inB (.str o) (.list (zs.map .str))=aa (inD (.str o) (zs.map .str)):=aV (by rw[Tq];rfl);unfold nD;rw[this,Mi,jG]
theorem ab4:∀ps:List (Str×Str),Iv (aL (bF ps))=aa (ps.map λp=>(.inr p.1,.inr p.2))
 |[]=>rfl
 |p::ps=>by
  show((aa (j4 p.1):Option Key).bind λk=>(aa (j4 p.2):Option Key).bind λv=>(Iv (aL (bF ps))).map λt=>(k,v)::t)=_
  rw[ab4 ps];rfl
theorem aiO(ps:List (Str×Str))(h0:0<ps.length)(h8:ps.length<=8):∃ps':List (Str×Str),ps'.Perm ps/\V3 (aL (bF ps))=aa (ps'.map u5):=by
 have em:(aL (bF ps)).map (λp=>tD [p.1,p.2])=ps.map u5:=by
  unfold aL bF;rw[cU,cU];rfl
 obtain⟨ps',p1,p2⟩:=ain (aj4 (ds:=ps.map u5) λd hd=>by obtain⟨p,_,rfl⟩:=cN.mp hd;rfl)
 refine⟨ps',p1,?_⟩
 unfold V3;rw[ab4,em];cases ps with
 |nil=>cases h0
 |cons p r=>
  rw[iJ,cj,List.head?_cons,iJ,aV,p2]
  refine⟨by rw[cA,bw];rw[cA] at h8;lia,λq hq=>?_⟩
  rw[<-cj (f:=λp:Str×Str=>((j4 p.1,j4 p.2):Key×Key))] at hq
  obtain⟨x,_,rfl⟩:=cN.mp hq
  exact⟨rfl,rfl⟩
theorem aiP{C:Ce}{ps:List (Str×Str)}(h0:0<ps.length)(h8:ps.length<=8)(lv:List bR):∃ps':List (Str×Str),ps'.Perm ps/\KZ [.im (.dict (aL (bF ps))),.im (.list (lv.map bu))] C=aa (.im (gB ⟨ps',[],lv,[]⟩),C):=by
 obtain⟨ps',p1,e⟩:=aiO ps h0 h8
 refine⟨ps',p1,fM [aa (.im (.dict (aL (bF ps)))),aa (.im (.list (lv.map bu)))] rfl rfl ?_ rfl rfl⟩
 simp_arith[R0,Vm,Ws,e,vO];rfl
theorem same_none{C:Ce}(n:Nat):lR (n+1) [.im .none,.im .none] C=aa (.im (.bool ao),C):=
 HY (k:=2) (n:=2) (en:=[aa (.im .none),aa (.im .none)]) (e1:=[aa (.im .none),aa (.im .none)]) rfl rfl rfl rfl rfl
theorem same_int{C:Ce}(n:Nat)(x:Int):lR (n+1) [.im (.int x),.im (.int x)] C=aa (.im (.bool ao),C):=by
 refine HY (k:=2) (n:=2) (en:=[aa (.im (.int x)),aa (.im (.int x))]) (e1:=[aa (.im (.int x)),aa (.im (.int x))]) rfl rfl ?_ rfl rfl;simp_arith[Du,kY,Bc,uh,pD,isNone,lD,Ay]
theorem same_ints{C:Ce}(n:Nat)(xs:List Int)(hl:xs.length<=1000):lR (n+2) [.im (.list (xs.map .int)),.im (.list (xs.map .int))] C=aa (.im (.bool ao),C):=by
 have t:jU (.many 2) iZ (SM (lR (n+1))) [] (mY (xs.map .int) (xs.map .int)) C=aa (dI xs.length (.bool ao),C):=by
  clear hl;induction xs with
  |nil=>rfl
  |cons x xs ih=>
   rw[cj,mY];unfold jU;rw[cA,uH];simp_arith[vq,iZ,dN,jd,same_int n x,ih]
 have b:=aaH xs.length;have h1:(xs.length<=1000000)=True:=eq_true (by lia);refine HY (k:=2) (n:=2) (en:=[aa (.im (.list (xs.map .int))),aa (.im (.list (xs.map .int)))]) (e1:=[aa (.im (.list (xs.map .int))),aa (.im (.list (xs.map .int)))]) rfl rfl ?_ rfl rfl;simp_arith[Du,kY,Bc,uh,lD,BX,t,b.1,b.2,Qa,h1]
def stL(st:List (Str×Int)):List (Str×au):=st.map λx=>(x.1,.int x.2)
abbrev wD(w:Int×Str×Str):au:=.tuple [.int w.1,.str w.2.1,.str w.2.2]
theorem M5(st:List (Str×Int))(z:Str):mG (aL (stL st)) (.str z)=aa ((cg st z).map .int):=by
 rw[Tp];unfold stL cg;rw[Zq,Gf,Gf];rfl
theorem Ii(st:List (Str×Int))(z:Str):((cg st z).map ie).isSome=decide (z∈st.map (·.1)):=by
 by_cases h:z∈st.map (·.1)
 .cases e:cg st z with
  |none=>exact absurd h (pA.mp e)
  |some d=>rw[cY h];rfl
 .rw[pA.mpr h,dW h];rfl
theorem Ij(st:List (Str×Int))(z:Str):jM (.str z) (.dict (aL (stL st)))=aa (.im (.bool (decide (z∈st.map (·.1))))):=by
 show((mG (aL (stL st)) (.str z)).map (·.isSome)).map (λb=>Vl.im (.bool b))=_
 rw[M5,jG,Ii];rfl
theorem Uy(st:List (Str×Int))(z:Str):nD (.str z) (.dict (aL (stL st)))=aa (.im (.bool (!decide (z∈st.map (·.1))))):=by
 show((mG (aL (stL st)) (.str z)).map (·.isSome)).map (λb=>Vl.im (.bool (!b)))=_
 rw[M5,jG,Ii];rfl
theorem Wx{st:List (Str×Int)}{z:Str}{d:Int}(h:cg st z=aa d):bI (.dict (aL (stL st))) (.str z)=aa (.im (.int d)):=by
 unfold bI uy;simp only[M5,h,jG]
theorem adn{C:Ce}{v0 v1 nw:Option Vl}{k:Int}:∀(new:List Str)(st:List (Str×Int))(v5:Option Vl),(st.map (·.1)++new).Nodup->st.length+new.length<=1000->
  ∃Jq,gC (dz 5) ZM (new.map .str) [v0,v1,aa (.ow (.dict (aL (stL st)))),nw,aa (.im (.int k)),v5] C=aa (.nx,[v0,v1,aa (.ow (.dict (aL (stL (st++new.map λg=>(g,k)))))),nw,aa (.im (.int k)),Jq],C)
 |[],st,v5,_,_=>⟨v5,by rw[oE,oE,jd];rfl⟩
 |g::new,st,v5,nd,hl=>by
  rw[cA] at hl
  obtain⟨Jq,e⟩:=adn (C:=C) (v0:=v0) (v1:=v1) (nw:=nw) (k:=k) new (st++[(g,k)]) (aa (.im (.str g))) (by rw[jZ,lA];exact nd) (by rw[fU];show st.length+1+_<=_;lia)
  refine⟨Jq,?_⟩
  have hn:g∉(stL st).map (·.1):=by
   unfold stL;rw[cU];exact λhm=>(kE.mp nd).2.2 _ hm _ dg rfl
  have pu:putD (aL (stL st)) (.str g) (.int k)=aa (aL (stL (st++[(g,k)]))):=by
   rw[Mj hn];unfold stL;rw[jZ];rfl
  have q:((aL (stL st)).length<1000000)=True:=eq_true (by unfold aL stL;rw[bw,bw];lia);rw[lA] at e;rw[cj];unfold gC;simp_arith[oN,qW,pu,q];exact e
theorem aaL{C:Ce}{ws:List (Int×Str×Str)}{s:Str}(hl:ws.length<=60):∀(n:Nat)(st:List (Str×Int))(new:List Str)(k:Nat)(nv:Vl)(v5:Option Vl),(nv=.ow (.list (new.map .str))\/nv=.im (.list (new.map .str)))->uD ws s st new k->(new=[]->0<n)->(new≠[]->ws.length+2-st.length<n)->
  ∃(st':List (Str×Int))(e':En),j9 ZR ZS n [aa (.im (.list (ws.map wD))),aa (.im (.str s)),aa (.ow (.dict (aL (stL st)))),aa nv,aa (.im (.int k)),v5] C=aa (.nx,e',C)/\e'[2]?=aa (aa (.ow (.dict (aL (stL st')))))/\rE ws s st'
 |0,st,new,k,nv,v5,hv,B,h0,h1=>by
  by_cases h:new=[]
  .exact absurd (h0 h) (xR _)
  .exact absurd (h1 h) (zH _)
 |n+1,st,new,k,nv,v5,hv,B,h0,h1=>by
  by_cases hnew:new=[]
  .subst hnew
   refine⟨st,[aa (.im (.list (ws.map wD))),aa (.im (.str s)),aa (.ow (.dict (aL (stL st)))),aa nv,aa (.im (.int k)),v5],?_,rfl,B.done⟩
   unfold j9;rcases hv with rfl|rfl<;>simp_arith[]<;>rfl
  have h1:=h1 hnew;have ht:(new.map dR).isEmpty=aF:=by cases new with|nil=>exact absurd rfl hnew|cons _ _=>rfl
  have c:=pX (T:=.many 3) (ft:=ZP) (fe:=ZQ) (fs:=[aa (.im (.list (new.map .str))),aa (.im (.dict (aL (stL st))))]) (C:=C) wD (λw=>decide (w.2.2∈new)&&!decide (w.2.1∈st.map (·.1))) (λw=>.str w.2.1) (l:=ws) λw _=>by
   refine⟨[.int w.1,.str w.2.1,.str w.2.2],rfl,?_,λ_=>⟨.im (.str w.2.1),_,by simp_arith[dN,mR,jy];rfl,rfl⟩⟩
   simp_arith[dN,mR,jy,Uy];cases decide (w.2.2∈new)<;>rfl
  obtain⟨gs,Xz⟩:∃gs,gs=(ws.filter λw=>decide (w.2.2∈new)&&!decide (w.2.1∈st.map (·.1))).map (·.2.1):=⟨_,rfl⟩
  have c2:(ws.filter λw=>decide (w.2.2∈new)&&!decide (w.2.1∈st.map (·.1))).map (λw=>dR w.2.1)=gs.map .str:=by rw[Xz,cU];rfl
  rw[c2] at c;have gl:gs.length<=60:=by rw[Xz,bw];exact jQ (xu _ _) hl
  have sS:Mh (gs.map .str)=aa ((gR strLt (dedup gs)).map .str):=by
   unfold Mh;rw[aV (by rw[bw];lia),Gy]
  obtain⟨ns,nsE⟩:∃ns,ns=gR strLt (dedup gs):=⟨_,rfl⟩
  rw[<-nsE] at sS;have hm:∀g,g∈ns↔∃w∈ws,w.2.2∈new/\w.2.1∉st.map (·.1)/\w.2.1=g:=λg=>by
   rw[nsE,(o8 _).mem_iff,ajU,Xz,cN];constructor
   .rintro⟨w,h1,h2⟩
    obtain⟨h1,h3⟩:=jY.mp h1
    rw[jn,decide_eq_true_eq,Qn,decide_eq_false_iff_not] at h3
    exact⟨w,h1,h3.1,h3.2,h2⟩
   .rintro⟨w,h1,h2,h3,h4⟩
    exact⟨w,jY.mpr ⟨h1,by rw[cY h2,dW h3];rfl⟩,h4⟩
  have hn:ns.Nodup:=by rw[nsE];exact(o8 _).nodup_iff.mpr (aiJ _)
  have B2:=B.step hn hm;have f1:=B.few;have f2:=B2.few;have nd:=B2.nd;rw[jZ,cU,show((λx:Str×Int=>x.1) ∘ λg=>(g,(k:Int)+1))=id from rfl,Ky] at nd;rw[fU,bw] at f2
  obtain⟨Jq,e1⟩:=adn (C:=C) (v0:=aa (.im (.list (ws.map wD)))) (v1:=aa (.im (.str s))) (nw:=aa (.im (.list (ns.map .str)))) (k:=(k:Int)+1) ns st v5 nd (by lia)
  obtain⟨st',e',e2,e3,e4⟩:=aaL (C:=C) hl n (st++ns.map λg=>(g,(k:Int)+1)) ns (k+1) (.im (.list (ns.map .str))) Jq (.inr rfl) B2 (λz=>by lia) (λz=>by
   rw[fU,bw];have:=Yn.mpr z;lia)
  refine⟨st',e',?_,e3,e4⟩
  unfold j9;rcases hv with rfl|rfl<;>simp_arith[ht,Om,Jl,↓c,sS,jt,e1]<;>exact e2
theorem G6{C:Ce}{ws:List (Int×Str×Str)}{s:Str}(hl:ws.length<=60):∃st:List (Str×Int),Df [.im (.list (ws.map wD)),.im (.str s)] C=aa (.ow (.dict (aL (stL st))),C)/\rE ws s st:=by
 obtain⟨st,e',e1,e2,e3⟩:=aaL (C:=C) hl Eh [(s,0)] [s] 0 (.ow (.list [.str s])) aj (.inl rfl) (uD.init ws s) (λz=>nomatch z) (λ_=>by show _+2-1<100000;lia)
 rw[show(((0:Nat):Nat):Int)=0 from rfl] at e1
 refine⟨st,fM [aa (.im (.list (ws.map wD))),aa (.im (.str s)),aj,aj,aj,aj] rfl rfl ?_ rfl rfl,e3⟩
 simp_arith[SJ,u9,uA,cL];rw[show[(dR s,ie 0)]=aL (stL [(s,0)]) from rfl];simp only[e1];simp_arith[e2]
def wK(st:List (Str×Int))(d:Int)(p:Str)(w:Int×Str×Str):Bool:=decide (w.2.1=p)&&(decide (w.2.2∈st.map (·.1))&&(cg st w.2.2).any λe=>decide (e<d))
theorem TF{st:List (Str×Int)}{d:Int}{p:Str}{w:Int×Str×Str}:wK st d p w=ao↔w.2.1=p/\∃e,cg st w.2.2=aa e/\e<d:=by
 unfold wK;rw[jn,jn,decide_eq_true_eq,decide_eq_true_eq];refine and_congr_right λ_=>⟨λh=>?_,λ⟨e,h1,h2⟩=>⟨?_,by rw[h1];exact cY h2⟩⟩
 .cases e:cg st w.2.2 with
  |none=>exact absurd h.1 (pA.mp e)
  |some x=>
   have:=h.2;rw[e] at this
   exact⟨x,rfl,of_decide_eq_true this⟩
 .apply agg;intro n;rw[pA.mpr n] at h1;cases h1
theorem ado(bt:Nat->Nat->Bool)(val:Nat->Int)(h1:∀i j,bt i j=ao->val i<=val j)(h2:∀i j,bt i j=aF->val j<=val i):∀k,nF bt k<=k/\∀i,i<=k->val (nF bt k)<=val i
 |0=>⟨bU _,λi hi=>by rw[Nat.le_zero.mp hi];exact rH _⟩
 |k+1=>by
  obtain⟨a,b⟩:=ado bt val h1 h2 k
  unfold nF;cases e:bt (k+1) (nF bt k) with
  |true=>
   rw[aV rfl]
   refine⟨bU _,λi hi=>?_⟩
   rcases agX hi with hi|rfl
   .exact zT (h1 _ _ e) (b i (ahh hi))
   .exact rH _
  |false=>
   rw[bf gw]
   refine⟨YG a,λi hi=>?_⟩
   rcases agX hi with hi|rfl
   .exact b i (ahh hi)
   .exact h2 _ _ e
theorem akh(cs:List (Int×Str))(h:cs≠[]):∃c∈cs,Nv [.list (cs.map λc=>.tuple [.int c.1,.str c.2])]=aa (.im (.tuple [.int c.1,.str c.2]))/\∀c'∈cs,c.1<=c'.1:=by
 obtain⟨c0,hc0⟩:∃c0,cs.head?=aa c0:=by
  cases cs with
  |nil=>exact absurd rfl h
  |cons c _=>exact⟨c,rfl⟩
 have ek:(cs.map λc=>tD [.int c.1,.str c.2]).map yF=cs.map λc=>[lN c.1,j4 c.2]:=by
  rw[cU];rfl
 have hd:(cs.map λc=>([lN c.1,j4 c.2]:List Key)).headD []=[lN c0.1,j4 c0.2]:=by
  cases cs with
  |nil=>cases hc0
  |cons c _=>cases hc0;rfl
 have gt:∀i,(cs.map λc=>([lN c.1,j4 c.2]:List Key)).getD i [lN c0.1,j4 c0.2]=[lN (cs.getD i c0).1,j4 (cs.getD i c0).2]:=λi=>by
  rw[PB,PB,jm];cases cs[i]?<;>rfl
 obtain⟨b1,b2⟩:=ado (λi j=>eO ((cs.map λc=>([lN c.1,j4 c.2]:List Key)).getD i [lN c0.1,j4 c0.2]) ((cs.map λc=>([lN c.1,j4 c.2]:List Key)).getD j [lN c0.1,j4 c0.2])) (λi=>(cs.getD i c0).1) (λi j e=>by
   simp only[gt,eO] at e;split at e
   .rename_i z;have:=aae z;lia
   .exact RJ (of_decide_eq_true e)) (λi j e=>by
   simp only[gt,eO] at e;split at e
   .rename_i z;have:=aae z;lia
   .have:=of_decide_eq_false e;lia) (cs.length-1)
 have pos:0<cs.length:=Yn.mpr h
 obtain⟨k,hk⟩:∃k,k=H9 (cs.map λc=>([lN c.1,j4 c.2]:List Key)):=⟨_,rfl⟩
 have hk':=hk;unfold H9 at hk';rw[hd,bw] at hk';rw[<-hk'] at b1 b2;have lt:k<cs.length:=by lia
 refine⟨cs[k],zF lt,?_,λc' hc'=>?_⟩
 .show V4 (cs.map λc=>.tuple [.int c.1,.str c.2])=_;unfold V4;rw[List.head?_map,hc0,ek,<-hk,jm,jX lt];refine aV λd hd=>?_
  obtain⟨c,_,rfl⟩:=cN.mp hd
  rfl
 .obtain⟨i,hi,rfl⟩:=zy hc'
  have:=b2 i (by lia);rw[PB,PB,jX lt,jX hi] at this;exact this
theorem aki{C:Ce}{ws:List (Int×Str×Str)}{st:List (Str×Int)}{p:Str}{d:Int}(hl:ws.length<=60)(hp:cg st p=aa d)(hne:∃w∈ws,wK st d p w=ao):
  ∃(n:Int)(t:Str),Kq [.im (.list (ws.map wD)),.im (.dict (aL (stL st))),.im (.str p)] C=aa (.im (.tuple [.int n,.str t]),C)/\(n,p,t)∈ws/\(∃e,cg st t=aa e/\e<d)/\∀n' q' e,(n',p,q')∈ws->cg st q'=aa e->e<d->n<=n':=by
 have c:=pX (T:=.many 3) (ft:=Zc) (fe:=Zd) (fs:=[aa (.im (.str p)),aa (.im (.dict (aL (stL st))))]) (C:=C) wD (wK st d p) (λw=>.tuple [.int w.1,.str w.2.2]) (l:=ws) λw _=>by
  refine⟨[.int w.1,.str w.2.1,.str w.2.2],rfl,?_,λ_=>⟨.im (.tuple [.int w.1,.str w.2.2]),_,by simp_arith[dN,mR,jy];rfl,rfl⟩⟩
  have ip:=Wx hp;unfold wK;cases h1:decide (w.2.1=p) with
  |false=>simp_arith[dN,mR,jy,h1]
  |true=>
   cases e:cg st w.2.2 with
   |none=>
    have h2:=dW (pA.mp e);simp_arith[dN,mR,jy,h1,Ij,h2]
   |some x=>
    have h2:decide (w.2.2∈st.map (·.1))=ao:=by rw[<-Ii,e];rfl
    have iw:=Wx e;simp_arith[dN,mR,jy,h1,Ij,h2,ip,iw,Option.any_some]
 obtain⟨cs,Jr⟩:∃cs:List (Int×Str),cs=(ws.filter (wK st d p)).map λw=>(w.1,w.2.2):=⟨_,rfl⟩
 have c2:(ws.filter (wK st d p)).map (λw=>tD [.int w.1,.str w.2.2])=cs.map λc=>.tuple [.int c.1,.str c.2]:=by rw[Jr,cU];rfl
 rw[c2] at c;have cl:(cs.length<=1000000)=True:=eq_true (by rw[Jr,bw];have:=xu (wK st d p) ws;lia);have mem:∀n t,(n,t)∈cs↔(n,p,t)∈ws/\∃e,cg st t=aa e/\e<d:=λn t=>by
  rw[Jr,cN];constructor
  .rintro⟨w,hw,e⟩
   cases e
   obtain⟨h1,h2⟩:=jY.mp hw
   obtain⟨h3,h4⟩:=TF.mp h2
   rw[<-h3]
   exact⟨h1,h4⟩
  .rintro⟨h1,h2⟩
   exact⟨(n,p,t),jY.mpr ⟨h1,TF.mpr ⟨rfl,h2⟩⟩,rfl⟩
 have ne:cs≠[]:=λz=>by
  obtain⟨w,hw,h⟩:=hne
  have:(w.1,w.2.2)∈cs:=by rw[Jr];exact cN.mpr ⟨w,jY.mpr ⟨hw,h⟩,rfl⟩
  rw[z] at this;cases this
 have nl:fQ (cs.map λc=>tD [.int c.1,.str c.2])=ao:=by
  clear c c2 Jr cl mem ne;induction cs with
  |nil=>rfl
  |cons r l ih=>show(ao&&fQ (l.map _))=ao;rw[ih];rfl
 obtain⟨⟨n,t⟩,m,e,hmin⟩:=akh cs ne
 obtain⟨m1,m2⟩:=(mem n t).mp m
 refine⟨n,t,fM [aa (.im (.list (ws.map wD))),aa (.im (.dict (aL (stL st)))),aa (.im (.str p))] rfl rfl ?_ rfl rfl,m1,m2,λn' q' e' h1 h2 h3=>hmin (n',q') ((mem n' q').mpr ⟨h1,e',h2,h3⟩)⟩
 simp_arith[Rx,c,cl,nl,e]
theorem alz{C:Ce}{ws:List (Int×Str×Str)}{s:Str}{st:List (Str×Int)}(hl:ws.length<=60)(hU:∀w∈ws,∀w'∈ws,w.1=w'.1->w=w')(B:rE ws s st):∀(m:Nat)(p:Str)(d:Int),cg st p=aa d->d<=m->∀(n:Nat)(acc:List Int)(v5:Option Vl),m<n->acc.length+m<=100000->
  ∃(r:List Int)(e':En),j9 Zv Zw n [aa (.im (.list (ws.map wD))),aa (.im (.str p)),aa (.im (.str s)),aa (.ow (.dict (aL (stL st)))),aa (.ow (.list (acc.map .int))),v5] C=aa (.nx,e',C)/\e'[4]?=aa (aa (.ow (.list ((acc++r).map .int))))/\mV ws p s r:=by
 intro m;induction m with
 |zero=>
  intro p d hp hd n acc v5 hn ha;have:p=s:=by
   obtain⟨r,h1,h2⟩:=B.sound p d hp
   cases h1 with
   |nil=>rfl
   |cons _ _=>rw[cA] at h2;lia
  subst this;cases n with
  |zero=>exact absurd hn (xR _)
  |succ n=>
   refine⟨[],[aa (.im (.list (ws.map wD))),aa (.im (.str p)),aa (.im (.str p)),aa (.ow (.dict (aL (stL st)))),aa (.ow (.list (acc.map .int))),v5],?_,by rw[jd];rfl,mV.self ws p⟩
   unfold j9;simp_arith[Hl]
 |succ m ih=>
  intro p d hp hd n acc v5 hn ha;cases n with
  |zero=>exact absurd hn (zH _)
  |succ n=>
   by_cases hs:p=s
   .subst hs
    refine⟨[],[aa (.im (.list (ws.map wD))),aa (.im (.str p)),aa (.im (.str p)),aa (.ow (.dict (aL (stL st)))),aa (.ow (.list (acc.map .int))),v5],?_,by rw[jd];rfl,mV.self ws p⟩
    unfold j9;simp_arith[Hl]
   .have hne:∃w∈ws,wK st d p w=ao:=by
     obtain⟨r,h1,h2⟩:=B.sound p d hp
     cases h1 with
     |nil=>exact absurd rfl hs
     |cons hw hr=>
      rename_i n q r
      obtain⟨e,h3,h4⟩:=B.whole q r hr
      rw[cA] at h2
      exact⟨_,hw,TF.mpr ⟨rfl,e,h3,by lia⟩⟩
    obtain⟨n1,t,e1,m1,⟨e,m2,m3⟩,hmin⟩:=aki (C:=C) hl hp hne
    obtain⟨r,e',e2,e3,e4⟩:=ih t e m2 (by lia) n (acc++[n1]) (aa (.im (.int n1))) (by lia) (by rw[fU];show acc.length+1+_<=_;lia)
    have R:=mV.go hU B hp m1 ⟨e,m2,m3⟩ hmin e4;rw[lA] at e3
    refine⟨n1::r,e',?_,e3,R⟩
    have g:(acc.length<1000000)=True:=eq_true (by lia);have q:(p=s)=False:=eq_false hs;rw[jZ] at e2;unfold j9;have rp:∀e e',rst (.im (.tuple [.int n1,.str t])) e e'=e:=λ_ _=>rfl
    simp_arith[Hl,q,e1,sO,yE,g,rp];exact e2
def qu:Option (List Int)->Vl
 |none=>.im .none
 |some r=>.ow (.list (r.map .int))
def Be(ws:List (Int×Str×Str))(h s:Str):Option (List Int)->Prop
 |none=>∀r,¬gm ws h r s
 |some r=>mV ws h s r
theorem ab5{C:Ce}{ws:List (Int×Str×Str)}{h s:Str}(hl:ws.length<=60)(hU:∀w∈ws,∀w'∈ws,w.1=w'.1->w=w'):∃o,CW [.im (.list (ws.map wD)),.im (.str h),.im (.str s)] C=aa (qu o,C)/\Be ws h s o:=by
 obtain⟨st,e1,B⟩:=G6 (C:=C) (s:=s) hl
 cases e:cg st h with
 |none=>
  have hn:=pA.mp e
  refine⟨aj,fM [aa (.im (.list (ws.map wD))),aa (.im (.str h)),aa (.im (.str s)),aj,aj,aj] rfl rfl ?_ rfl rfl,λr p=>hn ((B.iff h).mpr ⟨r,p⟩)⟩
  have q:=dW hn;simp_arith[KH,e1,Uy,q];rfl
 |some d=>
  obtain⟨r0,h1,h2⟩:=B.sound h d e
  have q:decide (h∈st.map (·.1))=ao:=by rw[<-Ii,e];rfl
  obtain⟨r,e',e2,e3,e4⟩:=alz (C:=C) hl hU B d.toNat h d e (by lia) Eh [] aj (by have:=B.few h d e;show _<100000;lia) (by have:=B.few h d e;show 0+_<=_;lia)
  refine⟨aa r,fM [aa (.im (.list (ws.map wD))),aa (.im (.str h)),aa (.im (.str s)),aj,aj,aj] rfl rfl ?_ rfl rfl,e4⟩
  rw[oE] at e2;rw[jy] at e3;simp_arith[KH,e1,Uy,q,uA,e2,e3];rfl
def qw(r:bR):Int×Str×Str:=(r.1,r.2.1,r.2.2.1)
theorem Vt:∀{l:List bR},(l.map (·.1)).Nodup->∀r∈l,∀r'∈l,r.1=r'.1->r=r'
 |[],_,_,h,_,_,_=>nomatch h
 |a::l,hp,r,h,r',h',e=>by
  rw[cj,je] at hp;rcases bY.mp h with h1|h1<;>rcases bY.mp h' with h2|h2
  .rw[h1,h2]
  .exact absurd (cN.mpr ⟨r',h2,by rw[<-h1,e]⟩) hp.1
  .exact absurd (cN.mpr ⟨r,h1,by rw[<-h2,e]⟩) hp.1
  .exact Vt hp.2 r h1 r' h2 e
theorem Be.unique{ws:List (Int×Str×Str)}{h s:Str}:∀{o o':Option (List Int)},Be ws h s o->Be ws h s o'->o=o'
 |none,none,_,_=>rfl
 |none,some r,a,b=>absurd b.1 (a r)
 |some r,none,a,b=>absurd a.1 (b r)
 |some r,some r',a,b=>congrArg aa (mV.unique a b)
def eF(ht:iC)(os:List Str)(n day:Int)(a1 b1:Str):List (Int×Str×Str):=(ht.leaves.filter (iT os n day a1 b1)).map qw
theorem z9{zs:List Str}{ps:List (Str×Str)}{ht:iC}(hG:j0 zs ps ht)(os:List Str)(n day:Int)(a1 b1:Str):(eF ht os n day a1 b1).length<=60:=by
 unfold eF;rw[bw];have:=xu (iT os n day a1 b1) ht.leaves;have:=hG.jE;lia
theorem Sg{zs:List Str}{ps:List (Str×Str)}{ht:iC}(hG:j0 zs ps ht)(os:List Str)(n day:Int)(a1 b1:Str):∀w∈eF ht os n day a1 b1,∀w'∈eF ht os n day a1 b1,w.1=w'.1->w=w':=λw h w' h' e=>by
 obtain⟨r,m,rfl⟩:=cN.mp h
 obtain⟨r',m',rfl⟩:=cN.mp h'
 rw[Vt hG.EY r (jY.mp m).1 r' (jY.mp m').1 e]
theorem Nz{C:Ce}{zs:List Str}{ps:List (Str×Str)}{ht:iC}(hN:Names zs)(hP:gn zs ps)(hG:j0 zs ps ht)(z a1 b1:Str)(n day:Int):
  tK [.im (gB ht),.im (cI z a1 b1 n),.im (.int day)] C=aa (.ow (.list ((eF ht (up ps z) n day a1 b1).map wD)),C):=by
 rw[am8 hN hP hG];unfold eF;rw[cU];rfl
theorem Uz{C:Ce}{zs:List Str}{ps:List (Str×Str)}{ht:iC}(hN:Names zs)(hP:gn zs ps)(hG:j0 zs ps ht)(z a1 b1:Str)(n day:Int)(h s:Str):
  ∃o,xY [.im (gB ht),.im (cI z a1 b1 n),.im (.str h),.im (.str s),.im (.int day)] C=aa (qu o,C)/\(((h=a1\/h=b1)\/(s=a1\/s=b1))->o=aj)/\(¬((h=a1\/h=b1)\/(s=a1\/s=b1))->Be (eF ht (up ps z) n day a1 b1) h s o):=by
 have s1:=Ae (C:=C) (z:=z) (a1:=a1) (b1:=b1) (n:=n) (p:=h);have s2:=Ae (C:=C) (z:=z) (a1:=a1) (b1:=b1) (n:=n) (p:=s);have w:=Nz (C:=C) hN hP hG z a1 b1 n day
 obtain⟨o,e,ho⟩:=ab5 (C:=C) (h:=h) (s:=s) (z9 hG (up ps z) n day a1 b1) (Sg hG (up ps z) n day a1 b1)
 have ok:wG C.length (qu o)=ao:=by cases o<;>rfl
 by_cases h1:h=a1\/h=b1
 .refine⟨aj,fM [aa (.im (gB ht)),aa (.im (cI z a1 b1 n)),aa (.im (.str h)),aa (.im (.str s)),aa (.im (.int day))] rfl rfl ?_ rfl rfl,λ_=>rfl,λz=>absurd (.inl h1) z⟩
  rw[cY h1] at s1;simp_arith[G5,s1];rfl
 .rw[dW h1] at s1;by_cases h2:s=a1\/s=b1
  .refine⟨aj,fM [aa (.im (gB ht)),aa (.im (cI z a1 b1 n)),aa (.im (.str h)),aa (.im (.str s)),aa (.im (.int day))] rfl rfl ?_ rfl rfl,λ_=>rfl,λz=>absurd (.inr h2) z⟩
   rw[cY h2] at s2;simp_arith[G5,s1,s2];rfl
  .rw[dW h2] at s2
   refine⟨o,fM [aa (.im (gB ht)),aa (.im (cI z a1 b1 n)),aa (.im (.str h)),aa (.im (.str s)),aa (.im (.int day))] rfl rfl ?_ ok rfl,λz=>absurd z λz=>z.elim h1 h2,λ_=>ho⟩
   have tp:yP (qu o)=aF:=by cases o<;>rfl
   simp_arith[G5,s1,s2,w,e,tp]
theorem ab6{C:Ce}(n:Nat)(o:Option (List Int))(hl:∀r,o=aa r->r.length<=1000):lR (n+2) [still (qu o),still (qu o)] C=aa (.im (.bool ao),C):=by
 cases o with
 |none=>exact same_none (n+1)
 |some r=>exact same_ints n r (hl r rfl)
theorem vZ{α:Type}{f:α->au}(h:∀a,lg (f a)=ao):∀l:List α,fQ (l.map f)=ao
 |[]=>rfl
 |a::l=>by
  show(lg (f a)&&fQ (l.map f))=ao
  rw[h a,vZ h l];rfl
theorem am9(h:iC)(e f:En):rst (.im (gB h)) e f=e:=by
 refine aV ?_
 show(fQ (h.ps.map u5)&&(fQ (h.yH.map kJ)&&(fQ (h.leaves.map bu)&&(fQ (h.rules.map Bd)&&ao))))=ao
 rw[vZ (λ_=>rfl),vZ (λ_=>rfl),vZ (λ_=>rfl),abb];rfl
theorem yo{zs:List Str}{k:Nat}(h:k<zs.length):∃z,z∈zs/\zs[k]?=aa z/\fG (zs.map dR) (k:Int)=aa (.str z):=by
 obtain⟨z,h1,h2,h3⟩:=Dm (zs:=zs) (k:=(k:Int)) (by lia) (by lia)
 exact⟨z,h1,by rw[zA] at h2;exact h2,h3⟩
theorem adp{zs:List Str}{ps:List (Str×Str)}(hP:gn zs ps){k:Int}(h0:0<=k)(h1:k<ps.length):∃z,z∈ps.map (·.1)/\z∈zs/\fG (zs.map dR) k=aa (.str z):=by
 have hk:=Sx hP;have hl:ps.length<=zs.length:=by
  have:=congrArg rG hk;rw[bw,xM] at this;lia
 obtain⟨z,m,e,a⟩:=Dm (zs:=zs) (k:=k) h0 (by lia)
 refine⟨z,?_,m,a⟩
 rw[hk];refine qF (i:=k.toNat) ?_;rw[Qi,aV (by lia)];exact e
theorem alA{f:Str->Option Str}{z:Str}{os:List Str}(h:Over f z os):∀y∈os,∃w,f y=aa w:=by
 induction h with
 |stop _=>exact λy hy=>absurd hy oA
 |step h _ ih=>
  intro y hy;rcases bY.mp hy with rfl|hy
  .exact⟨_,h⟩
  .exact ih y hy
theorem aoI{zs:List Str}{ps:List (Str×Str)}(hN:Names zs)(hP:gn zs ps){z y:Str}(h:y∈up ps z):y∈ps.map (·.1):=by
 obtain⟨w,e⟩:=alA (MP hN hP z) y h
 exact cN.mpr ⟨(y,w),(uP (CV hN hP)).mp e,rfl⟩
theorem aoJ{zs:List Str}{ps ps':List (Str×Str)}{lv:List bR}(p1:ps'.Perm ps)(p8:ps.length<=8)(jE:lv.length<=16)(hl:∀r∈lv,MN zs (ps.map (·.1)) r)(up:(lv.map (·.1)).Nodup):j0 zs ps ⟨ps',[],lv,[]⟩ where
 parts:=p1
 p8:=p8
 r20:=kI _
 jE:=jE
 u10:=kI _
 yH:=λr h=>absurd h oA
 rup:=xK
 leaves:=hl
 EY:=up
 rules:=λr h=>absurd h oA
 unlike:=mj
theorem lay_ints:∀ns:List Int,Cp (ns.map ie)=ao/\FQ (ns.map ie)=0/\vd (ns.map ie)=ao
 |[]=>⟨by simp[Cp],by simp[FQ],rfl⟩
 |z::zs=>by
  obtain⟨h1,h2,h3⟩:=lay_ints zs
  refine⟨by simp[Cp,Ge];simpa using h1,by simp only[cj,FQ,Kf,h2];rfl,?_⟩
  show(ao&&vd (zs.map ie))=ao
  rw[h3];rfl
theorem shaped_ints(ns:List Int):jc (.list (ns.map ie))=ao:=by
 obtain⟨h1,h2,_⟩:=lay_ints ns
 unfold jc;simp only[Ge,h1,Kf,h2];decide
theorem aoK{α:Type}{zs:List α}(h:zs.Nodup){i j:Nat}{x:α}(hi:zs[i]?=aa x)(hj:zs[j]?=aa x):i=j:=by
 obtain⟨x1,y1⟩:=jW.mp hi
 obtain⟨x2,y2⟩:=jW.mp hj
 have hp:=Jx.mp h;rcases ahc i j with l|l|l
 .exact absurd (y1.trans y2.symm) (hp i j x1 x2 l)
 .exact l
 .exact absurd (y2.trans y1.symm) (hp j i x2 x1 l)
theorem ana{α:Type}(D:α->au){xs:List α}{a b:Nat}(h:a<=b)(hb:b<=xs.length):lG (xs.map D) (aa (a:Int)) (aa (b:Int))=((xs.drop a).take (b-a)).map D:=by
 unfold lG;rw[bw,HT.Ms,HT.Ms,Zh (show a<=xs.length by lia),Zh hb,ah8,ZV]
theorem adq{C:Ce}{zs:List Str}{ps:List (Str×Str)}(hN:Names zs)(hP:gn zs ps)(h8:ps.length<=8)(z a1 b1:Str)(n day:Int)(r:bR):
  Dw [.im (.dict (aL (bF ps))),.im (cI z a1 b1 n),.im (.int day),.im (bu r)] C=aa (.im (.bool (iT (up ps z) n day a1 b1 r)),C):=by
 have p:=ab2 (C:=C) hN hP h8 z;have ct:lG [dR z,.int n,.str a1,.str b1] (aa 2) aj=[.str a1,.str b1]:=rfl;have c:=aeI rm rm (aA (aR bI (aH 3) (aA (aO (.int 4))))) (aH 2) (aA (aR bI (aH 3) (aA (aO (.int 5))))) (env:=[aa (.im (.dict (aL (bF ps)))),aa (.im (cI z a1 b1 n)),aa (.im (.int day)),aa (.im (bu r))]) (e1:=[aa (.im (.dict (aL (bF ps)))),aa (.im (cI z a1 b1 n)),aa (.im (.int day)),aa (.im (bu r))]) (e2:=[aa (.im (.dict (aL (bF ps)))),aa (.im (cI z a1 b1 n)),aa (.im (.int day)),aa (.im (bu r))]) (e3:=[aa (.im (.dict (aL (bF ps)))),aa (.im (cI z a1 b1 n)),aa (.im (.int day)),aa (.im (bu r))]) (C:=C) (C1:=C) (C2:=C) (x:=.int r.2.2.2.2.1) (y:=.int day) (z:=.int r.2.2.2.2.2.1) (a:=decide (r.2.2.2.2.1<=day)) (b:=decide (day<=r.2.2.2.2.2.1)) (by simp_arith[bu]) rfl rfl (by simp_arith[bu]) rfl;refine fM [aa (.im (.dict (aL (bF ps)))),aa (.im (cI z a1 b1 n)),aa (.im (.int day)),aa (.im (bu r))] rfl rfl ?_ rfl rfl;simp only[bu] at c⊢;unfold iT;cases hA:decide (r.2.1=a1\/r.2.1=b1) with
 |true=>
  simp_arith[Dv,gG,gj,iG,lZ,ct,Eb,hA]
 |false=>
  cases hB:decide (r.2.2.1=a1\/r.2.2.1=b1) with
  |true=>
   simp_arith[Dv,gG,gj,iG,lZ,ct,Eb,hA,hB]
  |false=>
   cases hC:decide (r.2.2.2.1∈up ps z) with
   |false=>simp_arith[Dv,gG,gj,iG,lZ,ct,Eb,hA,hB,p,aaK,hC]
   |true=>
    simp_arith[Dv,gG,gj,iG,lZ,ct,Eb,hA,hB,p,aaK,hC,lD,c];cases decide (r.2.2.2.2.1<=day)<;>cases decide (day<=r.2.2.2.2.2.1)<;>rfl
theorem abj{α:Type}(D:α->au):∀(l:List α)(n:Nat),(l.map D).eraseIdx n=(l.eraseIdx n).map D
 |[],_=>rfl
 |_::_,0=>rfl
 |x::l,n+1=>congrArg (D x::·) (abj D l n)
theorem aaM{α:Type}:∀{l:List α}{n:Nat}{x:α},l[n]?=aa x->(x::l.eraseIdx n).Perm l
 |[],_,_,h=>by cases h
 |y::l,0,x,h=>by cases h;exact .refl _
 |y::l,n+1,x,h=>(QV y x _).trans ((aaM (l:=l) (n:=n) h).cons y)
theorem abk{α:Type}{D:α->au}(hne:∀l:List α,mK (.list (l.map D)) (.list [])=aa (.im (.bool (!l.isEmpty)))){b L j:Nat}{v1:Option Vl}:∀(n:Nat)(rest found:List α)(C:Ce),rest.length<n->found.length+rest.length<=100->Bl L C b (j+rest.length)->
  ∃(ys:List α)(C':Ce),j9 Zy Zz n [aa (.ce b),v1,aa (.ow (.list (rest.map D))),aa (.ow (.list (found.map D)))] C=aa (.nx,[aa (.ce b),v1,aa (.ow (.list [])),aa (.ow (.list ((found++ys).map D)))],C')/\ys.Perm rest/\Bl L C' b j
 |0,rest,found,C,h,_,_=>absurd h (zH _)
 |n+1,rest,found,C,hn,hl,hB=>by
  have e0:=hne rest;by_cases hr:rest=[]
  .subst hr
   refine⟨[],C,?_,.refl _,hB⟩
   unfold j9;rw[jd];simp only[oE,ahx] at e0;simp_arith[e0]
  .have hp:0<rest.length:=Yn.mpr hr;have e0:mK (.list (rest.map D)) (.list [])=aa (.im (.bool ao)):=by
    rw[e0];cases rest with
    |nil=>exact absurd rfl hr
    |cons _ _=>rfl
   obtain⟨t,C1,e1,t0,t1,nY⟩:=j7 (m:=(rest.length:Int)) (k:=j+(rest.length-1)) (by rw[show j+(rest.length-1)+1=j+rest.length by lia];exact hB) (by lia) (by lia)
   have hk:t.toNat<rest.length:=by lia
   have q1:(rest.map D)[t.toNat]?=aa (D rest[t.toNat]):=by rw[jm,jX hk];rfl
   have q2:(rest.map D).eraseIdx t.toNat=(rest.eraseIdx t.toNat).map D:=abj D _ _;have pm:(rest[t.toNat]::rest.eraseIdx t.toNat).Perm rest:=aaM (jX hk);have ll:(rest.eraseIdx t.toNat).length=rest.length-1:=List.length_eraseIdx_of_lt hk
   obtain⟨ys,C',e2,p2,hB2⟩:=abk hne n (rest.eraseIdx t.toNat) (found++[rest[t.toNat]]) C1 (by lia) (by rw[fU];show found.length+1+_<=_;lia) (by rw[ll];exact nY)
   refine⟨rest[t.toNat]::ys,C',?_,(p2.cons _).trans pm,hB2⟩
   have g1:(0<=t/\t<((1000000:Nat):Int))=True:=eq_true ⟨t0,by lia⟩;have g2:(found.length<1000000)=True:=eq_true (by lia);rw[lA,jZ (l₁:=found)] at e2;unfold j9;simp_arith[e0,Wt,Bt,intD,e1,g1,q1,g2,q2,ne_eq,not_false_eq_true,Nat.reduceEqDiff];exact e2
theorem anb{α:Type}{D:α->au}(hne:∀l:List α,mK (.list (l.map D)) (.list [])=aa (.im (.bool (!l.isEmpty)))){C:Ce}{b L j:Nat}{xs:List α}(hl:xs.length<=100)(hB:Bl L C b (j+xs.length)):
  ∃(ys:List α)(C':Ce),Gx [.ce b,.im (.list (xs.map D))] C=aa (.ow (.list (ys.map D)),C')/\ys.Perm xs/\Bl L C' b j:=by
 obtain⟨ys,C',e,p,hB'⟩:=abk hne (v1:=aa (.im (.list (xs.map D)))) Eh xs [] C (by show _<100000;lia) (by show 0+_<=_;lia) hB
 rw[oE,jy] at e
 refine⟨ys,C',fM [aa (.ce b),aa (.im (.list (xs.map D))),aj,aj] rfl rfl ?_ rfl (hB.eq hB'),p,hB'⟩
 simp_arith[RW,MK,uA,e]
theorem at3(a b c:au){k:Int}(h0:0<=k)(h1:k<3):∃x,fG [a,b,c] k=aa x/\(x=a\/x=b\/x=c):=by
 have:k=0\/k=1\/k=2:=by lia
 rcases this with rfl|rfl|rfl
 .exact⟨a,Ou _ _,.inl rfl⟩
 .exact⟨b,Ov _ _ _,.inr (.inl rfl)⟩
 .exact⟨c,W5 _ _ _ _,.inr (.inr rfl)⟩
theorem aiA(ps:List (Str×Str))(h:ps.length<=60):∃qs:List Str,qs.Perm (ps.map (·.1))/\tR [.dict (aL (bF ps))]=aa (.ow (.list (qs.map .str))):=by
 refine⟨gR strLt (ps.map (·.1)),o8 _,?_⟩
 have e:(aL (bF ps)).map (·.1)=(ps.map (·.1)).map dR:=by
  unfold aL bF;rw[cU,cU,cU];rfl
 show((strsOf ((aL (bF ps)).map (·.1))).bind _)=_
 rw[e,Gy,iJ,cY (by rw[bw];lia)];rfl
theorem anc{a d m:Int}(a0:0<=a)(a1:a<m)(d0:1<=d)(d1:d<m):0<=(a+d)%m/\(a+d)%m<m/\(a+d)%m≠a:=by
 refine⟨xP _ (by lia),Fo _ (by lia),?_⟩
 by_cases h:a+d<m
 .rw[Qo (by lia) h];lia
 .have e:(a+d)%m=a+d-m:=by
   rw[show a+d=m+(a+d-m) by lia,Int.add_emod_left,Qo (by lia) (by lia)];lia
  lia
theorem same_str{C:Ce}(n:Nat)(x:Str):lR (n+1) [.im (.str x),.im (.str x)] C=aa (.im (.bool ao),C):=by
 refine HY (k:=2) (n:=2) (en:=[aa (.im (.str x)),aa (.im (.str x))]) (e1:=[aa (.im (.str x)),aa (.im (.str x))]) rfl rfl ?_ rfl rfl;simp_arith[Du,kY,Bc,uh,pD,isNone,lD,Ay,ade]
theorem akj{C:Ce}(n:Nat)(xs:List Str)(hl:xs.length<=1000):lR (n+2) [.im (.list (xs.map .str)),.im (.list (xs.map .str))] C=aa (.im (.bool ao),C):=by
 have t:jU (.many 2) iZ (SM (lR (n+1))) [] (mY (xs.map .str) (xs.map .str)) C=aa (dI xs.length (.bool ao),C):=by
  clear hl;induction xs with
  |nil=>rfl
  |cons x xs ih=>
   rw[cj,mY];unfold jU;rw[cA,uH];simp_arith[vq,iZ,dN,jd,same_str n x,ih]
 have b:=aaH xs.length;have h1:(xs.length<=1000000)=True:=eq_true (by lia);refine HY (k:=2) (n:=2) (en:=[aa (.im (.list (xs.map .str))),aa (.im (.list (xs.map .str)))]) (e1:=[aa (.im (.list (xs.map .str))),aa (.im (.list (xs.map .str)))]) rfl rfl ?_ rfl rfl;simp_arith[Du,kY,Bc,uh,lD,BX,t,b.1,b.2,Qa,h1]
def Bu(ws:List (Int×Str×Str))(side:Prop)(h:Str)(qs:List Str):Prop:=∃l:List Str,l.Nodup/\(∀x,x∈l↔¬side/\nW ws h x)/\qs=gR strLt l
theorem Bu.unique{ws:List (Int×Str×Str)}{side:Prop}{h:Str}{qs qs':List Str}(a:Bu ws side h qs)(b:Bu ws side h qs'):qs=qs':=by
 obtain⟨l,n,m,rfl⟩:=a
 obtain⟨l',n',m',rfl⟩:=b
 have p:l.Perm l':=Tr n n' λx=>(m x).trans (m' x).symm
 exact Ve Ot (λ_ _=>trivial) ((o8 l).trans p) (Dl Ot λ_ _=>trivial)
theorem Bu.mem{ws:List (Int×Str×Str)}{side:Prop}{h:Str}{qs:List Str}(a:Bu ws side h qs)(x:Str):x∈qs↔¬side/\nW ws h x:=by
 obtain⟨l,n,m,rfl⟩:=a
 rw[(o8 l).mem_iff,m x]
theorem ajq{C:Ce}{zs:List Str}{ps:List (Str×Str)}{ht:iC}(hN:Names zs)(hP:gn zs ps)(hG:j0 zs ps ht)(z a1 b1:Str)(n day:Int)(h:Str):
  ∃qs:List Str,Gu [.im (gB ht),.im (cI z a1 b1 n),.im (.str h),.im (.int day)] C=aa (.ow (.list (qs.map .str)),C)/\qs.length<=61/\Bu (eF ht (up ps z) n day a1 b1) (h=a1\/h=b1) h qs:=by
 have s1:=Ae (C:=C) (z:=z) (a1:=a1) (b1:=b1) (n:=n) (p:=h);have w:=Nz (C:=C) hN hP hG z a1 b1 n day;have wf:=z9 hG (up ps z) n day a1 b1;by_cases h1:h=a1\/h=b1
 .refine⟨[],fM [aa (.im (gB ht)),aa (.im (cI z a1 b1 n)),aa (.im (.str h)),aa (.im (.int day)),aj] rfl rfl ?_ rfl rfl,kI _,[],mj,λx=>⟨λm=>(oA m).elim,λm=>(m.1 h1).elim⟩,rfl⟩
  rw[cY h1] at s1;simp_arith[Kr,s1]
 .rw[dW h1] at s1;generalize hws:eF ht (up ps z) n day a1 b1=ws at w wf
  obtain⟨st,e1,B⟩:=G6 (C:=C) (ws:=ws.map pJ) (s:=h) (by rw[bw];exact wf)
  have c:=pX (T:=.many 3) (ft:=iZ) (fe:=Ze) (fs:=[]) (C:=C) wD (λ_=>ao) (λw=>wD (pJ w)) (l:=ws) λw _=>⟨[.int w.1,.str w.2.1,.str w.2.2],rfl,rfl,λ_=>⟨.im (wD (pJ w)),_,by simp_arith[dN,jd];rfl,rfl⟩⟩
  rw[JF.mpr λ_ _=>rfl,show ws.map (λw=>wD (pJ w))=(ws.map pJ).map wD by rw[cU];rfl] at c;have q:(ws.length<=1000000)=True:=eq_true (by lia);have nl:fQ ((ws.map pJ).map wD)=ao:=vZ (λ_=>rfl) _;have kl:(st.map (·.1)).length<=61:=by
   have:=len_sub (m:=h::(ws.map pJ).map (·.2.1)) B.nd λp hp=>by
    obtain⟨r,hr⟩:=(B.iff p).mp hp
    cases hr with
    |nil=>exact dg
    |cons hw _=>exact dZ _ (cN.mpr ⟨_,hw,rfl⟩)
   simp only[cA,bw] at this⊢;lia
  have so:tR [.dict (aL (stL st))]=aa (.ow (.list ((gR strLt (st.map (·.1))).map .str))):=by
   have e:(aL (stL st)).map (·.1)=(st.map (·.1)).map dR:=by
    unfold aL stL;rw[cU,cU,cU];rfl
   show((strsOf ((aL (stL st)).map (·.1))).bind _)=_
   rw[e,Gy,iJ,cY (by lia)];rfl
  refine⟨gR strLt (st.map (·.1)),fM [aa (.im (gB ht)),aa (.im (cI z a1 b1 n)),aa (.im (.str h)),aa (.im (.int day)),aj] rfl rfl ?_ rfl rfl,by rw[(o8 _).length_eq];exact kl,st.map (·.1),B.nd,λx=>(B.keys x).trans ⟨λr=>⟨h1,r⟩,λr=>r.2⟩,rfl⟩
  simp_arith[Kr,s1,w,c,q,nl,e1,so]
def kj(r q:List Int):Prop:=r.length<q.length\/(r.length=q.length/\lexLe r q)
theorem ab7:∀r:List Int,lexLe r r
 |[]=>trivial
 |a::r=>.inr ⟨rfl,ab7 r⟩
theorem lex_trans:∀{r q s:List Int},lexLe r q->lexLe q s->lexLe r s
 |[],_,_,_,_=>trivial
 |a::r,b::q,c::s,h1,h2=>by
  rcases h1 with h1|⟨h1,k1⟩
  .rcases h2 with h2|⟨h2,k2⟩<;>exact .inl (by lia)
  .rcases h2 with h2|⟨h2,k2⟩
   .exact .inl (by lia)
   .exact .inr ⟨by lia,lex_trans k1 k2⟩
theorem ab8(n:Int):∀{r q:List Int},r.length=q.length->lexLe r q->lexLe (r++[n]) (q++[n])
 |[],[],_,_=>.inr ⟨rfl,trivial⟩
 |a::r,b::q,l,h=>h.imp id λh=>⟨h.1,ab8 n (Gq l) h.2⟩
theorem kj.refl(r:List Int):kj r r:=.inr ⟨rfl,ab7 r⟩
theorem kj.trans{r q s:List Int}(h1:kj r q)(h2:kj q s):kj r s:=by
 rcases h1 with h1|⟨h1,k1⟩
 .rcases h2 with h2|⟨h2,k2⟩<;>exact .inl (by lia)
 .rcases h2 with h2|⟨h2,k2⟩
  .exact .inl (by lia)
  .exact .inr ⟨by lia,lex_trans k1 k2⟩
theorem kj.snoc{r q:List Int}(n:Int)(h:kj r q):kj (r++[n]) (q++[n]):=by
 unfold kj;rw[fU,fU];rcases h with h|⟨h,k⟩
 .exact .inl (by lia)
 .exact .inr ⟨by lia,ab8 n h k⟩
def ltB(r q:List Int):Bool:=if(r.length:Int)=q.length then eO (r.map .inl) (q.map .inl) else decide ((r.length:Int)<q.length)
theorem V9:∀{r q:List Int},r.length=q.length->(eO (r.map .inl) (q.map .inl)=ao->lexLe r q)/\(eO (r.map .inl) (q.map .inl)=aF->lexLe q r)
 |[],[],_=>⟨λ_=>trivial,λ_=>trivial⟩
 |a::r,b::q,l=>by
  rw[cj,cj,eO];have ih:=V9 (Gq l);by_cases e:a=b
  .rw[aV (congrArg lN e)]
   exact⟨λh=>.inr ⟨e,ih.1 h⟩,λh=>.inr ⟨e.symm,ih.2 h⟩⟩
  .rw[bf λh=>e (by injection h)]
   refine⟨λh=>.inl (of_decide_eq_true h),λh=>.inl ?_⟩
   have:=of_decide_eq_false h;lia
theorem aeg(r q:List Int):(ltB r q=ao->kj r q)/\(ltB r q=aF->kj q r):=by
 unfold ltB;by_cases e:(r.length:Int)=q.length
 .rw[aV e];have e:r.length=q.length:=by lia
  exact⟨λh=>.inr ⟨e,(V9 e).1 h⟩,λh=>.inr ⟨e.symm,(V9 e).2 h⟩⟩
 .rw[bf e]
  refine⟨λh=>.inl ?_,λh=>.inl ?_⟩
  .have:=of_decide_eq_true h;lia
  .have:=of_decide_eq_false h;lia
theorem abl:∀r:List Int,keysOf (r.map .int)=aa (r.map .inl)
 |[]=>rfl
 |a::r=>by
  rw[cj,keysOf,abl r];rfl
theorem alB(r q:List Int):Ia (.tuple [.int r.length,.list (r.map .int)]) (.tuple [.int q.length,.list (q.map .int)])=aa (.im (.bool (ltB r q))):=by
 unfold Ia;simp only[abl,iJ];refine aV λh=>?_
 have:r.length=q.length:=by lia
 rw[cU,cU,show(bM ∘ lN:Int->Bool)=λ_=>ao from rfl,ahL,ahL,this]
abbrev Tb:=List (Str×List Int)
def dJ(f:Tb):List (Str×au):=f.map λx=>(x.1,.list (x.2.map .int))
def cR(f:Tb)(p:Str):Option (List Int):=(f.find? λx=>decide (x.1=p)).map (·.2)
theorem yc(x:Str×List Int)(l:Tb)(p:Str):cR (x::l) p=if x.1=p then aa x.2 else cR l p:=by
 unfold cR;rw[oY];by_cases h:x.1=p
 .rw[cY h,aV h];rfl
 .rw[dW h,bf h]
def vg(f:Tb)(z:Str)(v:List Int):Tb:=if(cR f z).isSome then f.map (λx=>if x.1=z then(z,v) else x) else f++[(z,v)]
theorem M6(z p:Str)(v:List Int)(f:Tb):cR (vg f z v) p=if z=p then aa v else cR f p:=by
 have set:∀f:Tb,cR (f.map λx=>if x.1=z then(z,v) else x) p=if z=p then(cR f p).map λ_=>v else cR f p:=λf=>by
  induction f with
  |nil=>split<;>rfl
  |cons x f ih=>
   rw[cj,yc,yc,ih];by_cases h2:z=p
   .subst h2;by_cases h:x.1=z
    .simp[h]
    .simp[h]
   .by_cases h:x.1=z
    .simp[h,h2]
    .simp[h,h2]
 have app:∀f:Tb,cR (f++[(z,v)]) p=(cR f p).or (if z=p then aa v else aj):=λf=>by
  induction f with
  |nil=>exact yc _ _ _
  |cons x f ih=>
   rw[mR,yc,yc,ih];by_cases h:x.1=p
   .rw[aV h,aV h];rfl
   .rw[bf h,bf h]
 unfold vg;split
 .rename_i h;rw[set];by_cases e:z=p
  .subst e
   obtain⟨w,hw⟩:=xr.mp h
   rw[aV rfl,aV rfl,hw];rfl
  .rw[bf e,bf e]
 .rename_i h;rw[app];by_cases e:z=p
  .subst e;rw[Option.not_isSome_iff_eq_none.mp h,aV rfl];rfl
  .rw[bf e,bf e,Option.or_none]
theorem alC(f:Tb)(z:Str)(v:List Int):(vg f z v).length<=f.length+1:=by
 unfold vg;split
 .rw[bw];exact qK _
 .rw[fU];exact bU _
theorem Hr(f:Tb)(z:Str):mG (aL (dJ f)) (.str z)=aa ((cR f z).map λv=>.list (v.map .int)):=by
 rw[Tp];unfold dJ cR;rw[Zq,Gf,Gf];rfl
theorem aeM(f:Tb)(z:Str):jM (.str z) (.dict (aL (dJ f)))=aa (.im (.bool (cR f z).isSome)):=by
 show((mG (aL (dJ f)) (.str z)).map (·.isSome)).map (λb=>Vl.im (.bool b))=_
 rw[Hr,jG,Ck];rfl
theorem apM{f:Tb}{z:Str}{v:List Int}(h:cR f z=aa v):bI (.dict (aL (dJ f))) (.str z)=aa (.im (.list (v.map .int))):=by
 unfold bI uy;simp only[Hr,h,jG]
theorem aoL(f:Tb)(z:Str)(v:List Int):putD (aL (dJ f)) (.str z) (.list (v.map .int))=aa (aL (dJ (vg f z v))):=by
 have ks:(cR f z).isSome=ao↔z∈(dJ f).map (·.1):=by
  unfold cR dJ;rw[Ck,cU,ahi];simp only[cN,decide_eq_true_eq];rfl
 unfold vg;by_cases h:(cR f z).isSome=ao
 .rw[aV h]
  show(if(cH cL (aL (dJ f))).isSome then aa (mL cL (.inr z) (.str z) (.list (v.map .int)) (aL (dJ f))) else aj)=_
  rw[G3];refine congrArg aa ?_;unfold mL;rw[aV]
  .unfold aL dJ;rw[cU,cU,cU,cU];refine uI λx _=>?_
   by_cases e:x.1=z
   .simp[vP,e]
   .simp[vP,e]
  .obtain⟨x,hx,e⟩:=cN.mp (ks.mp h)
   exact Qt.mpr ⟨(.str x.1,x.2),cN.mpr ⟨x,hx,rfl⟩,cY ((vP _ _).mpr e)⟩
 .rw[bf h,Mj λm=>h (ks.mpr m)];unfold dJ;rw[jZ];rfl
theorem adt(f:Tb)(z:Str):(cR f z).isSome=ao↔z∈f.map (·.1):=by
 unfold cR;rw[Ck,ahi];simp only[cN,decide_eq_true_eq]
theorem aoM{f:Tb}(h:(f.map (·.1)).Nodup)(z:Str)(v:List Int):((vg f z v).map (·.1)).Nodup:=by
 unfold vg;split
 .rw[cU,show f.map ((·.1) ∘ λx=>if x.1=z then(z,v) else x)=f.map (·.1) from uI λx _=>by
   by_cases e:x.1=z
   .simp[e]
   .simp[e]]
  exact h
 .rename_i k;rw[jZ];exact kE.mpr ⟨h,je.mpr ⟨oA,mj⟩,λa ha c hc e=>k ((adt f z).mpr (by rw[e,jb.mp hc] at ha;exact ha))⟩
def Iw(v:List Int):Option (List Int)->Bool
 |none=>ao
 |some o=>ltB v o
def kZ(f:Tb)(r:bR):Tb:=match cR f r.2.1 with
 |none=>f
 |some v=>if Iw (v++[r.1]) (cR f r.2.2.1) then vg f r.2.2.1 (v++[r.1]) else f
def rA(lv:List bR):Nat->Tb->Tb
 |0,f=>f
 |n+1,f=>rA lv n (lv.foldl kZ f)
def rF(f g:Tb):Prop:=∀x v,cR f x=aa v->∃w,cR g x=aa w/\kj w v
theorem rF.refl(f:Tb):rF f f:=λx v h=>⟨v,h,kj.refl _⟩
theorem rF.trans{f g h:Tb}(a:rF f g)(b:rF g h):rF f h:=λx v e=>by
 obtain⟨w,e1,l1⟩:=a x v e
 obtain⟨u,e2,l2⟩:=b x w e1
 exact⟨u,e2,l2.trans l1⟩
theorem aeh(f:Tb)(r:bR):rF f (kZ f r):=by
 unfold kZ;split
 .exact rF.refl f
 .rename_i v hv;split
  .rename_i b;intro x w hx;rw[M6];by_cases e:r.2.2.1=x
   .rw[aV e];rw[e,hx] at b
    exact⟨_,rfl,(aeg _ _).1 b⟩
   .rw[bf e]
    exact⟨w,hx,kj.refl _⟩
  .exact rF.refl f
theorem ane{f:Tb}{r:bR}{v:List Int}(h:cR f r.2.1=aa v):∃w,cR (kZ f r) r.2.2.1=aa w/\kj w (v++[r.1]):=by
 unfold kZ;rw[h];show ∃w,cR (if Iw (v++[r.1]) (cR f r.2.2.1) then vg f r.2.2.1 (v++[r.1]) else f) r.2.2.1=aa w/\_;split
 .rw[M6,aV rfl]
  exact⟨_,rfl,kj.refl _⟩
 .rename_i b;cases o:cR f r.2.2.1 with
  |none=>rw[o] at b;exact absurd rfl b
  |some w=>
   rw[o] at b
   exact⟨w,rfl,(aeg _ _).2 (YL _▸b)⟩
theorem Wa:∀(lv:List bR)(f:Tb),rF f (lv.foldl kZ f)
 |[],f=>rF.refl f
 |r::lv,f=>(aeh f r).trans (Wa lv (kZ f r))
theorem aei(lv:List bR):∀(n:Nat)(f:Tb),rF f (rA lv n f)
 |0,f=>rF.refl f
 |n+1,f=>(Wa lv f).trans (aei lv n _)
theorem adu{r:bR}:∀{lv:List bR}{f:Tb}{v:List Int},r∈lv->cR f r.2.1=aa v->∃w,cR (lv.foldl kZ f) r.2.2.1=aa w/\kj w (v++[r.1])
 |q::lv,f,v,hm,hg=>by
  rw[vC];rcases bY.mp hm with c|hm
  .subst c
   obtain⟨w,e,l⟩:=ane hg
   obtain⟨u,e2,l2⟩:=Wa lv _ _ _ e
   exact⟨u,e2,l2.trans l⟩
  .obtain⟨w,e,l⟩:=aeh f q _ _ hg
   obtain⟨u,e2,l2⟩:=adu hm e
   exact⟨u,e2,l2.trans (l.snoc _)⟩
theorem adw{lv:List bR}{a x:Str}{p:List Int}(hp:gm (lv.map qw) a p x):∀{k:Nat}{f:Tb}{v p0:List Int},cR f a=aa v->kj v p0->p.length<=k->∃w,cR (rA lv k f) x=aa w/\kj w (p0++p):=by
 induction hp with
 |nil _=>
  intro k f v p0 h l _
  obtain⟨w,e,l2⟩:=aei lv k f _ _ h
  exact⟨w,e,by rw[jd];exact l2.trans l⟩
 |cons h1 _ ih=>
  intro k f v p0 h l hl;cases k with
  |zero=>exact absurd hl (Yk _)
  |succ k=>
   obtain⟨c,hr,e⟩:=cN.mp h1
   injection e with e1 e2
   injection e2 with e2 e3
   obtain⟨w,e4,l4⟩:=adu (f:=f) hr (by rw[e2];exact h)
   rw[e3] at e4;rw[e1] at l4
   obtain⟨u,e5,l5⟩:=ih (k:=k) e4 (l4.trans (l.snoc _)) (agv hl)
   rw[lA] at l5
   exact⟨u,e5,l5⟩
def BZ(ws:List (Int×Str×Str))(h:Str)(f:Tb):Prop:=∀x v,cR f x=aa v->gm ws h v x
theorem aoN{ws:List (Int×Str×Str)}{h:Str}{f:Tb}{r:bR}(hr:qw r∈ws)(H:BZ ws h f):BZ ws h (kZ f r):=by
 unfold kZ;split
 .exact H
 .rename_i v hv;split
  .intro x w hx;rw[M6] at hx;by_cases e:r.2.2.1=x
   .rw[aV e] at hx;cases hx;rw[<-e]
    exact(H _ _ hv).snoc hr
   .rw[bf e] at hx;exact H x w hx
  .exact H
theorem aej{ws:List (Int×Str×Str)}{h:Str}:∀{lv:List bR}{f:Tb},(∀r∈lv,qw r∈ws)->BZ ws h f->BZ ws h (lv.foldl kZ f)
 |[],_,_,H=>H
 |r::lv,f,hr,H=>aej (lv:=lv) (λq hq=>hr q (dZ _ hq)) (aoN (hr r dg) H)
theorem aek{ws:List (Int×Str×Str)}{h:Str}{lv:List bR}(hr:∀r∈lv,qw r∈ws):∀{n:Nat}{f:Tb},BZ ws h f->BZ ws h (rA lv n f)
 |0,_,H=>H
 |n+1,_,H=>aek hr (n:=n) (aej hr H)
def xj(f:Tb)(M:Nat):Prop:=f.length<=M+1/\∀x v,cR f x=aa v->v.length<=M
theorem ael{f:Tb}{M:Nat}(r:bR)(h:xj f M):xj (kZ f r) (M+1):=by
 have h':xj f (M+1):=⟨YG h.1,λx v e=>YG (h.2 x v e)⟩
 unfold kZ;split
 .exact h'
 .rename_i v hv;split
  .have:=alC f r.2.2.1 (v++[r.1]);have:=h.1
   refine⟨by lia,λx w hx=>?_⟩
   rw[M6] at hx;by_cases e:r.2.2.1=x
   .rw[aV e] at hx;cases hx;rw[fU];exact Qq (h.2 _ _ hv)
   .rw[bf e] at hx;exact h'.2 x w hx
  .exact h'
theorem aem:∀{lv:List bR}{f:Tb}{M:Nat},xj f M->xj (lv.foldl kZ f) (M+lv.length)
 |[],_,_,h=>h
 |r::lv,f,M,h=>by
  have:=aem (lv:=lv) (ael r h);rw[Nat.add_right_comm] at this;exact this
theorem aoO{f:Tb}(h:(f.map (·.1)).Nodup)(r:bR):((kZ f r).map (·.1)).Nodup:=by
 unfold kZ;split
 .exact h
 .split
  .exact aoM h _ _
  .exact h
theorem aen:∀{lv:List bR}{f:Tb},(f.map (·.1)).Nodup->((lv.foldl kZ f).map (·.1)).Nodup
 |[],_,h=>h
 |r::lv,f,h=>aen (lv:=lv) (aoO h r)
theorem aeo{lv:List bR}:∀{n:Nat}{f:Tb},(f.map (·.1)).Nodup->((rA lv n f).map (·.1)).Nodup
 |0,_,h=>h
 |n+1,_,h=>aeo (n:=n) (aen h)
theorem akk{C:Ce}{lv:List bR}{h:Str}(jE:lv.length<=16)(s:Str):Be (lv.map qw) h s (cR (rA lv lv.length [(h,[])]) s)/\∀v,cR (rA lv lv.length [(h,[])]) s=aa v->v.length<=16:=by
 have T0:BZ (lv.map qw) h [(h,[])]:=λx v e=>by
  rw[yc] at e;split at e
  .rename_i k;cases e;rw[<-k];exact .nil _
  .cases e
 have T:=aek (lv:=lv) (λr hr=>cN.mpr ⟨r,hr,rfl⟩) (n:=lv.length) T0;have few:∀r,gm (lv.map qw) h r s->∃w,cR (rA lv lv.length [(h,[])]) s=aa w/\w.length<=lv.length/\(r.length<=lv.length->kj w r):=λr hr=>by
  obtain⟨st,_,B⟩:=G6 (C:=C) (ws:=(lv.map qw).map pJ) (s:=h) (by rw[bw,bw];lia)
  obtain⟨p,hp,pl⟩:=B.Uu ⟨r,hr⟩
  rw[bw] at pl;have f0:cR [(h,[])] h=aa []:=by rw[yc,aV rfl]
  obtain⟨w,e,l⟩:=adw hp f0 (kj.refl []) pl
  refine⟨w,e,?_,λrl=>?_⟩
  .rw[jy] at l;rcases l with l|l<;>lia
  .obtain⟨w',e',l'⟩:=adw hr f0 (kj.refl []) rl
   rw[e] at e';cases e';exact l'
 cases e:cR (rA lv lv.length [(h,[])]) s with
 |none=>
  refine⟨λr hr=>?_,λv k=>nomatch k⟩
  obtain⟨w,e2,_⟩:=few r hr
  rw[e] at e2;cases e2
 |some v=>
  refine⟨⟨T s v e,λr hr=>?_⟩,λv' k=>by
   obtain⟨w,e2,l2,_⟩:=few v (T s v e)
   rw[e] at e2;cases e2;cases k;lia⟩
  obtain⟨w,e2,l2,k⟩:=few r hr
  rw[e] at e2;cases e2;by_cases c:r.length<=lv.length
  .exact k c
  .exact .inl (by lia)
theorem eE{f g:FS}{env e1:En}{C C1:Ce}(h:f env C=aa (.nx,e1,C1)):bG f g env C=g e1 C1:=by
 unfold bG;rw[h]
theorem wg{fi:FI}{g:FG}{b:FS}{env e1:En}{C C1:Ce}{its:List au}(h:fi env C=aa (its,e1,C1)):jt fi g b env C=gC g b its e1 C1:=by
 unfold jt;rw[h]
theorem HN{C:Ce}{f:FB}{env:En}{k:Int}(h:f env C=aa (.int k,env,C))(k1:0<=k)(k2:k<=1000):qy f env C=aa (jV 0 k.toNat,env,C):=by
 unfold qy;rw[h];exact W6 (by lia) (by lia) _ _
theorem alD(r:bR)(l:List au):fQ (bu r::l)=fQ l:=by
 unfold bu;simp only[fQ,lg,Gn,ah9]
theorem GF:∀l:List bR,fQ (l.map bu)=ao
 |[]=>rfl
 |r::l=>by rw[cj,alD];exact GF l
abbrev sX(v0 v1 v2 v3 v4 v5:Option Vl)(f:Tb)(v7 v8 v9 v10:Option Vl):En:=[v0,v1,v2,v3,v4,v5,aa (.ow (.dict (aL (dJ f)))),v7,v8,v9,v10]
section
variable{C:Ce}{v0 v1 v2 v3 v4 v5 v7:Option Vl}
theorem alE{f:Tb}{M:Nat}(r:bR)(hz:xj f M)(hM:M<=1000)(v9 v10:Option Vl):∃w9 w10,Q3 (sX v0 v1 v2 v3 v4 v5 f v7 (aa (.im (bu r))) v9 v10) C=aa (.nx,sX v0 v1 v2 v3 v4 v5 (kZ f r) v7 (aa (.im (bu r))) w9 w10,C):=by
 have q:((aL (dJ f)).length<1000000)=True:=eq_true (by have:=hz.1;unfold aL dJ;rw[bw,bw];lia);have i1:=aeM f r.2.1;have g1:=Hr f r.2.2.1;unfold kZ;simp only[sX,bu];cases hv:cR f r.2.1 with
 |none=>
  rw[hv] at i1
  refine⟨v9,v10,?_⟩
  simp_arith[i1,Yt]
 |some v=>
  rw[hv] at i1;have x1:=apM hv;have ad:gq (.list (v.map .int)) (.list [.int r.1])=aa (.ow (.list ((v++[r.1]).map .int))):=by
   rw[jZ];exact add_l (by have:=hz.2 _ _ hv;rw[bw];show _+1<=_;lia)
  have p1:=aoL f r.2.2.1 (v++[r.1])
  obtain⟨row,hrow⟩:∃row,v++[r.1]=row:=⟨_,rfl⟩
  rw[hrow] at ad p1;cases ho:cR f r.2.2.1 with
  |none=>
   rw[ho] at g1
   refine⟨aa (.im (.list (row.map .int))),aa (.im .none),?_⟩
   simp_arith[i1,Fj,hrow,x1,ad,oO,g1,QL,pD,isNone,Iw,oN,qW,p1,q]
  |some o=>
   rw[ho] at g1;have l1:=alB row o;cases hb:ltB row o with
   |true=>
    rw[hb] at l1
    refine⟨aa (.im (.list (row.map .int))),aa (.im (.list (o.map .int))),?_⟩
    simp_arith[i1,Fj,hrow,x1,ad,oO,g1,jG,pD,isNone,Iw,hb,bw,l1,oN,qW,p1,q]
   |false=>
    rw[hb] at l1
    refine⟨aa (.ow (.list (row.map .int))),aa (.im (.list (o.map .int))),?_⟩
    simp_arith[i1,Fj,hrow,x1,ad,oO,g1,jG,pD,isNone,Iw,hb,bw,l1,pR]
theorem aep:∀(lv:List bR)(f:Tb)(M:Nat)(v8 v9 v10:Option Vl),xj f M->M+lv.length<=1000->∃w8 w9 w10,gC (dz 8) Q3 (lv.map bu) (sX v0 v1 v2 v3 v4 v5 f v7 v8 v9 v10) C=aa (.nx,sX v0 v1 v2 v3 v4 v5 (lv.foldl kZ f) v7 w8 w9 w10,C)
 |[],f,M,v8,v9,v10,_,_=>⟨v8,v9,v10,rfl⟩
 |r::lv,f,M,v8,v9,v10,hz,hl=>by
  rw[cA] at hl
  obtain⟨x9,x10,e1⟩:=alE (C:=C) (v0:=v0) (v1:=v1) (v2:=v2) (v3:=v3) (v4:=v4) (v5:=v5) (v7:=v7) r hz (by lia) v9 v10
  obtain⟨w8,w9,w10,e⟩:=aep lv (kZ f r) (M+1) (aa (.im (bu r))) x9 x10 (ael r hz) (by lia)
  refine⟨w8,w9,w10,?_⟩
  rw[vC,<-e,cj,gC];simp only[sX,dz,Fp,Fq] at e1⊢;simp only[e1]
end
theorem aaN{C:Ce}{v0 v1 v2 v3 v4:Option Vl}{lv:List bR}(jE:lv.length<=16):∀(its:List au)(f:Tb)(M:Nat)(sv:Vl)(v7 v8 v9 v10:Option Vl),sv=.ow (.list (lv.map bu))\/sv=.im (.list (lv.map bu))->xj f M->M+16*its.length<=900->∃w5 w7 w8 w9 w10,gC (dz 7) ZC its (sX v0 v1 v2 v3 v4 (aa sv) f v7 v8 v9 v10) C=aa (.nx,sX v0 v1 v2 v3 v4 w5 (rA lv its.length f) w7 w8 w9 w10,C)
 |[],f,M,sv,v7,v8,v9,v10,_,_,_=>⟨aa sv,v7,v8,v9,v10,rfl⟩
 |d::its,f,M,sv,v7,v8,v9,v10,hv,hz,hl=>by
  rw[cA] at hl
  obtain⟨x8,x9,x10,e1⟩:=aep (C:=C) (v0:=v0) (v1:=v1) (v2:=v2) (v3:=v3) (v4:=v4) (v5:=aa (.im (.list (lv.map bu)))) (v7:=aa (.im d)) lv f M v8 v9 v10 hz (by lia)
  obtain⟨w5,w7,w8,w9,w10,e2⟩:=aaN jE its (lv.foldl kZ f) (M+lv.length) (.im (.list (lv.map bu))) (aa (.im d)) x8 x9 x10 (.inr rfl) (aem hz) (by lia)
  refine⟨w5,w7,w8,w9,w10,?_⟩
  rw[cA,rA,<-e2,gC];simp only[sX] at e1⊢;rcases hv with rfl|rfl
  .simp_arith[jt,e1]
  .simp_arith[jt,e1]
theorem ajr{C:Ce}{zs:List Str}{ps:List (Str×Str)}(hN:Names zs)(hP:gn zs ps)(p8:ps.length<=8)(z a1 b1:Str)(n day:Int)(lv:List bR):jU .one Q4 Q5 [aa (.im (.dict (aL (bF ps)))),aa (.im (cI z a1 b1 n)),aa (.im (.int day))] (lv.map bu) C=aa ((lv.filter (iT (up ps z) n day a1 b1)).map bu,C):=by
 refine pX (T:=.one) (ft:=Q4) (fe:=Q5) (fs:=[aa (.im (.dict (aL (bF ps)))),aa (.im (cI z a1 b1 n)),aa (.im (.int day))]) (C:=C) bu (iT (up ps z) n day a1 b1) bu (l:=lv) λr _=>⟨[bu r],rfl,?_,λ_=>⟨.im (bu r),_,rfl,rfl⟩⟩
 have q:=adq (C:=C) hN hP p8 z a1 b1 n day r;simp_arith[dN,mR,jy,q]
theorem abm{os:List Str}{n day:Int}{a1 b1:Str}{r:bR}(h:iT os n day a1 b1 r=ao):¬(r.2.2.1=a1\/r.2.2.1=b1):=by
 unfold iT at h;simp only[jn,Qn] at h;exact of_decide_eq_false h.2.2.2.2
theorem alF{ht:iC}{os:List Str}{n day:Int}{a1 b1 h s:Str}{p:List Int}(hs:¬(h=a1\/h=b1))(hp:gm (eF ht os n day a1 b1) h p s):¬(s=a1\/s=b1):=by
 have:=hp.HH;generalize p.reverse=p' at this;cases this with
 |nil=>exact hs
 |cons hw _=>
  obtain⟨r,hr,e⟩:=cN.mp (G4.mp hw)
  injection e with e1 e2
  injection e2 with e2 e3
  rw[<-e3];exact abm (jY.mp hr).2
def ur(ht:iC)(os:List Str)(n day:Int)(a1 b1 h s:Str)(o:Option (List Int)):Prop:=(((h=a1\/h=b1)\/(s=a1\/s=b1))->o=aj)/\(¬((h=a1\/h=b1)\/(s=a1\/s=b1))->Be (eF ht os n day a1 b1) h s o)
theorem ur.unique{ht:iC}{os:List Str}{n day:Int}{a1 b1 h s:Str}{o o':Option (List Int)}(a:ur ht os n day a1 b1 h s o)(b:ur ht os n day a1 b1 h s o'):o=o':=by
 by_cases c:(h=a1\/h=b1)\/(s=a1\/s=b1)
 .rw[a.1 c,b.1 c]
 .exact(a.2 c).unique (b.2 c)
theorem aaO{C:Ce}{zs:List Str}{ps ps':List (Str×Str)}{lv:List bR}(hN:Names zs)(hP:gn zs ps)(p8:ps.length<=8)(jE:lv.length<=16)(z a1 b1:Str)(n day:Int)(h:Str):
  ∃f:Tb,zV [.im (.dict (aL (bF ps))),.im (.list (lv.map bu)),.im (cI z a1 b1 n),.im (.str h),.im (.int day)] C=aa (.ow (.dict (aL (dJ f))),C)/\(∀s,ur ⟨ps',[],lv,[]⟩ (up ps z) n day a1 b1 h s (cR f s)/\∀v,cR f s=aa v->v.length<=16)/\(f.map (·.1)).Nodup:=by
 refine hide λGG gg=>?_
 have ct:lG [dR z,.int n,.str a1,.str b1] (aa 2) aj=[.str a1,.str b1]:=rfl;have ni:=Eb h a1 b1;by_cases h1:h=a1\/h=b1
 .rw[cY h1] at ni;refine gg ⟨[],fM [aa (.im (.dict (aL (bF ps)))),aa (.im (.list (lv.map bu))),aa (.im (cI z a1 b1 n)),aa (.im (.str h)),aa (.im (.int day)),aj,aj,aj,aj,aj,aj] rfl rfl ?_ rfl rfl,λs=>⟨⟨λ_=>rfl,λk=>absurd (.inl h1) k⟩,λv k=>nomatch k⟩,mj⟩;simp_arith[K1,gG,gj,iG,lZ,ct,ni,vX];rfl
 rw[dW h1] at ni
 obtain⟨l,lE⟩:∃l,l=lv.filter (iT (up ps z) n day a1 b1):=⟨_,rfl⟩
 have ll:l.length<=16:=by rw[lE];exact jQ (xu _ _) jE
 have c:=ajr (C:=C) hN hP p8 z a1 b1 n day lv;rw[<-lE] at c;have q:(l.length<=1000000)=True:=eq_true (by lia);have nl:=GF l;have kd:cL (.str h)=aa (.inr h):=rfl;have fm:=λs=>akk (C:=C) (h:=h) ll s
 have rl:(jV 0 l.length).length=l.length:=by simp[jV]
 have z0:xj [(h,[])] 0:=⟨bU _,λx v e=>by
  rw[yc] at e;split at e
  .cases e;exact bU _
  .cases e⟩
 obtain⟨w5,w7,w8,w9,w10,e1⟩:=aaN (C:=C) (v0:=aa (.im (.dict (aL (bF ps))))) (v1:=aa (.im (.list (lv.map bu)))) (v2:=aa (.im (cI z a1 b1 n))) (v3:=aa (.im (.str h))) (v4:=aa (.im (.int day))) ll (jV 0 l.length) [(h,[])] 0 (.ow (.list (l.map bu))) aj aj aj aj (.inl rfl) z0 (by rw[rl];lia)
 rw[rl] at e1;have nd:((rA l l.length [(h,[])]).map (·.1)).Nodup:=aeo (je.mpr ⟨oA,mj⟩);generalize rA l l.length [(h,[])]=f at fm e1 nd;refine gg ⟨f,fM [aa (.im (.dict (aL (bF ps)))),aa (.im (.list (lv.map bu))),aa (.im (cI z a1 b1 n)),aa (.im (.str h)),aa (.im (.int day)),aj,aj,aj,aj,aj,aj] rfl rfl ?_ rfl rfl,λs=>⟨⟨λk=>?_,λ_=>by have:=(fm s).1;rw[lE] at this;exact this⟩,(fm s).2⟩,nd⟩
 .refine(congrArg (zY λp=>(p.1,p.2.2)) (?_:K1 _ C=aa (.rt (.ow (.dict (aL (dJ f)))),sX (aa (.im (.dict (aL (bF ps))))) (aa (.im (.list (lv.map bu)))) (aa (.im (cI z a1 b1 n))) (aa (.im (.str h))) (aa (.im (.int day))) w5 f w7 w8 w9 w10,C))).trans rfl
  refine(eE (e1:=[aa (.im (.dict (aL (bF ps)))),aa (.im (.list (lv.map bu))),aa (.im (cI z a1 b1 n)),aa (.im (.str h)),aa (.im (.int day)),aj,aj,aj,aj,aj,aj]) (C1:=C) ?_).trans ?_
  .simp_arith[gG,gj,iG,lZ,ct,ni]
  refine(eE (e1:=sX (aa (.im (.dict (aL (bF ps))))) (aa (.im (.list (lv.map bu)))) (aa (.im (cI z a1 b1 n))) (aa (.im (.str h))) (aa (.im (.int day))) (aa (.ow (.list (l.map bu)))) [(h,[])] aj aj aj aj) (C1:=C) ?_).trans ?_
  .have k0:aL (dJ [(h,[])])=[(.str h,.list [])]:=rfl;simp only[sX,k0];simp_arith[c,q,nl,u9,kd]
  refine(eE ((wg (HN (k:=(l.length:Int)) ?_ (by lia) (by lia))).trans e1)).trans ?_
  .show aa (ie ((l.map bu).length:Int),_,C)=_;rw[bw];rfl
  .rfl
 .cases e:cR f s with
  |none=>rfl
  |some v=>
   have:=(fm s).1;rw[e,lE] at this;exact absurd (k.resolve_left h1) (alF (ht:=⟨ps',[],lv,[]⟩) h1 this.1)
theorem ajs{C:Ce}{zs:List Str}{ps ps':List (Str×Str)}{lv:List bR}(hN:Names zs)(hP:gn zs ps)(p8:ps.length<=8)(jE:lv.length<=16)(z a1 b1:Str)(n day:Int)(h:Str):
  ∃f:Tb,zV [.im (.dict (aL (bF ps))),.im (.list (lv.map bu)),.im (cI z a1 b1 n),.im (.str h),.im (.int day)] C=aa (.ow (.dict (aL (dJ f))),C)/\∀s,ur ⟨ps',[],lv,[]⟩ (up ps z) n day a1 b1 h s (cR f s)/\∀v,cR f s=aa v->v.length<=16:=by
 obtain⟨f,e,M,_⟩:=aaO (C:=C) (ps':=ps') hN hP p8 jE z a1 b1 n day h
 exact⟨f,e,M⟩
theorem adx{α:Type}{P:α->Prop}:∀{l:List α},(∀x∈l,P x)->∃xs:List {x:α // P x},xs.map (·.1)=l
 |[],_=>⟨[],rfl⟩
 |x::l,h=>by
  obtain⟨xs,e⟩:=adx λy hy=>h y (dZ _ hy)
  exact⟨⟨x,h x dg⟩::xs,congrArg (x::·) e⟩
theorem akl{C:Ce}{b L j:Nat}{pe:List Str}(hn:∀z∈pe,nameB z=ao)(hl:pe.length<=100)(hB:Bl L C b (j+pe.length)):∃(ys:List Str)(C':Ce),Gx [.ce b,.im (.list (pe.map .str))] C=aa (.ow (.list (ys.map .str)),C')/\ys.Perm pe/\Bl L C' b j:=by
 obtain⟨xs,rfl⟩:=adx hn
 rw[bw] at hl hB
 obtain⟨ys,C',e,pm,hB'⟩:=anb (D:=λx:{z:Str // nameB z=ao}=>dR x.1) (λl=>by
  have:=ne_nil (l.map (·.1)) (λz hz=>by obtain⟨x,_,rfl⟩:=cN.mp hz;exact x.2);rw[cU,List.isEmpty_map] at this;exact this) hl hB
 refine⟨ys.map (·.1),C',?_,pm.map _,hB'⟩
 rw[cU,cU];exact e
def wj(R:Int->Prop):Option Int->Prop
 |none=>∀n,0<=n->n<=1000000000->¬R n
 |some m=>(0<=m/\m<=1000000000)/\R m/\∀n,m<n->n<=1000000000->¬R n
theorem wj.unique{R:Int->Prop}:∀{o o':Option Int},wj R o->wj R o'->o=o'
 |none,none,_,_=>rfl
 |none,some m,a,b=>absurd b.2.1 (a m b.1.1 b.1.2)
 |some m,none,a,b=>absurd a.2.1 (b m a.1.1 a.1.2)
 |some m,some m',a,b=>by
  rcases Int.lt_trichotomy m m' with l|l|l
  .exact absurd b.2.1 (a.2.2 m' l b.1.2)
  .rw[l]
  .exact absurd a.2.1 (b.2.2 m l a.1.2)
theorem ab9{ws ws':List (Int×Str×Str)}(h:∀w∈ws,w∈ws'){a b:Str}{r:List Int}(p:gm ws a r b):gm ws' a r b:=by
 induction p with
 |nil p=>exact .nil p
 |cons h1 _ ih=>exact .cons (h _ h1) ih
def Rn(ht:iC)(os:List Str)(day:Int)(a1 b1 h s:Str)(n:Int):Prop:=¬((h=a1\/h=b1)\/(s=a1\/s=b1))/\nW (eF ht os n day a1 b1) h s
theorem G7{os:List Str}{n m day:Int}{a1 b1:Str}{r:bR}(h:iT os n day a1 b1 r=ao)(hm:m<=r.2.2.2.2.2.2):iT os m day a1 b1 r=ao:=by
 unfold iT at h⊢;simp only[jn] at h⊢
 exact⟨h.1,h.2.1,cY hm,h.2.2.2⟩
theorem HQ{os:List Str}{n day:Int}{a1 b1:Str}{r:bR}(h:iT os n day a1 b1 r=ao):n<=r.2.2.2.2.2.2:=by
 unfold iT at h;simp only[jn] at h;exact of_decide_eq_true h.2.2.1
theorem acd:∀(ns:List Int)(n:Int),(∃x∈ns,n<=x)->∃m∈ns,n<=m/\∀x∈ns,n<=x->m<=x
 |[],_,⟨_,h,_⟩=>absurd h oA
 |y::ns,n,⟨x,hx,l⟩=>by
  by_cases c:∃x∈ns,n<=x
  .obtain⟨m,h1,h2,h3⟩:=acd ns n c
   by_cases d:n<=y/\y<=m
   .exact⟨y,dg,d.1,λx hx l=>(bY.mp hx).elim (λe=>by rw[e];exact rH _) λhx=>zT d.2 (h3 x hx l)⟩
   .exact⟨m,dZ _ h1,h2,λx hx l=>(bY.mp hx).elim (λe=>by subst e;lia) λhx=>h3 x hx l⟩
  .rcases bY.mp hx with rfl|hx
   .exact⟨x,dg,l,λw hw k=>(bY.mp hw).elim (λe=>by rw[e];exact rH _) λhw=>absurd ⟨w,hw,k⟩ c⟩
   .exact absurd ⟨x,hx,l⟩ c
structure Iz(ht:iC)(ns:List Int):Prop where
 down:ns.Pairwise (·>=·)
 IK:∀n∈ns,0<=n/\n<=1000000000
 top:1000000000∈ns
 each:∀r∈ht.leaves,r.2.2.2.2.2.2∈ns
 len:ns.length<=17
theorem Iz.up{ht:iC}{ns:List Int}(S:Iz ht ns){os:List Str}{day n:Int}{a1 b1 h s:Str}(hn:n<=1000000000)(R:Rn ht os day a1 b1 h s n):∃m∈ns,n<=m/\Rn ht os day a1 b1 h s m:=by
 obtain⟨m,h1,h2,h3⟩:=acd ns n ⟨_,S.top,hn⟩
 obtain⟨k,r,p⟩:=R
 refine⟨m,h1,h2,k,r,ab9 (λw hw=>?_) p⟩
 obtain⟨l,hl,rfl⟩:=cN.mp hw
 obtain⟨q1,q2⟩:=jY.mp hl
 exact cN.mpr ⟨l,jY.mpr ⟨q1,G7 q2 (h3 _ (S.each l q1) (HQ q2))⟩,rfl⟩
theorem Iz.most{ht:iC}{ns:List Int}(S:Iz ht ns){os:List Str}{day:Int}{a1 b1 h s:Str}{o:Option Int}(ho:match o with|none=>∀n∈ns,¬Rn ht os day a1 b1 h s n|some m=>∃l r,ns=l++m::r/\Rn ht os day a1 b1 h s m/\∀n∈l,¬Rn ht os day a1 b1 h s n):wj (Rn ht os day a1 b1 h s) o:=by
 cases o with
 |none=>
  intro n _ h2 R
  obtain⟨m,h3,_,h4⟩:=S.up h2 R
  exact ho m h3 h4
 |some m=>
  obtain⟨l,r,e,h1,h2⟩:=ho
  refine⟨S.IK m (by rw[e];exact fK _ dg),h1,λn h3 h4 R=>?_⟩
  obtain⟨x,h5,h6,h7⟩:=S.up h4 R
  rw[e] at h5;rcases dD.mp h5 with h5|h5
  .exact h2 x h5 h7
  .rcases bY.mp h5 with rfl|h5
   .lia
   .have:=S.down;rw[e] at this;have:=(qG.mp (Qd.mp this).2.1).1 x h5;lia
theorem anf{C:Ce}{zs:List Str}{ps:List (Str×Str)}{ht:iC}(hG:j0 zs ps ht):∃ns,J7 [.im (gB ht)] C=aa (.ow (.list (ns.map .int)),C)/\Iz ht ns:=by
 have c:=pX (T:=.one) (ft:=iZ) (fe:=YW) (fs:=[]) (C:=C) bu (λ_=>ao) (λr=>.int (if(1000000000:Int)<r.2.2.2.2.2.2 then 1000000000 else r.2.2.2.2.2.2)) (l:=ht.leaves) λr _=>⟨_,rfl,rfl,λ_=>⟨_,_,by simp_arith[dN,mR,jy,bu];rfl,rfl⟩⟩
 rw[JF.mpr λ_ _=>rfl] at c;have h16:=hG.jE
 obtain⟨ms,me⟩:∃ms:List Int,ms=ht.leaves.map λr=>if(1000000000:Int)<r.2.2.2.2.2.2 then 1000000000 else r.2.2.2.2.2.2:=⟨_,rfl⟩
 have ml:ms.length=ht.leaves.length:=by rw[me,bw]
 have q:(ms.length<=1000000)=True:=eq_true (by lia);have c2:ht.leaves.map (λr=>ie (if(1000000000:Int)<r.2.2.2.2.2.2 then 1000000000 else r.2.2.2.2.2.2))=ms.map .int:=by rw[me,cU];rfl
 rw[c2] at c;have io:intsOf (.int 1000000000::ms.map .int)=aa (1000000000::ms):=Sy (1000000000::ms);have l64:decide (ms.length+1<64)=ao:=cY (by lia);have ad:gq (.list [.int 1000000000]) (.list (ms.map .int))=aa (.ow (.list (.int 1000000000::ms.map .int))):=add_l (xs:=[.int 1000000000]) (by rw[bw];show 1+_<=_;lia);have pm:=o8 (lt:=ltI) (1000000000::ms);have mem:∀n,n∈(gR ltI (1000000000::ms)).reverse↔n=1000000000\/n∈ms:=λn=>by rw[List.mem_reverse,pm.mem_iff,bY]
 have mr:∀n∈ms,∃r∈ht.leaves,r.2.2.2.2.2.2=n:=λn hn=>by
  rw[me] at hn
  obtain⟨r,hr,e⟩:=cN.mp hn
  refine⟨r,hr,?_⟩
  have:=(hG.leaves r hr).most;split at e<;>lia
 refine⟨(gR ltI (1000000000::ms)).reverse,fM [aa (.im (gB ht)),aj] rfl rfl ?_ rfl rfl,⟨?_,λn hn=>?_,(mem _).mpr (.inl rfl),λr hr=>(mem _).mpr (.inr ?_),?_⟩⟩
 .simp_arith[Rf,c,q,V5,ad,io,l64]
 .have:=Dl (lt:=ltI) Oq (l:=1000000000::ms) λ_ _=>trivial
  exact agC.mpr (this.imp λ{a b} h=>by unfold ltI at h;exact Int.not_lt.mp (of_decide_eq_false h))
 .rcases(mem n).mp hn with rfl|hn
  .exact⟨by decide,by decide⟩
  .obtain⟨r,hr,rfl⟩:=mr n hn
   exact(hG.leaves r hr).most
 .rw[me];refine cN.mpr ⟨r,hr,?_⟩;have:=(hG.leaves r hr).most;split<;>lia
 .rw[agO,pm.length_eq,cA];lia
def Eu:Option Int->au
 |none=>.none
 |some m=>.int m
section
variable{C:Ce}{zs:List Str}{ps:List (Str×Str)}{ht:iC}(hN:Names zs)(hP:gn zs ps)(hG:j0 zs ps ht){z a1 b1 h s:Str}{day:Int}
include hN hP hG
theorem abn:∀(ns:List Int)(v8:Option Vl),∃(o:Option Int)(e':En),gC (dz 8) aaa (ns.map .int) [aa (.im (gB ht)),aa (.im (.str z)),aa (.im (.tuple [.str a1,.str b1])),aa (.im (.str h)),aa (.im (.str s)),aa (.im (.int day)),aa (.im (.str a1)),aa (.im (.str b1)),v8] C=aa ((match o with|none=>.nx|some m=>.rt (.im (.int m))),e',C)/\
  match o with|none=>∀n∈ns,¬Rn ht (up ps z) day a1 b1 h s n|some m=>∃l r,ns=l++m::r/\Rn ht (up ps z) day a1 b1 h s m/\∀n∈l,¬Rn ht (up ps z) day a1 b1 h s n
 |[],v8=>⟨aj,_,rfl,λn hn=>nomatch hn⟩
 |n::ns,v8=>by
  obtain⟨o,e1,h1,h2⟩:=Uz (C:=C) hN hP hG z a1 b1 n day h s
  have R:o.isSome=ao↔Rn ht (up ps z) day a1 b1 h s n:=by
   by_cases c:(h=a1\/h=b1)\/(s=a1\/s=b1)
   .rw[h1 c]
    exact⟨λk=>(nomatch k),λk=>absurd c k.1⟩
   .have:=h2 c;cases o with
    |none=>exact⟨λk=>(nomatch k),λk=>absurd k.2 λ⟨r,p⟩=>this r p⟩
    |some r=>exact⟨λ_=>⟨c,r,this.1⟩,λ_=>rfl⟩
  rw[cj,gC];cases o with
  |some r=>
   refine⟨aa n,[aa (.im (gB ht)),aa (.im (.str z)),aa (.im (.tuple [.str a1,.str b1])),aa (.im (.str h)),aa (.im (.str s)),aa (.im (.int day)),aa (.im (.str a1)),aa (.im (.str b1)),aa (.im (.int n))],?_,[],ns,rfl,R.mp rfl,λn hn=>nomatch hn⟩
   simp_arith[e1,qu,yu,isNone]
  |none=>
   obtain⟨o,e',e2,h3⟩:=abn ns (aa (.im (.int n)))
   refine⟨o,e',?_,?_⟩
   .simp_arith[e1,qu,yu,isNone];exact e2
   .have nR:¬Rn ht (up ps z) day a1 b1 h s n:=λk=>nomatch R.mpr k
    cases o with
    |none=>exact λx hx=>(bY.mp hx).elim (λe=>by rw[e];exact nR) (h3 x)
    |some m=>
     obtain⟨l,r,e,p1,p2⟩:=h3
     exact⟨n::l,r,by rw[e];rfl,p1,λx hx=>(bY.mp hx).elim (λe=>by rw[e];exact nR) (p2 x)⟩
theorem ang:∃o,GD [.im (gB ht),.im (.str z),.im (.tuple [.str a1,.str b1]),.im (.str h),.im (.str s),.im (.int day)] C=aa (.im (Eu o),C)/\wj (Rn ht (up ps z) day a1 b1 h s) o:=by
 obtain⟨ns,e1,S⟩:=anf (C:=C) hG
 obtain⟨o,e',e2,ho⟩:=abn (C:=C) hN hP hG (z:=z) (a1:=a1) (b1:=b1) (h:=h) (s:=s) (day:=day) ns aj
 refine⟨o,fM [aa (.im (gB ht)),aa (.im (.str z)),aa (.im (.tuple [.str a1,.str b1])),aa (.im (.str h)),aa (.im (.str s)),aa (.im (.int day)),aj,aj,aj] rfl rfl ?_ rfl rfl,S.most ho⟩
 have q:(ns.length<=1000000)=True:=eq_true (by have:=S.len;lia);cases o with
 |none=>
  simp_arith[Lp,e1,jt,iV,Jj,q,e2];rfl
 |some m=>
  simp_arith[Lp,e1,jt,iV,Jj,q,e2];rfl
end
def iY{α:Type}(D:α->au)(l:List (Int×α)):List (au×au):=l.map λx=>(.int x.1,D x.2)
def uE{α:Type}(l:List (Int×α))(n:Int):Option α:=(l.find? λx=>decide (x.1=n)).map (·.2)
theorem ace{α:Type}(x:Int×α)(l:List (Int×α))(n:Int):uE (x::l) n=if x.1=n then aa x.2 else uE l n:=by
 unfold uE;rw[oY];by_cases h:x.1=n
 .rw[cY h,aV h];rfl
 .rw[dW h,bf h]
theorem aeq{α:Type}(D:α->au):∀l:List (Int×α),cH cL (iY D l)=aa (l.map λx=>.inl x.1)
 |[]=>rfl
 |x::l=>by
  unfold iY;rw[cj,cH];have:=aeq D l;unfold iY at this;rw[this];rfl
theorem ady{α:Type}(D:α->au)(l:List (Int×α))(n:Int):mG (iY D l) (.int n)=aa ((uE l n).map D):=by
 have e:∀l:List (Int×α),pF cL (.inl n) (iY D l)=(uE l n).map D:=λl=>by
  induction l with
  |nil=>rfl
  |cons x l ih=>
   show(if cL (.int x.1)=aa (.inl n) then aa (D x.2) else pF cL (.inl n) (iY D l))=_
   rw[ih,ace];by_cases h:x.1=n
   .rw[aV (by rw[h];rfl),aV h];rfl
   .rw[bf (λk=>h (by injection k with k;injection k)),bf h]
 show(if(cH cL (iY D l)).isSome then aa (pF cL (.inl n) (iY D l)) else aj)=_
 rw[aeq,e];rfl
theorem alG{α:Type}(D:α->au)(l:List (Int×α))(n:Int):nD (.int n) (.dict (iY D l))=aa (.im (.bool (uE l n).isNone)):=by
 show((mG (iY D l) (.int n)).map (·.isSome)).map (λb=>Vl.im (.bool (!b)))=_
 rw[ady];cases uE l n<;>rfl
theorem apO{α:Type}(D:α->au){l:List (Int×α)}{n:Int}{x:α}(h:uE l n=aa x):bI (.dict (iY D l)) (.int n)=aa (.im (D x)):=by
 unfold bI uy;simp only[ady,h,jG]
theorem acf:∀xs ys:List Int,Ro (xs.map .int) (ys.map .int)=decide (xs=ys)
 |[],[]=>rfl
 |[],y::ys=>rfl
 |x::xs,[]=>rfl
 |x::xs,y::ys=>by
  show((x==y)&&Ro (xs.map .int) (ys.map .int))=_
  rw[acf xs ys,pU];simp
theorem alH(xs ys:List Int):wY (.list (xs.map .int)) (.list (ys.map .int))=aa (decide (xs=ys)):=by
 show(if mO (.list (xs.map ie))&&mO (.list (ys.map ie))&&(jc (.list (xs.map ie))&&jc (.list (ys.map ie))) then aa (uO (.list (xs.map .int)) (.list (ys.map .int))) else aj)=_
 rw[shaped_ints,shaped_ints,show mO (.list (xs.map ie))=ao from(lay_ints xs).2.2,show mO (.list (ys.map ie))=ao from(lay_ints ys).2.2];show aa (Ro (xs.map .int) (ys.map .int))=_;rw[acf]
def Ox:List Int->Bool
 |a::b::r=>decide (a<b)&&Ox (b::r)
 |_=>ao
theorem aer:∀{l:List Int},l.Pairwise (λa b=>ltI b a=aF)->Ox l=decide l.Nodup
 |[],_=>rfl
 |[a],_=>rfl
 |a::b::r,h=>by
  have h2:=(qG.mp h).2;have h1:∀x∈b::r,a<=x:=λx hx=>by
   have:=(qG.mp h).1 x hx;unfold ltI at this;simpa using this
  have h3:∀x∈r,b<=x:=λx hx=>by
   have:=(qG.mp h2).1 x hx;unfold ltI at this;simpa using this
  rw[Ox,aer h2,pU,jn,decide_eq_true_iff,decide_eq_true_iff,decide_eq_true_iff,je (a:=a)]
  refine⟨λk=>⟨λm=>?_,k.2⟩,λk=>⟨?_,k.2⟩⟩
  .rcases bY.mp m with e|m
   .lia
   .have:=h3 a m;lia
  .have:=h1 b dg;have:a≠b:=λe=>k.1 (by rw[e];exact dg)
   lia
theorem abo(l:List Int)(h:l.length<64):Hj [.list (l.map .int)]=aa (.ow (.list ((gR ltI l).map .int))):=by
 have hs:HW (l.map .int)=aa ((gR ltI l).map .int):=by
  unfold HW;rw[aV (by rw[bw];exact h)];simp only[Sy]
 unfold Hj Mf;simp only[hs,jG]
theorem tail_zip:∀l:List Int,mY (l.map .int) ((l.drop 1).map .int)=(l.zip (l.drop 1)).map λp=>.tuple [.int p.1,.int p.2]
 |[]=>rfl
 |[a]=>rfl
 |a::b::r=>by
  have:=tail_zip (b::r);show .tuple [.int a,.int b]::mY ((b::r).map .int) (((b::r).drop 1).map .int)=_;rw[this];rfl
theorem TJ{α:Type}(f:α->Bool):∀l:List α,boolsOf (l.map λx=>.bool (f x))=aa (l.map f)
 |[]=>rfl
 |x::l=>by
  rw[cj,boolsOf,TJ f l];rfl
theorem adz:∀l:List Int,((l.zip (l.drop 1)).map λp=>decide (p.1<p.2)).all id=Ox l
 |[]=>rfl
 |[a]=>rfl
 |a::b::r=>by
  show(decide (a<b)&&(((b::r).zip ((b::r).drop 1)).map λp=>decide (p.1<p.2)).all id)=_
  rw[adz (b::r)];rfl
theorem akm{C:Ce}{xs:List Int}(hl:xs.length<=60):JB [.im (.list (xs.map .int))] C=aa (.im (.bool (decide xs.Nodup)),C):=by
 have num:∀x:Int,KN [.im (.int x)] C=aa (.im (.bool ao),C):=λx=>fM [aa (.im (.int x))] rfl rfl (by simp_arith[RT,kY,uh,lD,Ay]) rfl rfl
 have c:=pX (T:=.one) (ft:=iZ) (fe:=X5) (fs:=[]) (C:=C) ie (λ_=>ao) (λ_=>.bool ao) (l:=xs) λx _=>⟨[.int x],rfl,rfl,λ_=>⟨.im (.bool ao),_,by have:=num x;simp_arith[dN,jd,this];rfl,rfl⟩⟩
 rw[JF.mpr λ_ _=>rfl] at c;have a1:wH [.list (xs.map λ_=>.bool ao)]=aa (.im (.bool ao)):=by
  show(boolsOf (xs.map λ_=>.bool ao)).map (λbs=>Vl.im (.bool (bs.all id)))=_
  rw[TJ (λ_=>ao)];simp
 have so:=abo xs (by lia);have sl:(gR ltI xs).length=xs.length:=(o8 xs).length_eq;have up:=Dl (lt:=ltI) Oq (l:=xs) λ_ _=>trivial
 have nd:decide (gR ltI xs).Nodup=decide xs.Nodup:=decide_eq_decide.mpr (o8 xs).nodup_iff;have ra:=adz (gR ltI xs);rw[aer up,nd] at ra;generalize gR ltI xs=ys at so sl ra;have ct:lG (ys.map ie) (aa 1) aj=(ys.drop 1).map .int:=by
  unfold lG;rw[show HT.cz (ys.map ie).length 0 (aa 1)=min 1 ys.length by rw[bw];exact HT.Ms _ _ 1,show HT.cz (ys.map ie).length (ys.map ie).length aj=(ys.map ie).length from rfl,Yd (by rw[Cq];exact bU _)];cases ys with
  |nil=>rfl
  |cons y ys=>rw[Zh (by rw[cA];lia),ZV]
 have c2:=pX (T:=.many 2) (ft:=iZ) (fe:=Zx) (fs:=[]) (C:=C) (λp:Int×Int=>.tuple [.int p.1,.int p.2]) (λ_=>ao) (λp=>.bool (decide (p.1<p.2))) (l:=ys.zip (ys.drop 1)) λp _=>⟨[.int p.1,.int p.2],rfl,rfl,λ_=>⟨.im (.bool (decide (p.1<p.2))),_,by simp_arith[dN,jd,lt_int];rfl,rfl⟩⟩
 rw[JF.mpr λ_ _=>rfl] at c2;have a2:wH [.list ((ys.zip (ys.drop 1)).map λp=>.bool (decide (p.1<p.2)))]=aa (.im (.bool (decide xs.Nodup))):=by
  show(boolsOf ((ys.zip (ys.drop 1)).map λp=>.bool (decide (p.1<p.2)))).map (λbs=>Vl.im (.bool (bs.all id)))=_
  rw[TJ λp:Int×Int=>decide (p.1<p.2)];show aa (Vl.im (.bool _))=_;rw[ra]
 have zl:(ys.zip (ys.drop 1)).length<=60:=by rw[JQ];lia
 have tz:=tail_zip ys;generalize ys.zip (ys.drop 1)=zs at c2 a2 zl tz;have q1:(xs.length<=1000000)=True:=eq_true (by lia);have q2:(zs.length<=1000000)=True:=eq_true (by lia);have n1:fQ (xs.map λ_=>aiQ ao)=ao:=vZ (λ_=>rfl) _;have n2:fQ (zs.map λp=>aiQ (decide (p.1<p.2)))=ao:=vZ (λ_=>rfl) _;have ri:KQ [.im (.list (ys.map .int))] C=aa (.im (.bool (decide xs.Nodup)),C):=by
  refine fM [aa (.im (.list (ys.map .int)))] rfl rfl ?_ rfl rfl;simp_arith[RV,BX,gG,gj,iG,lZ,ct,tz,c2,q2,n2,a2]
 refine fM [aa (.im (.list (xs.map .int)))] rfl rfl ?_ rfl rfl;simp_arith[Qf,kY,uh,c,q1,n1,a1,so,ri]
abbrev Wy:=Int×Str×Str
abbrev nZ(p:Str×Str):au:=.tuple [.str p.1,.str p.2]
def sy(ws:List Wy):Str->List Int->Option Str
 |h,[]=>aa h
 |h,n::r=>(uE ws n).bind λp=>if p.1=h then sy ws p.2 r else aj
def Bv:Option Str->au
 |none=>.none
 |some s=>.str s
section
variable{C:Ce}{v1 v2:Option Vl}{ws:List Wy}
theorem aaP:∀(xs:List Int)(h:Str)(v4 v5 v6:Option Vl),∃fl e',gC (dz 4) Zf (xs.map .int) [aa (.im (.dict (iY nZ ws))),v1,v2,aa (.im (.str h)),v4,v5,v6] C=aa (fl,e',C)/\((fl=.nx/\∃s,sy ws h xs=aa s/\e'[3]?=aa (aa (.im (.str s))))\/(fl=.rt (.im .none)/\sy ws h xs=aj))
 |[],h,v4,v5,v6=>⟨_,_,rfl,.inl ⟨rfl,h,rfl,rfl⟩⟩
 |n::xs,h,v4,v5,v6=>by
  have i1:=alG nZ ws n;rw[cj,gC];cases hn:uE ws n with
  |none=>
   rw[hn] at i1
   refine⟨.rt (.im .none),[aa (.im (.dict (iY nZ ws))),v1,v2,aa (.im (.str h)),aa (.im (.int n)),v5,v6],?_,.inr ⟨rfl,by rw[sy,hn];rfl⟩⟩
   simp_arith[dz,i1,Option.isNone_none]
  |some p=>
   rw[hn] at i1;have x1:bI (.dict (iY nZ ws)) (.int n)=aa (.im (.tuple [.str p.1,.str p.2])):=apO nZ hn;have ne:=Hl p.1 h;by_cases c:p.1=h
   .rw[cY c] at ne
    obtain⟨fl,e',e,k⟩:=aaP xs p.2 (aa (.im (.int n))) (aa (.im (.str p.1))) (aa (.im (.str p.2)))
    refine⟨fl,e',?_,?_⟩
    .simp_arith[dz,i1,agY,x1,ne];exact e
    .rw[sy,hn,iJ,aV c];exact k
   .rw[dW c] at ne
    refine⟨.rt (.im .none),[aa (.im (.dict (iY nZ ws))),v1,v2,aa (.im (.str h)),aa (.im (.int n)),aa (.im (.str p.1)),aa (.im (.str p.2))],?_,.inr ⟨rfl,by rw[sy,hn,iJ,bf c]⟩⟩
    simp_arith[dz,i1,agY,x1,ne]
theorem alI(xs:List Int)(h:Str):Ku [.im (.dict (iY nZ ws)),.im (.str h),.im (.list (xs.map .int))] C=aa (.im (Bv (sy ws h xs)),C):=by
 obtain⟨fl,e',e,k⟩:=aaP (C:=C) (ws:=ws) (v1:=aa (.im (.str h))) (v2:=aa (.im (.list (xs.map .int)))) xs h aj aj aj
 rcases k with⟨rfl,s,hs,h3⟩|⟨rfl,hs⟩
 .rw[hs];refine fM [aa (.im (.dict (iY nZ ws))),aa (.im (.str h)),aa (.im (.list (xs.map .int))),aj,aj,aj,aj] rfl rfl ?_ rfl rfl;simp_arith[Ks,jt,e,h3,Bv]
 .rw[hs];refine fM [aa (.im (.dict (iY nZ ws))),aa (.im (.str h)),aa (.im (.list (xs.map .int))),aj,aj,aj,aj] rfl rfl ?_ rfl rfl;simp_arith[Ks,jt,e,Bv]
theorem anh{α:Type}(D:α->au){l:List (Int×α)}{n:Int}(x:α)(h:n∉l.map (·.1)):mL cL (.inl n) (.int n) (D x) (iY D l)=iY D (l++[(n,x)]):=by
 unfold mL;rw[bf]
 .unfold iY;rw[jZ];rfl
 .simp only[iY,Z6,Qt,Function.comp,decide_eq_true_eq,not_exists,not_and];intro y hy k;have k:aa (lN y.1:Key)=aa (.inl n):=k;injection k with k
  injection k with k
  exact h (cN.mpr ⟨y,hy,k⟩)
theorem abp:∀(ws acc:List Wy),((acc++ws).map (·.1)).Nodup->acc.length+ws.length<=1000->su (.many 3) iZ KR KY [] (ws.map wD) (iY nZ acc) C=aa (iY nZ (acc++ws),C)
 |[],acc,_,_=>by rw[jd];rfl
 |w::ws,acc,nd,hl=>by
  rw[cA] at hl;have nw:w.1∉acc.map (·.1):=λm=>by
   rw[jZ,cj] at nd
   exact(kE.mp nd).2.2 _ m _ dg rfl
  have ih:=abp ws (acc++[w]) (by rw[lA];exact nd) (by rw[fU];show _+1+_<=_;lia);have q:((iY nZ acc).length<1000000)=True:=eq_true (by unfold iY;rw[bw];lia);have pm:=anh nZ w.2 nw;rw[lA] at ih;have ih:su (.many 3) iZ KR KY [] (ws.map wD) (iY nZ (acc++[w])) C=aa (iY nZ (acc++w::ws),C):=ih;rw[cj,su];have kd:cL (.int w.1)=aa (.inl w.1):=rfl;have td:vq (.many 3) (wD w)=aa [.int w.1,.str w.2.1,.str w.2.2]:=rfl;simp only[td];simp_arith[dN,jd,iZ,kd,q,pm,ih]
end
def Oz(ws:List Wy)(side:Prop)[Decidable side](h s:Str)(xs:List Int):Bool:=!decide side&&(decide xs.Nodup&&(if h=s then decide (xs=[]) else decide (sy ws h xs=aa s)))
theorem eq_str(x y:Str):mW (.str x) (.str y)=aa (.im (.bool (decide (x=y)))):=by
 show aa (Vl.im (.bool (x==y)))=_;rw[show(x==y)=decide (x=y) by rw[pU];simp]
theorem ani(o:Option Str){s:Str}(hs:nameB s=ao):mW (Bv o) (.str s)=aa (.im (.bool (decide (o=aa s)))):=by
 cases o with
 |none=>
  have sh:jc (.str s)=ao:=by
   unfold jc;simp only[Ge,De hs,Kf];rfl
  show(if mO .none&&mO (.str s)&&(jc .none&&jc (.str s)) then aa (uO .none (.str s)) else aj).map (λb=>Vl.im (.bool b))=_
  rw[sh];rfl
 |some x=>
  rw[Bv,eq_str];congr 3;exact decide_eq_decide.mpr ⟨congrArg aa,gP⟩
theorem akn{zs:List Str}{ps:List (Str×Str)}{ht:iC}(hG:j0 zs ps ht)(os:List Str)(n day:Int)(a1 b1:Str):((eF ht os n day a1 b1).map (·.1)).Nodup:=by
 unfold eF;rw[cU];exact hG.EY.sublist (List.filter_sublist.map _)
theorem apP(ws:List Wy):yR (iY nZ ws)=ao:=by
 induction ws with
 |nil=>rfl
 |cons w ws ih=>exact ih
theorem alJ{C:Ce}{zs:List Str}{ps:List (Str×Str)}{ht:iC}(hN:Names zs)(hP:gn zs ps)(hG:j0 zs ps ht)(z a1 b1:Str)(n day:Int)(h s:Str)(xs:List Int)(hl:xs.length<=60)(ns:nameB s=ao):
  Mr [.im (gB ht),.im (cI z a1 b1 n),.im (.str h),.im (.str s),.im (.int day),.im (.list (xs.map .int))] C=aa (.im (.bool (Oz (eF ht (up ps z) n day a1 b1) ((h=a1\/h=b1)\/(s=a1\/s=b1)) h s xs)),C):=by
 have s1:=Ae (C:=C) (z:=z) (a1:=a1) (b1:=b1) (n:=n) (p:=h);have s2:=Ae (C:=C) (z:=z) (a1:=a1) (b1:=b1) (n:=n) (p:=s);have un:=akm (C:=C) hl;have es:=eq_str h s;have el:mW (.list (xs.map .int)) (.list [])=aa (.im (.bool (decide (xs=[])))):=by
  have:=alH xs [];unfold mW;rw[show(.list []:au)=.list (([]:List Int).map .int) from rfl,this];rfl
 have w:=Nz (C:=C) hN hP hG z a1 b1 n day;have wf:=z9 hG (up ps z) n day a1 b1;have nd:=akn hG (up ps z) n day a1 b1;generalize eF ht (up ps z) n day a1 b1=ws at w wf nd;have c:=abp (C:=C) ws [] nd (by show 0+_<=_;lia);have c:su (.many 3) iZ KR KY [] (ws.map wD) [] C=aa (iY nZ ws,C):=c;have t:=alI (C:=C) (ws:=ws) xs h;have et:=ani (sy ws h xs) ns;have nl:=apP ws;unfold Oz;refine fM [aa (.im (gB ht)),aa (.im (cI z a1 b1 n)),aa (.im (.str h)),aa (.im (.str s)),aa (.im (.int day)),aa (.im (.list (xs.map .int))),aj] rfl rfl ?_ rfl rfl;by_cases h1:h=a1\/h=b1
 .rw[cY h1] at s1;rw[cY (.inl h1:(h=a1\/h=b1)\/(s=a1\/s=b1))];simp_arith[xZ,s1,Q9,Gb]
 rw[dW h1] at s1;by_cases h2:s=a1\/s=b1
 .rw[cY h2] at s2;rw[cY (.inr h2:(h=a1\/h=b1)\/(s=a1\/s=b1))];simp_arith[xZ,s1,s2,Q9,Gb]
 rw[dW h2] at s2;rw[dW (λk=>k.elim h1 h2:¬((h=a1\/h=b1)\/(s=a1\/s=b1)))];by_cases h3:xs.Nodup
 .rw[cY h3] at un;rw[cY h3];by_cases h4:h=s
  .rw[cY h4] at es;rw[aV h4];simp_arith[xZ,s1,s2,un,es,el,Gd,Gn]
  .rw[dW h4] at es;rw[bf h4];generalize sy ws h xs=o at t et⊢;cases o with
   |none=>
    simp only[Bv] at t et;have rn:∀e f:En,rst (.im .none) e f=e:=λ_ _=>rfl
    simp_arith[rn,xZ,s1,s2,un,es,w,uC,zm,frB,c,nl,t,et,Gd,Gn]
   |some o=>
    simp only[Bv] at t et;simp_arith[xZ,s1,s2,un,es,w,uC,zm,frB,c,nl,t,et,Gd,Gn]
 .rw[dW h3] at un;rw[dW h3];simp_arith[xZ,s1,s2,un,Gd,Gn,Gb]
def wQ(st:List (Str×Int))(z:Str)(v:Int):List (Str×Int):=if z∈st.map (·.1) then st.map (λx=>if x.1=z then(z,v) else x) else st++[(z,v)]
theorem adA{z:Str}{v:Int}{p:Str}:∀st:List (Str×Int),cg (st.map λx=>if x.1=z then(z,v) else x) p=if z=p then(cg st p).map λ_=>v else cg st p
 |[]=>by
  split<;>rfl
 |x::st=>by
  rw[cj,Mm,Mm,adA st];by_cases h:x.1=z
  .rw[aV h];by_cases h2:z=p
   .rw[aV h2,aV h2,aV (h.trans h2)];rfl
   .rw[bf h2,bf h2,bf h2,bf (λe=>h2 (h.symm.trans e))]
  .rw[bf h];by_cases h2:z=p
   .rw[aV h2,aV h2,bf (λe=>h (e.trans h2.symm)),bf (λe=>h (e.trans h2.symm))]
   .rw[bf h2,bf h2]
theorem UG(st:List (Str×Int))(z p:Str)(v:Int):cg (wQ st z v) p=if z=p then aa v else cg st p:=by
 unfold wQ;split
 .rename_i h;rw[adA];by_cases e:z=p
  .subst e;rw[aV rfl,aV rfl];cases k:cg st z with
   |none=>exact absurd h (pA.mp k)
   |some w=>rfl
  .rw[bf e,bf e]
 .rename_i h;have:=Ho st [z] v p;rw[cj,oE] at this;rw[this];by_cases e:z=p
  .subst e;rw[bf h,aV (jb.mpr rfl),aV rfl]
  .rw[bf e];split
   .rfl
   .rename_i k;rw[bf (λm=>e (jb.mp m).symm),pA.mpr k]
theorem alK(st:List (Str×Int))(z:Str)(v:Int):(wQ st z v).length<=st.length+1:=by
 unfold wQ;split
 .rw[bw];exact qK _
 .rw[fU];exact bU _
theorem aoP(st:List (Str×Int))(z:Str)(v:Int):putD (aL (stL st)) (.str z) (.int v)=aa (aL (stL (wQ st z v))):=by
 have ks:(stL st).map (·.1)=st.map (·.1):=by
  unfold stL;rw[cU];rfl
 by_cases h:z∈st.map (·.1)
 .show(if(cH cL (aL (stL st))).isSome then aa (mL cL (.inr z) (.str z) (.int v) (aL (stL st))) else aj)=_
  rw[G3];refine congrArg aa ?_;unfold mL wQ;rw[aV h,aV]
  .unfold aL stL;rw[cU,cU,cU,cU];refine uI λx _=>?_
   by_cases e:x.1=z
   .simp[vP,e]
   .simp[vP,e]
  .obtain⟨x,hx,e⟩:=cN.mp h
   refine Qt.mpr ⟨(.str x.1,.int x.2),cN.mpr ⟨(x.1,.int x.2),cN.mpr ⟨x,hx,rfl⟩,rfl⟩,cY ((vP _ _).mpr e)⟩
 .rw[Mj (by rw[ks];exact h)];unfold wQ stL;rw[bf h,jZ];rfl
def vz(i j:Int):Int:=if j>i then j else i
def oV(i j:Int):Int:=if j<i then j else i
theorem aes(i j:Int):oV i j<=i/\oV i j<=j/\∀n,n<=i->n<=j->n<=oV i j:=by unfold oV;split<;>exact⟨by lia,by lia,λ_ _ _=>by lia⟩
theorem NB(i j:Int):i<=vz i j/\j<=vz i j/\(vz i j=i\/vz i j=j):=by unfold vz;split<;>exact⟨by lia,by lia,by lia⟩
def lF(f:List (Str×Int))(r:bR):List (Str×Int):=match cg f r.2.1 with
 |none=>f
 |some v=>wQ f r.2.2.1 (vz ((cg f r.2.2.1).getD (-1)) (oV v r.2.2.2.2.2.2))
def qY(lv:List bR):Nat->List (Str×Int)->List (Str×Int)
 |0,f=>f
 |n+1,f=>qY lv n (lv.foldl lF f)
def Up(f g:List (Str×Int)):Prop:=∀x v,cg f x=aa v->∃w,cg g x=aa w/\v<=w
theorem Up.refl(f:List (Str×Int)):Up f f:=λx v h=>⟨v,h,rH _⟩
theorem Up.trans{f g h:List (Str×Int)}(a:Up f g)(b:Up g h):Up f h:=λx v e=>by
 obtain⟨w,e1,l1⟩:=a x v e
 obtain⟨u,e2,l2⟩:=b x w e1
 exact⟨u,e2,zT l1 l2⟩
theorem abq(f:List (Str×Int))(r:bR):(lF f r).length<=f.length+1:=by
 unfold lF;split
 .exact qK _
 .exact alK _ _ _
theorem acg:∀(lv:List bR)(f:List (Str×Int)),(lv.foldl lF f).length<=f.length+lv.length
 |[],_=>bU _
 |r::lv,f=>by
  have:=acg lv (lF f r);have:=abq f r;rw[vC,cA];lia
theorem ach(f:List (Str×Int))(r:bR):Up f (lF f r):=by
 unfold lF;split
 .exact Up.refl f
 .rename_i v hv;intro x w hx;rw[UG];by_cases e:r.2.2.1=x
  .rw[aV e,e,hx]
   exact⟨_,rfl,(NB _ _).1⟩
  .rw[bf e]
   exact⟨w,hx,rH _⟩
theorem Vu:∀(lv:List bR)(f:List (Str×Int)),Up f (lv.foldl lF f)
 |[],f=>Up.refl f
 |r::lv,f=>(ach f r).trans (Vu lv (lF f r))
theorem adB(lv:List bR):∀(n:Nat)(f:List (Str×Int)),Up f (qY lv n f)
 |0,f=>Up.refl f
 |n+1,f=>(Vu lv f).trans (adB lv n _)
theorem aci{r:bR}{v n:Int}(h1:n<=v)(h2:n<=r.2.2.2.2.2.2):∀{lv:List bR}{f:List (Str×Int)},r∈lv->cg f r.2.1=aa v->∃w,cg (lv.foldl lF f) r.2.2.1=aa w/\n<=w
 |q::lv,f,hm,hg=>by
  rw[vC];by_cases c:r=q
  .subst c;have:cg (lF f r) r.2.2.1=aa (vz ((cg f r.2.2.1).getD (-1)) (oV v r.2.2.2.2.2.2)):=by
    unfold lF;rw[hg];show cg (wQ _ _ _) _=_;rw[UG,aV rfl]
   obtain⟨w,e,l⟩:=Vu lv (lF f r) _ _ this
   have:=(aes v r.2.2.2.2.2.2).2.2 n h1 h2;have:=(NB ((cg f r.2.2.1).getD (-1)) (oV v r.2.2.2.2.2.2)).2.1
   exact⟨w,e,by lia⟩
  .have hm:=(bY.mp hm).resolve_left c
   obtain⟨w,e,l⟩:=ach f q _ _ hg
   exact aci (v:=w) (zT h1 l) h2 hm e
theorem alL{lv:List bR}{ws:List (Int×Str×Str)}{n:Int}(hw:∀w∈ws,∃r∈lv,n<=r.2.2.2.2.2.2/\qw r=w){a x:Str}{p:List Int}(hp:gm ws a p x):∀{k:Nat}{f:List (Str×Int)}{v:Int},cg f a=aa v->n<=v->p.length<=k->∃w,cg (qY lv k f) x=aa w/\n<=w:=by
 induction hp with
 |nil _=>
  intro k f v h l _
  obtain⟨w,e,l2⟩:=adB lv k f _ _ h
  exact⟨w,e,zT l l2⟩
 |cons h1 _ ih=>
  intro k f v h l hl;cases k with
  |zero=>exact absurd hl (Yk _)
  |succ k=>
   obtain⟨r,hr,hm,e⟩:=hw _ h1
   injection e with e1 e2
   injection e2 with e2 e3
   obtain⟨w,e4,l4⟩:=aci (lv:=lv) (f:=f) l hm hr (by rw[e2];exact h)
   exact ih (k:=k) (by rw[<-e3];exact e4) l4 (agv hl)
def gU(W:Int->List (Int×Str×Str))(h:Str)(f:List (Str×Int)):Prop:=∀x v,cg f x=aa v->0<=v/\v<=1000000000/\nW (W v) h x
theorem alM{W:Int->List (Int×Str×Str)}{h:Str}(hd:∀n m,n<=m->∀w∈W m,w∈W n){f:List (Str×Int)}{r:bR}(h0:0<=r.2.2.2.2.2.2)(hr:∀n,n<=r.2.2.2.2.2.2->qw r∈W n)(H:gU W h f):gU W h (lF f r):=by
 unfold lF;split
 .exact H
 .rename_i v hv;intro x w hx;rw[UG] at hx;by_cases e:r.2.2.1=x
  .rw[aV e] at hx;have hx:=gP hx
   obtain⟨k1,k2,p,hp⟩:=H _ _ hv
   obtain⟨m1,m2,m3⟩:=aes v r.2.2.2.2.2.2
   have m4:=m3 0 k1 h0;have good:0<=oV v r.2.2.2.2.2.2/\oV v r.2.2.2.2.2.2<=1000000000/\nW (W (oV v r.2.2.2.2.2.2)) h x:=⟨m4,by lia,_,by rw[<-e];exact(ab9 (hd _ _ m1) hp).snoc (hr _ m2)⟩
   cases ho:cg f r.2.2.1 with
   |none=>
    rw[ho] at hx;have:w=oV v r.2.2.2.2.2.2:=by
     have:=(NB (-1) (oV v r.2.2.2.2.2.2)).2;rw[<-hx];show vz (-1) _=_;rcases this.2 with k|k
     .lia
     .exact k
    rw[this];exact good
   |some o=>
    rw[ho] at hx
    rcases(NB o (oV v r.2.2.2.2.2.2)).2.2 with k|k
    .have:w=o:=by rw[<-hx];exact k
     rw[this];rw[e] at ho;exact H x o ho
    .have:w=oV v r.2.2.2.2.2.2:=by rw[<-hx];exact k
     rw[this];exact good
  .rw[bf e] at hx;exact H x w hx
theorem adC{W:Int->List (Int×Str×Str)}{h:Str}(hd:∀n m,n<=m->∀w∈W m,w∈W n):∀{lv:List bR}{f:List (Str×Int)},(∀r∈lv,0<=r.2.2.2.2.2.2/\∀n,n<=r.2.2.2.2.2.2->qw r∈W n)->gU W h f->gU W h (lv.foldl lF f)
 |[],_,_,H=>H
 |r::lv,f,hr,H=>adC hd (lv:=lv) (λq hq=>hr q (dZ _ hq)) (alM hd (hr r dg).1 (hr r dg).2 H)
theorem adD{W:Int->List (Int×Str×Str)}{h:Str}(hd:∀n m,n<=m->∀w∈W m,w∈W n){lv:List bR}(hr:∀r∈lv,0<=r.2.2.2.2.2.2/\∀n,n<=r.2.2.2.2.2.2->qw r∈W n):∀{n:Nat}{f:List (Str×Int)},gU W h f->gU W h (qY lv n f)
 |0,_,H=>H
 |n+1,_,H=>adD hd hr (n:=n) (adC hd hr H)
theorem Wb{st:List (Str×Int)}{z:Str}:mG (aL (stL st)) (.str z)=aa ((cg st z).map .int):=M5 st z
theorem mn2(i j:Int):HD [.int i,.int j]=aa (.im (.int (oV i j))):=rfl
theorem mx2(i j:Int):Nr [.int i,.int j]=aa (.im (.int (vz i j))):=rfl
section
variable{C:Ce}{v0 v1 v2 v3 v4 v6:Option Vl}
theorem acj{v7:Option Vl}:∀(lv:List bR)(f:List (Str×Int))(v8:Option Vl),f.length+lv.length<=1000->∃w8,gC (dz 8) FW (lv.map bu) [v0,v1,v2,v3,v4,aa (.ow (.dict (aL (stL f)))),v6,v7,v8] C=
  aa (.nx,[v0,v1,v2,v3,v4,aa (.ow (.dict (aL (stL (lv.foldl lF f))))),v6,v7,w8],C)
 |[],f,v8,_=>⟨v8,rfl⟩
 |r::lv,f,v8,hl=>by
  rw[cA] at hl;have sl:=abq f r
  obtain⟨w8,e⟩:=acj (v7:=v7) lv (lF f r) (aa (.im (bu r))) (by lia)
  refine⟨w8,?_⟩
  have q:((aL (stL f)).length<1000000)=True:=eq_true (by unfold aL stL;rw[bw,bw];lia);rw[vC,<-e,cj];have run:∀f':List (Str×Int),FW [v0,v1,v2,v3,v4,aa (.ow (.dict (aL (stL f)))),v6,v7,aa (.im (bu r))] C=aa (.nx,[v0,v1,v2,v3,v4,aa (.ow (.dict (aL (stL f')))),v6,v7,aa (.im (bu r))],C)->gC (dz 8) FW (bu r::lv.map bu) [v0,v1,v2,v3,v4,aa (.ow (.dict (aL (stL f)))),v6,v7,v8] C=gC (dz 8) FW (lv.map bu) [v0,v1,v2,v3,v4,aa (.ow (.dict (aL (stL f')))),v6,v7,aa (.im (bu r))] C:=λf' h=>by
   rw[gC];simp only[dz,Fp,Fq,h]
  refine run _ ?_;unfold lF;simp only[bu];cases hg:cg f r.2.1 with
  |none=>
   have d1:=dW (pA.mp hg);simp_arith[Ij,d1]
  |some v=>
   have d1:decide (r.2.1∈f.map (·.1))=ao:=by rw[<-Ii,hg];rfl
   have i1:=Wx hg;have p1:=aoP f r.2.2.1 (vz ((cg f r.2.2.1).getD (-1)) (oV v r.2.2.2.2.2.2));cases ht:cg f r.2.2.1 with
   |none=>
    have g1:=Wb (st:=f) (z:=r.2.2.1);rw[ht] at g1 p1;have ng:(Ep (aA (aO (.int 1)))) [v0,v1,v2,v3,v4,aa (.ow (.dict (aL (stL f)))),v6,v7,aa (.im (bu r))] C=aa (.im (.int (-1)),[v0,v1,v2,v3,v4,aa (.ow (.dict (aL (stL f)))),v6,v7,aa (.im (bu r))],C):=rfl;simp only[bu,Qp] at ng p1;simp_arith[Ij,d1,oN,oO,ng,g1,QL,i1,qW,p1,q,mn2,mx2,Qp]
   |some o=>
    have g1:=Wb (st:=f) (z:=r.2.2.1);rw[ht] at g1 p1;have ng:(Ep (aA (aO (.int 1)))) [v0,v1,v2,v3,v4,aa (.ow (.dict (aL (stL f)))),v6,v7,aa (.im (bu r))] C=aa (.im (.int (-1)),[v0,v1,v2,v3,v4,aa (.ow (.dict (aL (stL f)))),v6,v7,aa (.im (bu r))],C):=rfl;simp only[bu,zE] at ng p1;simp_arith[Ij,d1,oN,oO,ng,g1,jG,i1,qW,p1,q,mn2,mx2,zE]
end
theorem abr{C:Ce}{v0 v1 v2 v3 v4:Option Vl}{lv:List bR}(jE:lv.length<=16):∀(its:List au)(f:List (Str×Int))(sv:Vl)(v7 v8:Option Vl),sv=.ow (.list (lv.map bu))\/sv=.im (.list (lv.map bu))->f.length+16*its.length<=900->∃w6 w7 w8,gC (dz 7) Zg its [v0,v1,v2,v3,v4,aa (.ow (.dict (aL (stL f)))),aa sv,v7,v8] C=
  aa (.nx,[v0,v1,v2,v3,v4,aa (.ow (.dict (aL (stL (qY lv its.length f))))),w6,w7,w8],C)
 |[],f,sv,v7,v8,_,_=>⟨aa sv,v7,v8,rfl⟩
 |d::its,f,sv,v7,v8,hv,hl=>by
  rw[cA] at hl;have fl:=acg lv f
  obtain⟨u8,e1⟩:=acj (C:=C) (v0:=v0) (v1:=v1) (v2:=v2) (v3:=v3) (v4:=v4) (v6:=aa (.im (.list (lv.map bu)))) (v7:=aa (.im d)) lv f v8 (by lia)
  obtain⟨w6,w7,w8,e2⟩:=abr jE its (lv.foldl lF f) (.im (.list (lv.map bu))) (aa (.im d)) u8 (.inr rfl) (by lia)
  refine⟨w6,w7,w8,?_⟩
  rw[cA,qY,<-e2,gC];rcases hv with rfl|rfl
  .simp_arith[jt,e1]
  .simp_arith[jt,e1]
theorem ack(lv:List bR):∀k,qY lv k []=[]
 |0=>rfl
 |k+1=>by
  have:∀l:List bR,l.foldl lF []=[]:=λl=>by
   induction l with
   |nil=>rfl
   |cons r l ih=>rw[vC];exact ih
  rw[qY,this,ack lv k]
theorem ako(ht:iC)(os:List Str)(day:Int)(a1 b1:Str):∀n m,n<=m->∀w∈eF ht os m day a1 b1,w∈eF ht os n day a1 b1:=λn m l w hw=>by
 obtain⟨r,hr,rfl⟩:=cN.mp hw
 obtain⟨q1,q2⟩:=jY.mp hr
 exact cN.mpr ⟨r,jY.mpr ⟨q1,G7 q2 (zT l (HQ q2))⟩,rfl⟩
theorem acn{ht:iC}{os:List Str}{n day:Int}{a1 b1 h s:Str}(hs:¬(h=a1\/h=b1))(R:nW (eF ht os n day a1 b1) h s):¬(s=a1\/s=b1):=by
 obtain⟨p,hp⟩:=R
 have:=hp.HH;generalize p.reverse=p' at this;cases this with
 |nil=>exact hs
 |cons hw _=>
  obtain⟨r,hr,e⟩:=cN.mp (G4.mp hw)
  injection e with e1 e2
  injection e2 with e2 e3
  rw[<-e3];exact abm (jY.mp hr).2
theorem ajt{C:Ce}{zs:List Str}{ps ps':List (Str×Str)}{lv:List bR}(hG:j0 zs ps ⟨ps',[],lv,[]⟩)(os:List Str)(day:Int)(a1 b1 h s:Str):
  wj (Rn ⟨ps',[],lv,[]⟩ os day a1 b1 h s) (cg (qY (lv.filter (iT os 0 day a1 b1)) (lv.filter (iT os 0 day a1 b1)).length (if h=a1\/h=b1 then[] else[(h,1000000000)])) s):=by
 by_cases c:h=a1\/h=b1
 .rw[aV c,ack];exact λn _ _ R=>R.1 (.inl c)
 rw[bf c];have T0:gU (λn=>eF ⟨ps',[],lv,[]⟩ os n day a1 b1) h [(h,1000000000)]:=λx v e=>by
  rw[Mm] at e;split at e
  .rename_i k;cases e
   exact⟨RJ (show(0:Int)<1000000000 by decide),rH _,[],by rw[<-k];exact .nil _⟩
  .cases e
 have T:=adD (ako ⟨ps',[],lv,[]⟩ os day a1 b1) (lv:=lv.filter (iT os 0 day a1 b1)) (λr hr=>by
  obtain⟨q1,q2⟩:=jY.mp hr
  exact⟨(hG.leaves r q1).most.1,λn l=>cN.mpr ⟨r,jY.mpr ⟨q1,G7 q2 l⟩,rfl⟩⟩) (n:=(lv.filter (iT os 0 day a1 b1)).length) T0
 have big:∀n,0<=n->n<=1000000000->nW (eF ⟨ps',[],lv,[]⟩ os n day a1 b1) h s->∃w,cg (qY (lv.filter (iT os 0 day a1 b1)) (lv.filter (iT os 0 day a1 b1)).length [(h,1000000000)]) s=aa w/\n<=w:=λn n0 n1 R=>by
  have wf:=z9 hG os n day a1 b1
  obtain⟨st,_,B⟩:=G6 (C:=C) (ws:=(eF ⟨ps',[],lv,[]⟩ os n day a1 b1).map pJ) (s:=h) (by rw[bw];exact wf)
  obtain⟨p,hp,pl⟩:=B.Uu R
  have le:(eF ⟨ps',[],lv,[]⟩ os n day a1 b1).length<=(lv.filter (iT os 0 day a1 b1)).length:=by
   unfold eF;rw[bw,<-af6,<-af6];exact List.countP_mono_left λr _ k=>G7 k (zT n0 (HQ k))
  refine alL (λw hw=>?_) hp (f:=[(h,1000000000)]) (v:=1000000000) (by rw[Mm,aV rfl]) n1 (jQ pl le)
  obtain⟨r,hr,e⟩:=cN.mp hw
  obtain⟨q1,q2⟩:=jY.mp hr
  exact⟨r,jY.mpr ⟨q1,G7 q2 (zT n0 (HQ q2))⟩,HQ q2,e⟩
 cases e:cg (qY (lv.filter (iT os 0 day a1 b1)) (lv.filter (iT os 0 day a1 b1)).length [(h,1000000000)]) s with
 |none=>
  intro n n0 n1 R
  obtain⟨w,e2,_⟩:=big n n0 n1 R.2
  rw[e] at e2;cases e2
 |some v=>
  obtain⟨t1,t2,t3⟩:=T s v e
  refine⟨⟨t1,t2⟩,⟨λk=>k.elim c (acn c t3),t3⟩,λn l n1 R=>?_⟩
  obtain⟨w,e2,l2⟩:=big n (by lia) n1 R.2
  rw[e] at e2;cases e2;lia
theorem anj{C:Ce}(l:List bR)(v0 v1 v2 v3 v4 v5:Option Vl):aA (eY mH (dM (aH 6) eX)) [v0,v1,v2,v3,v4,v5,aa (.ow (.list (l.map bu))),aj,aj] C=aa (.int ((l.map bu).length:Int),[v0,v1,v2,v3,v4,v5,aa (.ow (.list (l.map bu))),aj,aj],C):=rfl
theorem akp{C:Ce}{zs:List Str}{ps:List (Str×Str)}(hN:Names zs)(hP:gn zs ps)(p8:ps.length<=8)(z a1 b1:Str)(n day:Int)(lv:List bR):jU .one FZ Ga [aa (.im (.dict (aL (bF ps)))),aa (.im (cI z a1 b1 n)),aa (.im (.int day))] (lv.map bu) C=aa ((lv.filter (iT (up ps z) 0 day a1 b1)).map bu,C):=by
 have ct:lG [dR z,.int n,.str a1,.str b1] (aa 2) aj=[.str a1,.str b1]:=rfl;have t22:∀a b c d:au,gq (.tuple [a,b]) (.tuple [c,d])=aa (.im (.tuple [a,b,c,d])):=λ_ _ _ _=>Oa (Ff rfl)
 refine pX (T:=.one) (ft:=FZ) (fe:=Ga) (fs:=[aa (.im (.dict (aL (bF ps)))),aa (.im (cI z a1 b1 n)),aa (.im (.int day))]) (C:=C) bu (iT (up ps z) 0 day a1 b1) bu (l:=lv) λr _=>⟨[bu r],rfl,?_,λ_=>⟨.im (bu r),_,rfl,rfl⟩⟩
 have q:=adq (C:=C) hN hP p8 z a1 b1 0 day r;simp_arith[dN,mR,jy,gG,gj,iG,lZ,ct,t22,q]
theorem ank{C:Ce}{ps:List (Str×Str)}{z a1 b1 h:Str}{n day:Int}{lv l:List bR}(c:jU .one FZ Ga [aa (.im (.dict (aL (bF ps)))),aa (.im (cI z a1 b1 n)),aa (.im (.int day))] (lv.map bu) C=aa (l.map bu,C))(ll:l.length<=16)(v5:Option Vl):dH 6 (lY (iB (aH 1)) .one FZ Ga [0,2,4]) [aa (.im (.dict (aL (bF ps)))),aa (.im (.list (lv.map bu))),aa (.im (cI z a1 b1 n)),aa (.im (.str h)),aa (.im (.int day)),v5,aj,aj,aj] C=aa (.nx,[aa (.im (.dict (aL (bF ps)))),aa (.im (.list (lv.map bu))),aa (.im (cI z a1 b1 n)),aa (.im (.str h)),aa (.im (.int day)),v5,aa (.ow (.list (l.map bu))),aj,aj],C):=by
 have q:(l.length<=1000000)=True:=eq_true (by lia);have nl:=GF l;simp_arith[c,q,nl]
theorem akq{C:Ce}{zs:List Str}{ps ps':List (Str×Str)}{lv:List bR}(hN:Names zs)(hP:gn zs ps)(hG:j0 zs ps ⟨ps',[],lv,[]⟩)(z a1 b1:Str)(n day:Int)(h:Str):
  ∃f:List (Str×Int),Kv [.im (.dict (aL (bF ps))),.im (.list (lv.map bu)),.im (cI z a1 b1 n),.im (.str h),.im (.int day)] C=aa (.ow (.dict (aL (stL f))),C)/\∀s,wj (Rn ⟨ps',[],lv,[]⟩ (up ps z) day a1 b1 h s) (cg f s):=by
 refine hide λGG gg=>?_
 have p8:=hG.p8;have jE:lv.length<=16:=hG.jE;have ct:lG [dR z,.int n,.str a1,.str b1] (aa 2) aj=[.str a1,.str b1]:=rfl;have ni:nD (.str h) (.tuple [.str a1,.str b1])=aa (.im (.bool (!decide (h=a1\/h=b1)))):=by
  have:=Eb h a1 b1;unfold jM at this;unfold nD;cases hh:inB (.str h) (.tuple [.str a1,.str b1]) with
  |none=>rw[hh] at this;cases this
  |some v=>rw[hh] at this;cases this;rfl
 have pw:rZ (.int 10) (.int 9)=aa (.im (.int 1000000000)):=rfl;have kd:cL (.str h)=aa (.inr h):=rfl;have t22:gq (.tuple [.str z,.int 0]) (.tuple [.str a1,.str b1])=aa (.im (cI z a1 b1 0)):=Oa (Ff rfl)
 obtain⟨l,lE⟩:∃l,l=lv.filter (iT (up ps z) 0 day a1 b1):=⟨_,rfl⟩
 have ll:l.length<=16:=by rw[lE];exact jQ (xu _ _) jE
 have c:=akp (C:=C) hN hP p8 z a1 b1 n day lv;rw[<-lE] at c;have q:(l.length<=1000000)=True:=eq_true (by lia);have nl:=GF l;have fm:=λs=>ajt (C:=C) hG (up ps z) day a1 b1 h s
 rw[<-lE] at fm;have rl:(jV 0 l.length).length=l.length:=by simp[jV]
 have s6:=ank (h:=h) c ll
 obtain⟨its,il,i7⟩:∃its:List au,its.length=l.length/\∀v5:Option Vl,qy (aA (eY mH (dM (aH 6) eX))) [aa (.im (.dict (aL (bF ps)))),aa (.im (.list (lv.map bu))),aa (.im (cI z a1 b1 n)),aa (.im (.str h)),aa (.im (.int day)),v5,aa (.ow (.list (l.map bu))),aj,aj] C=aa (its,[aa (.im (.dict (aL (bF ps)))),aa (.im (.list (lv.map bu))),aa (.im (cI z a1 b1 n)),aa (.im (.str h)),aa (.im (.int day)),v5,aa (.ow (.list (l.map bu))),aj,aj],C):=by
  refine⟨jV 0 (Int.toNat ((l.map bu).length:Int)),by rw[zA,bw];exact rl,λv5=>?_⟩
  exact HN (anj l _ _ _ _ _ v5) (by lia) (by rw[bw];lia)
 have go:∀f0:List (Str×Int),f0.length<=1->∃w6 w7 w8,_:=λf0 hf=>abr (C:=C) (v0:=aa (.im (.dict (aL (bF ps))))) (v1:=aa (.im (.list (lv.map bu)))) (v2:=aa (.im (cI z a1 b1 n))) (v3:=aa (.im (.str h))) (v4:=aa (.im (.int day))) ll its f0 (.ow (.list (l.map bu))) aj aj (.inl rfl) (by rw[il];lia)
 rw[il] at go;by_cases h1:h=a1\/h=b1
 .simp only[aV h1] at fm;rw[cY h1] at ni
  obtain⟨w6,w7,w8,e1⟩:=go [] (kI _)
  have k0:aL (stL [])=[]:=rfl;rw[k0] at e1;generalize qY l l.length []=f at fm e1;refine gg ⟨_,fM [aa (.im (.dict (aL (bF ps)))),aa (.im (.list (lv.map bu))),aa (.im (cI z a1 b1 n)),aa (.im (.str h)),aa (.im (.int day)),aj,aj,aj,aj] rfl rfl ?_ rfl rfl,fm⟩;have s5:dH 5 (vf (dU (aR nD (aH 3) (aA (gG (aH 2) (gj (aA (aO (.int 2)))) iG)))) (u9 (aH 3) (aR rZ (aA (aO (.int 10))) (aA (aO (.int 9))))) vX) [aa (.im (.dict (aL (bF ps)))),aa (.im (.list (lv.map bu))),aa (.im (cI z a1 b1 n)),aa (.im (.str h)),aa (.im (.int day)),aj,aj,aj,aj] C=aa (.nx,[aa (.im (.dict (aL (bF ps)))),aa (.im (.list (lv.map bu))),aa (.im (cI z a1 b1 n)),aa (.im (.str h)),aa (.im (.int day)),aa (.ow (.dict [])),aj,aj,aj],C):=by
   simp_arith[gG,gj,iG,lZ,ct,ni,vX]
  have r:=(eE s5).trans ((eE (s6 _)).trans (eE (g:=oJ 5) ((wg (i7 _)).trans e1)));exact congrArg (zY λp=>(p.1,p.2.2)) r
 .simp only[bf h1] at fm;rw[dW h1] at ni
  obtain⟨w6,w7,w8,e1⟩:=go [(h,1000000000)] (bU _)
  have k0:aL (stL [(h,1000000000)])=[(.str h,.int 1000000000)]:=rfl;rw[k0] at e1;generalize qY l l.length [(h,1000000000)]=f at fm e1;refine gg ⟨_,fM [aa (.im (.dict (aL (bF ps)))),aa (.im (.list (lv.map bu))),aa (.im (cI z a1 b1 n)),aa (.im (.str h)),aa (.im (.int day)),aj,aj,aj,aj] rfl rfl ?_ rfl rfl,fm⟩;have s5:dH 5 (vf (dU (aR nD (aH 3) (aA (gG (aH 2) (gj (aA (aO (.int 2)))) iG)))) (u9 (aH 3) (aR rZ (aA (aO (.int 10))) (aA (aO (.int 9))))) vX) [aa (.im (.dict (aL (bF ps)))),aa (.im (.list (lv.map bu))),aa (.im (cI z a1 b1 n)),aa (.im (.str h)),aa (.im (.int day)),aj,aj,aj,aj] C=aa (.nx,[aa (.im (.dict (aL (bF ps)))),aa (.im (.list (lv.map bu))),aa (.im (cI z a1 b1 n)),aa (.im (.str h)),aa (.im (.int day)),aa (.ow (.dict [(.str h,.int 1000000000)])),aj,aj,aj],C):=by
   simp_arith[gG,gj,iG,lZ,ct,ni,u9,pw,kd]
  have r:=(eE s5).trans ((eE (s6 _)).trans (eE (g:=oJ 5) ((wg (i7 _)).trans e1)));exact congrArg (zY λp=>(p.1,p.2.2)) r
def oR(ws:List Wy)(k:Int):List Wy:=ws.filter λw=>!(w.1==k)
theorem Vv{ws:List Wy}{k:Int}{w:Wy}:w∈oR ws k↔w∈ws/\w.1≠k:=by
 unfold oR;rw[jY];simp
theorem adE{ws:List Wy}{k:Int}{a b:Str}{r:List Int}(h:gm ws a r b):k∉r->gm (oR ws k) a r b:=by
 induction h with
 |nil p=>exact λ_=>.nil p
 |cons hw _ ih=>exact λm=>.cons (Vv.mpr ⟨hw,λe=>m (by rw[<-e];exact dg)⟩) (ih λz=>m (dZ _ z))
theorem anl{ws:List Wy}{a b:Str}{r:List Int}(h:gm ws a r b):∀k∈r,k∈ws.map (·.1):=by
 induction h with
 |nil _=>exact λ_ m=>nomatch m
 |cons hw _ ih=>
  intro k m;rcases bY.mp m with rfl|m
  .exact cN.mpr ⟨_,hw,rfl⟩
  .exact ih k m
theorem abt{ws:List Wy}{n:Int}{b:Str}{l2:List Int}:∀{l1:List Int}{a:Str},gm ws a (l1++n::l2) b->∃x y,(n,x,y)∈ws/\gm ws y l2 b
 |[],a,h=>by
  cases h with
  |cons hw hr=>exact⟨_,_,hw,hr⟩
 |k::l1,a,h=>by
  cases h with
  |cons hw hr=>exact abt hr
theorem akr{ws:List Wy}(hU:∀w∈ws,∀w'∈ws,w.1=w'.1->w=w'){a b:Str}{r:List Int}(h:gm ws a r b):∃r',gm ws a r' b/\r'.Nodup/\r'.length<=r.length/\(r'.length=r.length->r'=r):=by
 induction h with
 |nil p=>exact⟨[],.nil p,mj,bU _,λ_=>rfl⟩
 |cons hw _ ih=>
  rename_i n p q s r _
  obtain⟨r0,h0,nd,le,eq⟩:=ih
  by_cases m:n∈r0
  .obtain⟨l1,l2,rfl⟩:=List.append_of_mem m
   obtain⟨x,y,hxy,h2⟩:=abt h0
   have e:=hU _ hw _ hxy rfl;injection e with _ e
   injection e with e1 e2
   subst e1 e2
   refine⟨n::l2,.cons hw h2,(kE.mp nd).2.1,?_,λk=>?_⟩
   .rw[fU,cA] at le;rw[cA,cA];lia
   .rw[fU,cA] at le;rw[cA,cA] at k;lia
  .refine⟨n::r0,.cons hw h0,je.mpr ⟨m,nd⟩,Qq le,λk=>?_⟩
   rw[eq (Gq k)]
theorem adF{C:Ce}{ws:List Wy}{h s:Str}{r:List Int}(hl:ws.length<=60)(hU:∀w∈ws,∀w'∈ws,w.1=w'.1->w=w')(R:mV ws h s r):r.length<=60/\r.Nodup:=by
 obtain⟨st,_,B⟩:=G6 (C:=C) (ws:=ws.map pJ) (s:=h) (by rw[bw];exact hl)
 obtain⟨p,hp,pl⟩:=B.Uu ⟨r,R.1⟩
 obtain⟨r',h1,h2,h3,h4⟩:=akr hU R.1
 have:r.length<=r'.length:=by rcases R.2 r' h1 with k|k<;>lia
 refine⟨by rcases R.2 p hp with k|k<;>lia,?_⟩
 rw[<-h4 (by lia)];exact h2
theorem aks{l:List Int}(nd:l.Nodup):(gR ltI l).Pairwise (·<·):=by
 have h1:=Dl Oq (l:=l) λ_ _=>trivial
 have h2:(gR ltI l).Nodup:=(o8 l).nodup_iff.mpr nd
 refine(h1.and h2).imp λ{a b} h=>?_
 have:=h.1;unfold ltI at this;have:=of_decide_eq_false this;have:=h.2;lia
theorem aoQ{l m:List Int}(h1:l.Pairwise (·<·))(h2:m.Pairwise (·<·))(h:∀k,k∈l↔k∈m):l=m:=by
 have p:=Tr (h1.imp λh=>aac h) (h2.imp λh=>aac h) h
 exact(sortI p (h1.imp λh=>RJ h)).trans (sortI (zK m) (h2.imp λh=>RJ h)).symm
theorem anm{C:Ce}{ws:List Wy}(hl:ws.length<=60)(hU:∀w∈ws,∀w'∈ws,w.1=w'.1->w=w')(h s:Str)(k:Int):∃b,Gw [.im (.list (ws.map wD)),.im (.int k),.im (.str h),.im (.str s)] C=aa (.im (.bool b),C)/\(b=ao↔¬nW (oR ws k) h s):=by
 have c:=pX (T:=.one) (ft:=QZ) (fe:=Q0) (fs:=[aa (.im (.int k))]) (C:=C) wD (λw=>!(w.1==k)) wD (l:=ws) λw _=>⟨[wD w],rfl,by simp only[wD];simp_arith[dN,mR,jy],λ_=>⟨.im (wD w),_,rfl,rfl⟩⟩
 have c:jU .one QZ Q0 [aa (.im (.int k))] (ws.map wD) C=aa ((oR ws k).map wD,C):=c;have bl:(oR ws k).length<=60:=jQ (xu _ _) hl
 obtain⟨o,e,R⟩:=ab5 (C:=C) (ws:=oR ws k) (h:=h) (s:=s) bl λw m w' m'=>hU w (Vv.mp m).1 w' (Vv.mp m').1
 have q:((oR ws k).length<=1000000)=True:=eq_true (by lia);have nl:fQ ((oR ws k).map wD)=ao:=vZ (λ_=>rfl) _;generalize oR ws k=us at c e R q nl;cases o with
 |none=>
  refine⟨ao,fM [aa (.im (.list (ws.map wD))),aa (.im (.int k)),aa (.im (.str h)),aa (.im (.str s)),aj] rfl rfl ?_ rfl rfl,iff_of_true rfl λ⟨r,p⟩=>R r p⟩
  simp only[qu] at e;simp_arith[KJ,c,q,nl,e,pD,isNone]
 |some r=>
  refine⟨aF,fM [aa (.im (.list (ws.map wD))),aa (.im (.int k)),aa (.im (.str h)),aa (.im (.str s)),aj] rfl rfl ?_ rfl rfl,iff_of_false gw λn=>n ⟨r,R.1⟩⟩
  simp only[qu] at e;simp_arith[KJ,c,q,nl,e,pD,isNone]
def Cut(ws:List Wy)(a1 b1 h s:Str)(k:Int):Prop:=¬((h=a1\/h=b1)\/(s=a1\/s=b1))/\nW ws h s/\¬nW (oR ws k) h s
theorem Cut.num{ws:List Wy}{a1 b1 h s:Str}{k:Int}(c:Cut ws a1 b1 h s k):k∈ws.map (·.1):=by
 obtain⟨_,⟨r,hr⟩,n⟩:=c
 by_cases m:k∈r
 .exact anl hr k m
 .exact absurd ⟨r,adE hr m⟩ n
open Classical in
theorem alN{C:Ce}{zs:List Str}{ps:List (Str×Str)}{ht:iC}(hN:Names zs)(hP:gn zs ps)(hG:j0 zs ps ht)(z a1 b1:Str)(n day:Int)(h s:Str):
  ∃xs:List Int,JT [.im (gB ht),.im (cI z a1 b1 n),.im (.str h),.im (.str s),.im (.int day)] C=aa (.ow (.list (xs.map .int)),C)/\xs.length<=60/\xs.Pairwise (·<·)/\∀k,k∈xs↔Cut (eF ht (up ps z) n day a1 b1) a1 b1 h s k:=by
 obtain⟨o,e1,r1,r2⟩:=Uz (C:=C) hN hP hG z a1 b1 n day h s
 have w:=Nz (C:=C) hN hP hG z a1 b1 n day;have wl:=z9 hG (up ps z) n day a1 b1;have hU:=Sg hG (up ps z) n day a1 b1;generalize eF ht (up ps z) n day a1 b1=ws at r2 w wl hU;cases o with
 |none=>
  refine⟨[],fM [aa (.im (gB ht)),aa (.im (cI z a1 b1 n)),aa (.im (.str h)),aa (.im (.str s)),aa (.im (.int day)),aj,aj] rfl rfl ?_ rfl rfl,kI _,xK,λk=>iff_of_false oA λc=>?_⟩
  .simp only[qu] at e1;simp_arith[JS,e1,pD,isNone]
  .obtain⟨r,hr⟩:=c.2.1
   exact r2 c.1 r hr
 |some r=>
  have ns:¬((h=a1\/h=b1)\/(s=a1\/s=b1)):=λk=>nomatch r1 k
  have R:=r2 ns
  obtain⟨rl,rn⟩:=adF (C:=C) wl hU R
  have so:=abo r (by lia);have hp:∀k,Gw [.im (.list (ws.map wD)),.im (.int k),.im (.str h),.im (.str s)] C=aa (.im (.bool (decide (¬nW (oR ws k) h s))),C):=λk=>by
   obtain⟨b,e,i⟩:=anm (C:=C) wl hU h s k
   rw[e];cases b with
   |true=>rw[cY (i.mp rfl)]
   |false=>rw[dW λz=>gw (i.mpr z)]
  have c:=pX (T:=.one) (ft:=Yr) (fe:=Ys) (fs:=[aa (.im (.list (ws.map wD))),aa (.im (.str h)),aa (.im (.str s))]) (C:=C) ie (λk=>decide (¬nW (oR ws k) h s)) ie (l:=gR ltI r) λk _=>⟨[.int k],rfl,by have:=hp k;simp_arith[dN,mR,jy,this],λ_=>⟨.im (.int k),_,rfl,rfl⟩⟩
  obtain⟨xs,hxs⟩:∃xs,xs=(gR ltI r).filter λk=>decide (¬nW (oR ws k) h s):=⟨_,rfl⟩
  rw[<-hxs] at c;have xl:xs.length<=60:=by rw[hxs];exact jQ (xu _ _) (by rw[(o8 r).length_eq];exact rl)
  have q:(xs.length<=1000000)=True:=eq_true (by lia)
  refine⟨xs,fM [aa (.im (gB ht)),aa (.im (cI z a1 b1 n)),aa (.im (.str h)),aa (.im (.str s)),aa (.im (.int day)),aj,aj] rfl rfl ?_ rfl rfl,xl,?_,λk=>?_⟩
  .simp only[qu] at e1;simp_arith[JS,e1,pD,isNone,w,so,c,q]
  .rw[hxs]
   exact(aks rn).filter _
  .rw[hxs,jY,(o8 r).mem_iff,decide_eq_true_iff]
   refine⟨λ⟨_,k2⟩=>⟨ns,⟨r,R.1⟩,k2⟩,λc=>⟨?_,c.2.2⟩⟩
   by_cases m:k∈r
   .exact m
   .exact absurd ⟨r,adE R.1 m⟩ c.2.2
def Fb(lv:List bR):Prop:=∀r∈lv,nameB r.2.1=ao/\nameB r.2.2.1=ao/\nameB r.2.2.2.1=ao
theorem abu{r:bR}(h:nameB r.2.1=ao/\nameB r.2.2.1=ao/\nameB r.2.2.2.1=ao):jc (bu r)=ao:=by
 have s1:=De h.1;have s2:=De h.2.1;have s3:=De h.2.2;unfold jc;simp only[bu,Ge,Cp,s1,s2,s3,ah9,Gn];exact cY (by show 0+1<=64;decide)
theorem apQ{q r:bR}(hq:nameB q.2.1=ao/\nameB q.2.2.1=ao/\nameB q.2.2.2.1=ao)(hr:nameB r.2.1=ao/\nameB r.2.2.1=ao/\nameB r.2.2.2.1=ao)(hu:q.1=r.1->q=r):mK (bu q) (bu r)=aa (.im (.bool (!(q.1==r.1)))):=by
 have e:wY (bu q) (bu r)=aa (uO (bu q) (bu r)):=by
  show(if mO (bu q)&&mO (bu r)&&(jc (bu q)&&jc (bu r)) then aa (uO (bu q) (bu r)) else aj)=_
  rw[abu hq,abu hr];rfl
 have f:uO (bu q) (bu r)=(q.1==r.1):=by
  show((q.1==r.1)&&_)=_
  by_cases c:q.1=r.1
  .cases hu c;simp[uO,Ro]
  .rw[show(q.1==r.1)=aF from beq_eq_false_iff_ne.mpr c];rfl
 unfold mK;rw[e,f];rfl
def Bw(lv:List bR)(k:Int):List bR:=lv.filter λq=>!(q.1==k)
theorem alO(ps':List (Str×Str))(lv:List bR)(os:List Str)(n day:Int)(a1 b1:Str)(k:Int):eF ⟨ps',[],Bw lv k,[]⟩ os n day a1 b1=oR (eF ⟨ps',[],lv,[]⟩ os n day a1 b1) k:=by
 unfold eF oR Bw;rw[List.filter_map,agZ,agZ];refine congrArg (List.map qw) (List.filter_congr λq _=>?_);rw[Bool.and_comm];rfl
theorem UJ{ht:iC}{os:List Str}{n day:Int}{a1 b1 h s:Str}{o:Option (List Int)}(M:ur ht os n day a1 b1 h s o):o.isSome=ao↔¬((h=a1\/h=b1)\/(s=a1\/s=b1))/\nW (eF ht os n day a1 b1) h s:=by
 by_cases c:(h=a1\/h=b1)\/(s=a1\/s=b1)
 .rw[M.1 c];exact iff_of_false gw λz=>z.1 c
 .have R:=M.2 c;cases o with
  |none=>exact iff_of_false gw λz=>let ⟨r,p⟩:=z.2;R r p
  |some r=>exact iff_of_true rfl ⟨c,r,R.1⟩
theorem alP(f:Tb)(z:Str):nD (.str z) (.dict (aL (dJ f)))=aa (.im (.bool (!(cR f z).isSome))):=by
 show((mG (aL (dJ f)) (.str z)).map (·.isSome)).map (λb=>Vl.im (.bool (!b)))=_
 rw[Hr,jG,Ck];rfl
theorem apR(z:Str)(k:Int):Txt.slice z aj (aa k)=Txt.slice z (aa 0) (aa k):=by
 have e:Cd aj (aa k) 1 z.length=Cd (aa 0) (aa k) 1 z.length:=by
  have h:max (0:Int) (min 0 (z.length:Int))=0:=by lia
  unfold Cd;simp only[aia,if_false,show(1:Int)>0 from by decide,if_true,h]
 unfold Txt.slice;rw[e]
theorem apS(z:Str)(k:Int):Txt.slice z (aa k) aj=Txt.slice z (aa k) (aa (z.length:Int)):=by
 have e:Cd (aa k) aj 1 z.length=Cd (aa k) (aa (z.length:Int)) 1 z.length:=by
  have h:max (0:Int) (min (z.length:Int) (z.length:Int))=(z.length:Int):=by lia
  have h2:¬((z.length:Int)<0):=by lia
  unfold Cd;simp only[h2,if_false,show(1:Int)>0 from by decide,if_true,h]
 unfold Txt.slice;rw[e]
theorem aoR{z:Str}{k:Nat}(h:k<=z.length):(Txt.slice z aj (aa (k:Int))).cps.toList=z.cps.toList.take k:=by
 rw[apR];have:=eq_of_beq (agd (x:=z) (i:=0) (j:=(k:Int)) (by lia) (by lia) (by lia));rw[this]
 show((z.cps.toList.drop (0:Int).toNat).take ((k:Int)-0).toNat)=_
 rw[show((k:Int)-0).toNat=k by lia];rfl
theorem aoS{z:Str}{k:Nat}(h:k<=z.length):(Txt.slice z (aa (k:Int)) aj).cps.toList=z.cps.toList.drop k:=by
 rw[apS];have:=eq_of_beq (agd (x:=z) (i:=(k:Int)) (j:=(z.length:Int)) (by lia) (by lia) (by lia));rw[this]
 show((z.cps.toList.drop (k:Int).toNat).take ((z.length:Int)-(k:Int)).toNat)=_
 rw[zA];refine Yd ?_;rw[Cq,show z.cps.toList.length=z.length from jF];lia
def zp(p s:Str)(f:Int)(k:Nat):Str:=p++(⟨#[97+((f+5*(k:Int))%26).toNat]⟩:Str)++s
theorem aco(p s:Str)(f:Int)(k:Nat):(zp p s f k).cps.toList=p.cps.toList++([97+((f+5*(k:Int))%26).toNat]++s.cps.toList):=by
 show(p.cps++#[97+((f+5*(k:Int))%26).toNat]++s.cps).toList=_
 simp
theorem alQ{p s:Str}{f:Int}(hl:p.length+s.length=7)(hp:∀c∈p.cps.toList,97<=c/\c<=122)(hs:∀c∈s.cps.toList,97<=c/\c<=122):Names ((fP 26).map (zp p s f)):=by
 refine⟨ahK λi j hi hj e=>?_,λz hz=>?_⟩
 .have e1:=congrArg (λz:Str=>z.cps.toList) e;simp only[aco] at e1;have e2:=List.append_cancel_left e1;have e3:97+((f+5*(i:Int))%26).toNat=97+((f+5*(j:Int))%26).toNat:=by injection e2
  have a1:0<=(f+5*(i:Int))%26:=xP _ (by decide);have a2:0<=(f+5*(j:Int))%26:=xP _ (by decide);have:=alk (n:=26) (s:=5) (u:=21) (f:=f) (i:=i) (j:=j) (by decide) (by decide) (by lia) (by lia) (by lia) (by lia) (by lia);lia
 .obtain⟨k,_,rfl⟩:=cN.mp hz
  have a1:0<=(f+5*(k:Int))%26:=xP _ (by decide);have a2:(f+5*(k:Int))%26<26:=Fo _ (by decide);have l1:p.cps.toList.length=p.length:=jF;have l2:s.cps.toList.length=s.length:=jF;refine amX (aco p s f k) ?_ ?_ λc hc=>?_
  .rw[fU,fU,l1,l2];show 1<=_+(1+_);lia
  .rw[fU,fU,l1,l2];show _+(1+_)<=8;lia
  .rcases dD.mp hc with hc|hc
   .exact hp c hc
   .rcases dD.mp hc with hc|hc
    .rw[jb.mp hc];lia
    .exact hs c hc
abbrev zq(b:Nat)(acc:List au)(z:Str)(k f:Int)(v7:Option Vl):En:=
 [aa (.ce b),aa (.im (.int 26)),aa (.im (.str abc)),aa (.ow (.list acc)),aa (.im (.str z)),aa (.im (.int k)),aa (.im (.int f)),v7]
theorem len_app(x y:Str):(x++y).length=x.length+y.length:=ahe
theorem akt{C:Ce}{b i:Nat}{acc:List au}{z:Str}{k:Nat}{f:Int}(hz:z.length=7)(hk:k<=7)(la:acc.length<=100):Qv (zq b acc z (k:Int) f (aa (.im (.int (i:Int))))) C=aa (.nx,zq b (acc++[.str (zp (Txt.slice z aj (aa (k:Int))) (Txt.slice z (aa (k:Int)) aj) f i)]) z (k:Int) f (aa (.im (.int (i:Int)))),C):=by
 have a1:0<=(f+5*(i:Int))%26:=xP _ (by decide);have a2:(f+5*(i:Int))%26<26:=Fo _ (by decide);have q2:(acc.length<1000000)=True:=eq_true (by lia);have l1:=PyProof.Txt.length_slice_le z aj (aa (k:Int));have l2:=PyProof.Txt.length_slice_le z (aa (k:Int)) aj;have s1:lZ aj (aa (k:Int)) (.str z)=aa (.im (.str (Txt.slice z aj (aa (k:Int))))):=aV (by rw[hz];decide);have s2:lZ (aa (k:Int)) aj (.str z)=aa (.im (.str (Txt.slice z (aa (k:Int)) aj))):=aV (by rw[hz];decide);have mu:=mul_eq (i:=5) (j:=(i:Int)) (.inl (by decide));have mo:=mod_eq (i:=f+5*(i:Int)) (j:=26) (by decide);have lt:=letters _ a1 a2;unfold zp
 generalize(f+5*(i:Int))%26=v at a1 a2 mo lt
 generalize Txt.slice z aj (aa (k:Int))=p at l1 s1;generalize Txt.slice z (aa (k:Int)) aj=r at l2 s2;have t1:gq (.str p) (.str ⟨#[97+v.toNat]⟩)=aa (.im (.str (p++(⟨#[97+v.toNat]⟩:Str)))):=aV (by show p.length+1<=1000000;lia);have t2:gq (.str (p++(⟨#[97+v.toNat]⟩:Str))) (.str r)=aa (.im (.str (p++(⟨#[97+v.toNat]⟩:Str)++r))):=aV (by rw[len_app];show p.length+1+_<=1000000;lia);simp only[zq];simp_arith[gG,iG,gj,s1,s2,mu,mo,bI,lt,t1,t2,sO,yE,q2]
theorem ano{C:Ce}{b L j:Nat}(hB:Bl L C b (j+9)):∃(zs:List Str)(C':Ce),J8 [.ce b,.im (.int 26)] C=aa (.ow (.list (zs.map .str)),C')/\Names zs/\zs.length=26/\Bl L C' b j:=by
 refine hide λGG gg=>?_
 obtain⟨cs,C1,e1,cl,hc,nY⟩:=am5 (fe:=Y0) rfl (j:=j+2) (w:=7) (size:=7) (hB.mono (by lia)) (by decide) (by decide)
 have cl:cs.length=7:=cl
 obtain⟨z,ej,ez,lz⟩:=am6 (cs:=cs) (by lia)
 rw[cl] at lz
 obtain⟨t,C2,e2,a2,b2,hB2⟩:=j7 (m:=8) (k:=j+1) nY (by decide) (by decide)
 obtain⟨f,C3,e3,a3,b3,hB3⟩:=j7 (m:=26) (k:=j) hB2 (by decide) (by decide)
 obtain⟨k,rfl⟩:∃k:Nat,t=(k:Int):=⟨t.toNat,by lia⟩
 have hk:k<=7:=by lia
 have N:Names ((fP 26).map (zp (Txt.slice z aj (aa (k:Int))) (Txt.slice z (aa (k:Int)) aj) f)):=by
  have c1:=aoR (z:=z) (k:=k) (by lia);have c2:=aoS (z:=z) (k:=k) (by lia);refine alQ ?_ (λc h=>?_) (λc h=>?_)
  .have l1:∀x:Str,x.length=x.cps.toList.length:=λx=>jF.symm
   rw[l1,l1,c1,c2,ez,xM,Cq,cl];lia
  .rw[c1,ez] at h;exact hc c (Qe h)
  .rw[c2,ez] at h;exact hc c (Yl h)
 obtain⟨env',C',e,he⟩:=aa6 (g:=dz 7) (body:=Qv) (its:=jV 0 26) (env:=zq b [] z (k:Int) f aj) (C:=C3)
  (λi env C4=>C4=C3/\∃v7,env=zq b (((fP i).map (zp (Txt.slice z aj (aa (k:Int))) (Txt.slice z (aa (k:Int)) aj) f)).map .str) z (k:Int) f v7) ⟨rfl,aj,rfl⟩ (λi d env C4 hd hI=>by
   obtain⟨rfl,v7,rfl⟩:=hI
   obtain⟨rfl,hi⟩:=Vj hd
   rw[aad]
   refine⟨_,.nx,_,C4,rfl,akt (i:=i) lz hk (by rw[bw,bw,ou];lia),.inl rfl,rfl,aa (.im (.int (i:Int))),?_⟩
   rw[List.range_succ,jZ,jZ];rfl)
 rw[z8] at he
 obtain⟨rfl,v7,rfl⟩:=he
 refine gg ⟨_,C',fM [aa (.ce b),aa (.im (.int 26)),aj,aj,aj,aj,aj,aj] rfl rfl ?_ rfl (hB.eq hB3),N,by rw[bw,ou],hB3⟩;have q:(cs.length<=1000000)=True:=eq_true (by lia)
 refine(congrArg (zY λp=>(p.1,p.2.2)) (?_:Ri _ C=aa (.rt (.ow (.list (((fP 26).map (zp (Txt.slice z aj (aa (k:Int))) (Txt.slice z (aa (k:Int)) aj) f)).map .str))),zq b (((fP 26).map (zp (Txt.slice z aj (aa (k:Int))) (Txt.slice z (aa (k:Int)) aj) f)).map .str) z (k:Int) f v7,C'))).trans rfl
 refine(eE (e1:=[aa (.ce b),aa (.im (.int 26)),aa (.im (.str abc)),aa (.ow (.list [])),aj,aj,aj,aj]) (C1:=C) ?_).trans ?_
 .rfl
 refine(eE (e1:=[aa (.ce b),aa (.im (.int 26)),aa (.im (.str abc)),aa (.ow (.list [])),aa (.im (.str z)),aj,aj,aj]) (C1:=C1) ?_).trans ?_
 .simp_arith[N7,qy,W6 (m:=7) (by decide) (by decide),e1,q,aaG,ej]
 refine(eE (e1:=zq b [] z (k:Int) f aj) (C1:=C') ?_).trans ?_
 .simp only[zq];simp_arith[e2,e3]
 refine(eE ((wg (HN (k:=26) rfl (by decide) (by decide))).trans e)).trans ?_
 rfl
abbrev n6(b:Nat)(many:Int)(zs:List Str)(v3 v4 v5 v6 v7 v8 v9 v10 v11 jw jx gr dB:Option Vl):En:=
 [aa (.ce b),aa (.im (.int many)),aa (.ow (.list (zs.map .str))),v3,v4,v5,v6,v7,v8,v9,v10,v11,jw,jx,gr,dB]
theorem alR{C:Ce}{b i:Nat}{many deep:Int}{zs:List Str}{ps:List (Str×Str)}(hz:Names zs)(Pn:zs.length=26)(d0:0<=deep)(d1:deep<3)(hi:i<8)(hl:ps.length=i)(hP:gn zs ps):∃x,Lb (n6 b many zs (aa (.ow (.dict (aL (bF ps))))) (aa (.im (.int deep))) (aa (.im (.int (i:Int)))) aj aj aj aj aj aj aj aj aj aj) C=aa (.nx,n6 b many zs (aa (.ow (.dict (aL (bF (ps++[x])))))) (aa (.im (.int deep))) (aa (.im (.int (i:Int)))) aj aj aj aj aj aj aj aj aj aj,C)/\gn zs (ps++[x]):=by
 refine hide λGG gg=>?_
 obtain⟨z,_,hz1,iz⟩:=yo (zs:=zs) (k:=i) (by lia)
 have g:((aL (bF ps)).length<1000000)=True:=eq_true (by unfold aL bF;rw[bw,bw];lia);have pu:∀y,putD (aL (bF ps)) (.str z) (.str y)=aa (aL (bF (ps++[(z,y)]))):=λy=>by
  rw[Mj (l:=bF ps) (z:=z) (d:=.str y)]
  .unfold bF;rw[jZ];rfl
  .unfold bF;rw[cU];intro hm
   obtain⟨q,hq,e⟩:=cN.mp hm
   obtain⟨jj,hj,rfl⟩:=zy hq
   have g1:=(hP jj ps[jj] (jX hj)).1;have e:ps[jj].1=z:=e;rw[e] at g1
   obtain⟨x1,y1⟩:=jW.mp g1
   obtain⟨x2,y2⟩:=jW.mp hz1
   exact Jx.mp hz.1 jj i x1 x2 (by lia) (y1.trans y2.symm)
 by_cases h:0<i
 .have h':(0:Int)<(i:Int):=by lia
  obtain⟨y0,_,n0,i0⟩:=yo (zs:=zs) (k:=0) (by lia)
  obtain⟨y1,_,n1,i1⟩:=yo (zs:=zs) (k:=i-1) (by lia)
  rw[show((i-1:Nat):Int)=(i:Int)-1 by lia] at i1;have i0:fG (zs.map dR) 0=aa (.str y0):=i0
  obtain⟨x,ix,hx⟩:=at3 (.str y1) (.str y0) (.str (dO "")) d0 d1
  obtain⟨y,rfl,hy⟩:∃y,x=.str y/\(y=dO ""\/∃j,j<ps.length/\zs[j]?=aa y):=by
   rcases hx with rfl|rfl|rfl
   .exact⟨_,rfl,.inr ⟨i-1,by lia,n1⟩⟩
   .exact⟨_,rfl,.inr ⟨0,by lia,n0⟩⟩
   .exact⟨_,rfl,.inl rfl⟩
  refine gg ⟨(z,y),?_,hP.snoc (by rw[hl];exact hz1) hy⟩;have pu:=pu y;simp only[n6];simp_arith[iz,h',i1,i0,ix,oN,qW,pu,g]
 .have h0:i=0:=by lia
  subst h0;have pu:=pu (dO "");have iz:fG (zs.map dR) 0=aa (.str z):=iz;refine gg ⟨(z,dO ""),?_,hP.snoc (by rw[hl];exact hz1) (.inl rfl)⟩;have n0:¬((0:Int)<((0:Nat):Int)):=by decide
  simp only[n6];simp_arith[show((0:Nat):Int)=0 from rfl,iz,aia,oN,qW,pu,g]
theorem aku{C:Ce}{b:Nat}{many deep:Int}{zs:List Str}(hz:Names zs)(Pn:zs.length=26)(d0:0<=deep)(d1:deep<3):∃ps w5,gC (dz 5) Lb (jV 0 8) (n6 b many zs (aa (.ow (.dict []))) (aa (.im (.int deep))) aj aj aj aj aj aj aj aj aj aj aj) C=aa (.nx,n6 b many zs (aa (.ow (.dict (aL (bF ps))))) (aa (.im (.int deep))) w5 aj aj aj aj aj aj aj aj aj aj,C)/\ps.length=8/\gn zs ps:=by
 obtain⟨env',C',e,rfl,ps,w5,rfl,hl,hP⟩:=aa6 (g:=dz 5) (body:=Lb) (its:=jV 0 8) (env:=n6 b many zs (aa (.ow (.dict []))) (aa (.im (.int deep))) aj aj aj aj aj aj aj aj aj aj aj) (C:=C)
  (λi env C2=>C2=C/\∃ps w5,env=n6 b many zs (aa (.ow (.dict (aL (bF ps))))) (aa (.im (.int deep))) w5 aj aj aj aj aj aj aj aj aj aj/\ps.length=i/\gn zs ps)
  ⟨rfl,[],aj,rfl,rfl,λi x e=>by simp at e⟩ (λi d env C2 hd hI=>by
   obtain⟨rfl,ps,w5,rfl,hl,hP⟩:=hI
   obtain⟨rfl,hi⟩:=Vj hd
   rw[aad]
   obtain⟨x,e,hP'⟩:=alR (C:=C2) (b:=b) (many:=many) hz Pn d0 d1 hi hl hP
   exact⟨_,.nx,_,C2,rfl,e,.inl rfl,rfl,ps++[x],_,rfl,by rw[fU,hl];rfl,hP'⟩)
 rw[z8] at hl
 exact⟨ps,w5,e,hl,hP⟩
abbrev lM(b:Nat)(many:Int)(zs:List Str)(ps:List (Str×Str))(v4 v5:Option Vl)(pe:List Str)(day:Int)(v8:Option Vl)(lv:List bR)(num:Int)(os:List Str)(jw jx gr dB:Option Vl):En:=
 [aa (.ce b),aa (.im (.int many)),aa (.ow (.list (zs.map .str))),aa (.im (.dict (aL (bF ps)))),v4,v5,aa (.ow (.list (pe.map .str))),aa (.im (.int day)),v8,aa (.ow (.list (lv.map bu))),aa (.im (.int num)),aa (.ow (.list (os.map .str))),jw,jx,gr,dB]
theorem at4(a b c d:au){k:Int}(h0:0<=k)(h1:k<4):∃x,fG [a,b,c,d] k=aa x/\(x=a\/x=b\/x=c\/x=d):=by
 have:k=0\/k=1\/k=2\/k=3:=by lia
 rcases this with rfl|rfl|rfl|rfl
 .exact⟨a,Ou _ _,.inl rfl⟩
 .exact⟨b,Ov _ _ _,.inr (.inl rfl)⟩
 .exact⟨c,W5 _ _ _ _,.inr (.inr (.inl rfl))⟩
 .exact⟨d,afi _ _ _ _ _,.inr (.inr (.inr rfl))⟩
structure Pq(zs own pe:List Str)(lv:List bR)(m:Int):Prop where
 ok:∀r∈lv,MN zs own r/\r.2.1∈pe/\r.2.2.1∈pe
 rise:(lv.map (·.1)).Pairwise (·<·)
 num:∀r∈lv,r.1<=m
theorem anp{C:Ce}{b L j:Nat}{many num day:Int}{zs pe os:List Str}{ps:List (Str×Str)}{v4 v5 v8 jw jx gr dB:Option Vl}{lv:List bR}(hB:Bl L C b (j+9))(hP:gn zs ps)(p8:ps.length=8)(pl:2<=pe.length)(XC:pe.length<=20)(pn:pe.Nodup)(pz:∀x∈pe,x∈zs)(d0:0<=day)(d1:day<=99999)(o0:0<os.length)(o1:os.length<=100)(oo:∀y∈os,y∈ps.map (·.1))(n0:0<=num)(n1:num<=1900)(G:Pq zs (ps.map (·.1)) pe lv num)(ll:lv.length<=100):
  ∃lv' num' C' w12 w13 w14 w15,SN (lM b many zs ps v4 v5 pe day v8 lv num os jw jx gr dB) C=aa (.nx,lM b many zs ps v4 v5 pe day v8 lv' num' os w12 w13 w14 w15,C')/\Pq zs (ps.map (·.1)) pe lv' num'/\(0<=num'/\num'<=num+60)/\lv'.length=lv.length+1/\Bl L C' b j:=by
 refine hide λGG gg=>?_
 obtain⟨t1,C1,e1,a1,b1,nY⟩:=j7 (m:=60) (k:=j+8) hB (by decide) (by decide)
 obtain⟨t2,C2,e2,a2,b2,hB2⟩:=j7 (m:=(pe.length:Int)) (k:=j+7) nY (by lia) (by lia)
 obtain⟨t3,C3,e3,a3,b3,hB3⟩:=j7 (m:=8) (k:=j+6) hB2 (by decide) (by decide)
 obtain⟨y,hy,_,iy⟩:=adp hP a3 (by lia)
 obtain⟨t4,C4,e4,a4,b4,Js⟩:=j7 (m:=2) (k:=j+5) hB3 (by decide) (by decide)
 obtain⟨t5,C5,e5,a5,b5,Jt⟩:=j7 (m:=(pe.length:Int)-1) (k:=j+4) Js (by lia) (by lia)
 have mu:qT (.int t4) (.int t5)=aa (.im (.int (t4*t5))):=mul_eq (.inl (by lia));have md:=mod_eq (i:=t2+1+t4*t5) (j:=(pe.length:Int)) (by lia)
 obtain⟨d,hd,dl,dh⟩:∃d:Int,t2+1+t4*t5=t2+d/\1<=d/\d<pe.length:=by
  have:t4=0\/t4=1:=by lia
  rcases this with rfl|rfl
  .exact⟨1,by rw[Int.zero_mul];lia,by lia,by lia⟩
  .exact⟨1+t5,by rw[Int.one_mul];lia,by lia,by lia⟩
 obtain⟨r0,r1,r2⟩:=anc a2 b2 dl dh
 rw[<-hd] at r0 r1 r2
 generalize(t2+1+t4*t5)%(pe.length:Int)=to at md r0 r1 r2
 obtain⟨g,mg,ig,xg⟩:=Dm (zs:=pe) a2 b2
 obtain⟨t,mt,it,xt⟩:=Dm (zs:=pe) r0 r1
 have hne:g≠t:=λz=>by
  subst z;have:=aoK pn ig it;lia
 have pw:rZ (.int 10) (.int 9)=aa (.im (.int 1000000000)):=rfl;have t42:∀a b c d e f:au,gq (.tuple [a,b,c,d]) (.tuple [e,f])=aa (.im (.tuple [a,b,c,d,e,f])):=λ_ _ _ _ _ _=>Oa (Ff rfl)
 have t61:∀a b c d e f g:au,gq (.tuple [a,b,c,d,e,f]) (.tuple [g])=aa (.im (.tuple [a,b,c,d,e,f,g])):=λ_ _ _ _ _ _ _=>Oa (Ff rfl)
 have q:(lv.length<1000000)=True:=eq_true (by lia);have fin:∀(u:Str)(C7:Ce),u∈ps.map (·.1)->Bl L C7 b (j+2)->gW (dU (aR Bp (aA (bN gJ (az (aM 0) (az (aO (.int 4)) aW)))) (aA (aO (.int 0))))) (dH 13 (aR bI (aH 11) (aA (bN gJ (az (aM 0) (az (eY mH (dM (aH 11) eX)) aW)))))) iR (lM b many zs ps v4 v5 pe day v8 lv (num+1+t1) os (aa (.im (.int t2))) (aa (.im (.str y))) (aa (.im (.int to))) dB) C5=aa (.nx,lM b many zs ps v4 v5 pe day v8 lv (num+1+t1) os (aa (.im (.int t2))) (aa (.im (.str u))) (aa (.im (.int to))) dB,C7)->GG:=λu C7 hu Ju run=>by
  obtain⟨t8,C8,e8,a8,b8,hB8⟩:=j7 (m:=4) (k:=j+1) Ju (by decide) (by decide)
  obtain⟨x,ix,hx⟩:=at4 (.tuple [.int 0,.int 99999]) (.tuple [.int day,.int day]) (.tuple [.int 0,.int day]) (.tuple [.int day,.int 99999]) a8 b8
  obtain⟨f,l,rfl,hf⟩:∃f l:Int,x=.tuple [.int f,.int l]/\0<=f/\f<=l/\l<=99999:=by rcases hx with rfl|rfl|rfl|rfl<;>exact⟨_,_,rfl,by lia,by lia,by lia⟩
  obtain⟨t9,C9,e9,a9,b9,hB9⟩:=j7 (m:=4) (k:=j) hB8 (by decide) (by decide)
  refine gg ⟨lv++[(num+1+t1,g,t,u,f,l,1000000000-t9)],num+1+t1,C9,aa (.im (.int t2)),aa (.im (.str u)),aa (.im (.int to)),aa (.im (.tuple [.int f,.int l])),?_,⟨λr hr=>?_,?_,λr hr=>?_⟩,⟨by lia,by lia⟩,by rw[fU];rfl,hB9⟩
  .refine(eE (e1:=lM b many zs ps v4 v5 pe day v8 lv (num+1+t1) os jw jx gr dB) (C1:=C1) ?_).trans ?_
   .simp only[lM];simp_arith[e1]
   refine(eE (e1:=lM b many zs ps v4 v5 pe day v8 lv (num+1+t1) os (aa (.im (.int t2))) (aa (.im (.str y))) gr dB) (C1:=C3) ?_).trans ?_
   .simp only[lM];simp_arith[e2,e3,iy]
   refine(eE (e1:=lM b many zs ps v4 v5 pe day v8 lv (num+1+t1) os (aa (.im (.int t2))) (aa (.im (.str y))) (aa (.im (.int to))) dB) (C1:=C5) ?_).trans ?_
   .simp only[lM];simp_arith[e4,e5,mu,md]
   refine(eE run).trans ?_
   refine(eE (e1:=lM b many zs ps v4 v5 pe day v8 lv (num+1+t1) os (aa (.im (.int t2))) (aa (.im (.str u))) (aa (.im (.int to))) (aa (.im (.tuple [.int f,.int l])))) (C1:=C8) ?_).trans ?_
   .simp only[lM];simp_arith[e8,ix]
   .simp only[lM];simp_arith[xg,xt,t42,pw,e9,t61,sO,yE,q];simp only[jZ,cj,oE,bu]
  .rcases dD.mp hr with hr|hr
   .exact G.ok r hr
   .rw[jb.mp hr]
    exact⟨⟨⟨by show 0<=num+1+t1;lia,by show num+1+t1<=2000;lia⟩,pz _ mg,pz _ mt,hne,hu,hf,⟨by show 0<=1000000000-t9;lia,by show 1000000000-t9<=1000000000;lia⟩⟩,mg,mt⟩
  .rw[jZ,Qd]
   refine⟨G.rise,List.pairwise_singleton _ _,λx hx y hy=>?_⟩
   rw[jb.mp (show y∈[num+1+t1] from hy)]
   obtain⟨r,hr,rfl⟩:=cN.mp hx
   have:=G.num r hr;lia
  .rcases dD.mp hr with hr|hr
   .have:=G.num r hr;lia
   .rw[jb.mp hr];exact rH _
 obtain⟨t6,C6,e6,a6,b6,Pr⟩:=j7 (m:=4) (k:=j+3) Jt (by decide) (by decide)
 by_cases h6:0<t6
 .obtain⟨t7,C7,e7,a7,b7,Ju⟩:=j7 (m:=(os.length:Int)) (k:=j+2) Pr (by lia) (by lia)
  obtain⟨u,hu,_,iu⟩:=Dm (zs:=os) a7 b7
  exact fin u C7 (oo u hu) Ju (by simp only[lM];simp_arith[e6,h6,e7,iu])
 .exact fin y C6 hy Pr.dec (by simp only[lM];simp_arith[e6,h6])
theorem acp{b L:Nat}{many day:Int}{zs pe os:List Str}{ps:List (Str×Str)}{v4 v8:Option Vl}(hP:gn zs ps)(p8:ps.length=8)(pl:2<=pe.length)(XC:pe.length<=20)(pn:pe.Nodup)(pz:∀x∈pe,x∈zs)(d0:0<=day)(d1:day<=99999)(o0:0<os.length)(o1:os.length<=100)(oo:∀y∈os,y∈ps.map (·.1)):∀(its:List au)(lv:List bR)(num:Int)(C:Ce)(j:Nat)(v5 jw jx gr dB:Option Vl),Bl L C b (j+9*its.length)->0<=num->num+60*its.length<=1900->Pq zs (ps.map (·.1)) pe lv num->lv.length+its.length<=100->
  ∃lv' num' C' w5 w12 w13 w14 w15,gC (dz 5) SN its (lM b many zs ps v4 v5 pe day v8 lv num os jw jx gr dB) C=aa (.nx,lM b many zs ps v4 w5 pe day v8 lv' num' os w12 w13 w14 w15,C')/\Pq zs (ps.map (·.1)) pe lv' num'/\lv'.length=lv.length+its.length/\Bl L C' b j
 |[],lv,num,C,j,v5,jw,jx,gr,dB,hB,_,_,G,_=>⟨lv,num,C,v5,jw,jx,gr,dB,rfl,G,rfl,hB⟩
 |d::its,lv,num,C,j,v5,jw,jx,gr,dB,hB,n0,n1,G,ll=>by
  rw[cA] at hB n1 ll
  obtain⟨l1,m1,C1,x12,Jv,Jw,Ca,e1,G1,k1,k2,nY⟩:=anp (C:=C) (many:=many) (v4:=v4) (v5:=aa (.im d)) (v8:=v8) (jw:=jw) (jx:=jx) (gr:=gr) (dB:=dB) (j:=j+9*its.length) (hB.mono (by lia)) hP p8 pl XC pn pz d0 d1 o0 o1 oo n0 (by lia) G (by lia)
  obtain⟨l2,m2,C2,w5,w12,w13,w14,w15,e2,G2,k3,hB2⟩:=acp (many:=many) (v4:=v4) (v8:=v8) hP p8 pl XC pn pz d0 d1 o0 o1 oo its l1 m1 C1 j (aa (.im d)) x12 Jv Jw Ca nY k1.1 (by lia) G1 (by lia)
  refine⟨l2,m2,C2,w5,w12,w13,w14,w15,?_,G2,by rw[cA];lia,hB2⟩
  rw[gC];simp only[lM,dz,Fp,Fq] at e1 e2⊢;simp only[e1,e2]
structure aoT(zs:List Str)(ps:List (Str×Str))(pe:List Str)(lv:List bR)(z:Str)(n day:Int):Prop where
 names:Names zs
 parts:gn zs ps
 p8:ps.length=8
 two:5<=pe.length
 few:pe.length<=17
 asC:pe.Nodup
 Wz:∀x∈pe,x∈zs
 aqy:z∈ps.map (·.1)
 n0:0<=n
 n1:n<=1000000000
 d0:0<=day
 d1:day<=99999
 jE:lv.length<=16
 leaves:∀r∈lv,MN zs (ps.map (·.1)) r/\r.2.1∈pe/\r.2.2.1∈pe
 rise:(lv.map (·.1)).Pairwise (·<·)
abbrev aeN(ps:List (Str×Str))(pe:List Str)(lv:List bR)(z a1 b1:Str)(n day:Int):au:=.tuple [.dict (aL (bF ps)),.list (pe.map .str),.list (lv.map bu),cI z a1 b1 n,.int day]
abbrev sA:Str:=dO "a"
abbrev sZ:Str:=dO "z"
theorem at2(a b:au){k:Int}(h0:0<=k)(h1:k<2):∃x,fG [a,b] k=aa x/\(x=a\/x=b):=by
 have:k=0\/k=1:=by lia
 rcases this with rfl|rfl
 .exact⟨a,Ou _ _,.inl rfl⟩
 .exact⟨b,Ov _ _ _,.inr rfl⟩
theorem anq{C:Ce}{b L j:Nat}{m:Nat}(hB:Bl L C b (j+200))(hm:m<=16):
  ∃(zs:List Str)(ps:List (Str×Str))(pe:List Str)(lv:List bR)(z:Str)(n day:Int)(C':Ce),M4 [.ce b,.im (.int (m:Int))] C=aa (.im (aeN ps pe lv z sA sZ n day),C')/\aoT zs ps pe lv z n day/\Bl L C' b j:=by
 refine hide λGG gg=>?_
 obtain⟨zs,C1,e1,hN,Pn,nY⟩:=ano (j:=j+191) hB
 obtain⟨deep,C2,e2,a2,b2,hB2⟩:=j7 (m:=3) (k:=j+190) nY (by decide) (by decide)
 obtain⟨ps,w5,e3,p8,hP⟩:=aku (C:=C2) (b:=b) (many:=(m:Int)) hN Pn a2 b2
 obtain⟨t4,C4,e4,a4,b4,Js⟩:=j7 (m:=13) (k:=j+189) hB2 (by decide) (by decide)
 obtain⟨k4,hk4⟩:∃k4:Nat,13+t4=((8+(5+k4):Nat):Int):=⟨t4.toNat,by lia⟩
 have ct:=ana dR (xs:=zs) (a:=8) (b:=8+(5+k4)) (by lia) (by lia);rw[<-hk4,show 8+(5+k4)-8=5+k4 by lia] at ct;have ct:lG (zs.map dR) (aa 8) (aa (13+t4))=_:=ct
 obtain⟨pe,hpe⟩:∃pe,pe=(zs.drop 8).take (5+k4):=⟨_,rfl⟩
 rw[<-hpe] at ct;have pl:pe.length=5+k4:=by rw[hpe,xM,Cq];lia
 have pnd:pe.Nodup:=by rw[hpe];exact hN.1.sublist ((Yw _ _).trans (List.drop_sublist _ _))
 have pin:∀x∈pe,x∈zs:=λx hx=>by rw[hpe] at hx;exact Yl (Qe hx)
 obtain⟨t5,C5,e5,a5,b5,Jt⟩:=j7 (m:=100000) (k:=j+188) Js (by decide) (by decide)
 obtain⟨t6,C6,e6,a6,b6,Pr⟩:=j7 (m:=3) (k:=j+187) Jt (by decide) (by decide)
 obtain⟨x6,i6,h6⟩:=at3 (.int 0) (.int 99999) (.int t5) a6 b6
 obtain⟨day,rfl,d0,d1⟩:∃day,x6=.int day/\0<=day/\day<=99999:=by rcases h6 with rfl|rfl|rfl<;>exact⟨_,rfl,by lia,by lia⟩
 obtain⟨t7,C7,e7,a7,b7,Ju⟩:=j7 (m:=8) (k:=j+186) Pr (by decide) (by decide)
 obtain⟨t8,C8,e8,a8,b8,hB8⟩:=j7 (m:=2) (k:=j+185) Ju (by decide) (by decide)
 obtain⟨x8,i8,h8⟩:=at2 (.int 7) (.int t7) a8 b8
 obtain⟨w,rfl,w0,w1⟩:∃w,x8=.int w/\0<=w/\w<8:=by rcases h8 with rfl|rfl<;>exact⟨_,rfl,by lia,by lia⟩
 obtain⟨z,hz,_,iz⟩:=adp hP w0 (by lia)
 obtain⟨t9,C9,e9,a9,b9,hB9⟩:=j7 (m:=3) (k:=j+184) hB8 (by decide) (by decide)
 have pw:rZ (.int 10) (.int 9)=aa (.im (.int 1000000000)):=rfl;have o1:=ab2 (C:=C9) hN hP (by lia) z;have u0:0<(up ps z).length:=by
  obtain⟨q,hq,rfl⟩:=cN.mp hz
  have lk:=(uP (CV hN hP)).mpr (show(q.1,q.2)∈ps from hq);have ov:=MP hN hP q.1;generalize up ps q.1=os at ov;cases ov with
  |stop h=>rw[lk] at h;cases h
  |step _ _=>exact Rr _
 have ul:=V2 ps z
 obtain⟨lv,num,CA,x5,x12,Jv,Jw,Ca,eA,G,lvl,hBA⟩:=acp (many:=(m:Int)) (day:=day) (v4:=aa (.im (.int deep))) (v8:=aa (.im (cI z sA sZ (1000000000-t9)))) hP p8 (by lia) (by lia) pnd pin d0 d1 u0 (by lia) (λy hy=>aoI hN hP hy) (jV 0 m) [] 0 C9 j w5 aj aj aj aj (hB9.mono (by rw[z8];lia)) (by decide) (by rw[z8];lia) ⟨(λ_ h=>nomatch h),xK,(λ_ h=>nomatch h)⟩ (by rw[z8];show 0+m<=100;lia)
 rw[z8] at lvl;refine gg ⟨zs,ps,pe,lv,z,1000000000-t9,day,CA,fM [aa (.ce b),aa (.im (.int (m:Int))),aj,aj,aj,aj,aj,aj,aj,aj,aj,aj,aj,aj,aj,aj] rfl rfl ?_ rfl (hB.eq hBA),⟨hN,hP,p8,by lia,by lia,pnd,pin,hz,by lia,by lia,d0,d1,by rw[lvl];show 0+m<=16;lia,G.ok,G.rise⟩,hBA⟩
 refine(congrArg (zY λp=>(p.1,p.2.2)) (?_:Vr _ C=aa (.rt (.im (aeN ps pe lv z sA sZ (1000000000-t9) day)),[aa (.ce b),aa (.im (.int (m:Int))),aa (.ow (.list (zs.map .str))),aa (.im (.dict (aL (bF ps)))),aa (.im (.int deep)),x5,aa (.im (.list (pe.map .str))),aa (.im (.int day)),aa (.im (cI z sA sZ (1000000000-t9))),aa (.im (.list (lv.map bu))),aa (.im (.int num)),aa (.ow (.list ((up ps z).map .str))),x12,Jv,Jw,Ca],CA))).trans rfl
 refine(eE (e1:=n6 b (m:Int) zs aj aj aj aj aj aj aj aj aj aj aj aj aj) (C1:=C1) ?_).trans ?_
 .simp only[n6];simp_arith[e1]
 refine(eE (e1:=n6 b (m:Int) zs (aa (.ow (.dict []))) (aa (.im (.int deep))) aj aj aj aj aj aj aj aj aj aj aj) (C1:=C2) ?_).trans ?_
 .simp only[n6];simp_arith[vX,e2]
 refine(eE ((wg (HN (k:=8) rfl (by decide) (by decide))).trans e3)).trans ?_
 refine(eE (e1:=n6 b (m:Int) zs (aa (.ow (.dict (aL (bF ps))))) (aa (.im (.int deep))) w5 (aa (.ow (.list (pe.map .str)))) (aa (.im (.int day))) aj aj aj aj aj aj aj aj) (C1:=C6) ?_).trans ?_
 .simp only[n6];simp_arith[gG,gj,iG,lZ,e4,ct,e5,e6,i6]
 refine(eE (e1:=n6 b (m:Int) zs (aa (.ow (.dict (aL (bF ps))))) (aa (.im (.int deep))) w5 (aa (.ow (.list (pe.map .str)))) (aa (.im (.int day))) (aa (.im (cI z sA sZ (1000000000-t9)))) aj aj aj aj aj aj aj) (C1:=C9) ?_).trans ?_
 .simp only[n6];simp_arith[e7,e8,i8,iz,pw,e9]
 refine(eE (e1:=lM b (m:Int) zs ps (aa (.im (.int deep))) w5 pe day (aa (.im (cI z sA sZ (1000000000-t9)))) [] 0 (up ps z) aj aj aj aj) (C1:=C9) ?_).trans ?_
 .simp only[n6,lM,oE];simp_arith[o1]
 refine(eE ((wg (HN (k:=(m:Int)) rfl (by lia) (by lia))).trans eA)).trans ?_
 simp only[lM];simp_arith[]
theorem anr{ws:List Wy}(nd:(ws.map (·.1)).Nodup):∀{n:Int}{p q:Str},(n,p,q)∈ws->uE ws n=aa (p,q):=by
 induction ws with
 |nil=>intro n p q h;cases h
 |cons w ws ih=>
  intro n p q h;rw[ace];rw[cj,je] at nd;rcases bY.mp h with rfl|h
  .rw[aV rfl]
  .rw[bf λe=>nd.1 (cN.mpr ⟨_,h,e.symm⟩)];exact ih nd.2 h
theorem alS{ws:List Wy}(nd:(ws.map (·.1)).Nodup){a b:Str}{r:List Int}(h:gm ws a r b):sy ws a r=aa b:=by
 induction h with
 |nil p=>rfl
 |cons hw _ ih=>rw[sy,anr nd hw,iJ,aV rfl];exact ih
theorem aoU{ws:List Wy}{side:Prop}[Decidable side]{h s:Str}{r:List Int}(ns:¬side)(nd:(ws.map (·.1)).Nodup)(rn:r.Nodup)(R:mV ws h s r):Oz ws side h s r=ao:=by
 unfold Oz;rw[dW ns,cY rn];by_cases k:h=s
 .subst k;have:=mV.unique R (mV.self ws h);rw[aV rfl,this];rfl
 .rw[bf k,alS nd R.1];simp
theorem ant{f:Tb}(hl:f.length<64):tR [.dict (aL (dJ f))]=aa (.ow (.list ((gR strLt (f.map (·.1))).map .str))):=by
 have e:(aL (dJ f)).map (·.1)=(f.map (·.1)).map dR:=by
  unfold aL dJ;rw[cU,cU,cU];rfl
 show((strsOf ((aL (dJ f)).map (·.1))).bind _)=_
 rw[e,Gy,iJ,cY (by rw[bw];exact hl)];rfl
theorem alT{C:Ce}{lv:List bR}(nm:Fb lv)(nd:(lv.map (·.1)).Nodup){r:bR}(hr:r∈lv):jU .one Qw Qx [aa (.im (bu r))] (lv.map bu) C=aa ((Bw lv r.1).map bu,C):=
 pX (T:=.one) (ft:=Qw) (fe:=Qx) (fs:=[aa (.im (bu r))]) (C:=C) bu (λq=>!(q.1==r.1)) bu (l:=lv) λq hq=>⟨[bu q],rfl,by
  have e:=apQ (nm q hq) (nm r hr) (Vt nd q hq r hr);simp_arith[dN,mR,jy,e],λ_=>⟨.im (bu q),_,rfl,rfl⟩⟩
abbrev fJ(b:Nat)(m:Int)(ps:List (Str×Str))(pe:List Str)(lv:List bR)(z a1 b1:Str)(n day:Int)(v7 v8:Option Vl)(ht:iC)(v10 v11 jw jx gr dB iW gk fO:Option Vl):En:=
 [aa (.ce b),aa (.im (.int m)),aa (.im (.dict (aL (bF ps)))),aa (.im (.list (pe.map .str))),aa (.im (.list (lv.map bu))),aa (.im (cI z a1 b1 n)),aa (.im (.int day)),v7,v8,aa (.im (gB ht)),v10,v11,jw,jx,gr,dB,iW,gk,fO]
section
variable{C:Ce}{b:Nat}{m:Int}{v7 v8 v10 iW gk fO:Option Vl}{zs pe:List Str}{ps ps':List (Str×Str)}{rk:List oK}{ru:List yG}{lv:List bR}(hN:Names zs)(hP:gn zs ps)(hG:j0 zs ps ⟨ps',rk,lv,ru⟩){z a1 b1 h:Str}{n day:Int}
include hN hP hG
theorem aoV{fr:Tb}{fw:List (Str×Int)}{s:Str}(ns:nameB s=ao)(M:ur ⟨ps',[],lv,[]⟩ (up ps z) n day a1 b1 h s (cR fr s))(W:wj (Rn ⟨ps',[],lv,[]⟩ (up ps z) day a1 b1 h s) (cg fw s))(dB:Option Vl):
  ∃w15,Qz (fJ b m ps pe lv z a1 b1 n day v7 v8 ⟨ps',rk,lv,ru⟩ v10 (aa (.im (.str h))) (aa (.ow (.dict (aL (dJ fr))))) (aa (.ow (.dict (aL (stL fw))))) (aa (.im (.str s))) dB iW gk fO) C=aa (.nx,fJ b m ps pe lv z a1 b1 n day v7 v8 ⟨ps',rk,lv,ru⟩ v10 (aa (.im (.str h))) (aa (.ow (.dict (aL (dJ fr))))) (aa (.ow (.dict (aL (stL fw))))) (aa (.im (.str s))) w15 iW gk fO,C):=by
 refine hide λGG gg=>?_
 obtain⟨o,e1,r1,r2⟩:=Uz (C:=C) hN hP hG z a1 b1 n day h s
 have eo:cR fr s=o:=M.unique ⟨r1,r2⟩;have g1:=Hr fr s;rw[eo] at g1
 obtain⟨o2,e2,Mo⟩:=ang (C:=C) hN hP hG (z:=z) (a1:=a1) (b1:=b1) (h:=h) (s:=s) (day:=day)
 have eo2:o2=cg fw s:=Mo.unique W;have g2:=Wb (st:=fw) (z:=s);rw[<-eo2] at g2;have ct:lG [dR z,.int n,.str a1,.str b1] (aa 2) aj=[.str a1,.str b1]:=rfl;have Fd:lR 3 [.im (Eu o2),.im (Eu o2)] C=aa (.im (.bool ao),C):=by
  cases o2 with
  |none=>exact same_none 2
  |some k=>exact same_int 2 k
 have gd:((o2.map ie).getD .none)=Eu o2:=by cases o2<;>rfl
 have wf:=z9 hG (up ps z) n day a1 b1;have hU:=Sg hG (up ps z) n day a1 b1;have wnd:((eF ⟨ps',rk,lv,ru⟩ (up ps z) n day a1 b1).map (·.1)).Nodup:=by
  unfold eF;rw[cU];exact List.Nodup.sublist (ahC _ agP) hG.EY
 have third:∀w15:Option Vl,gW (qj (jN (aA (bN (lR 3) (az (bN GD (az (aM 9) (az (aR bI (aH 5) (aA (aO (.int 0)))) (az (gG (aH 5) (gj (aA (aO (.int 2)))) iG) (az (aM 11) (az (aM 14) (az (aM 6) aW))))))) (az (oO (aH 13) (aH 14) (aO .none)) aW)))))) (dX (aO (.bool aF))) iR (fJ b m ps pe lv z a1 b1 n day v7 v8 ⟨ps',rk,lv,ru⟩ v10 (aa (.im (.str h))) (aa (.ow (.dict (aL (dJ fr))))) (aa (.ow (.dict (aL (stL fw))))) (aa (.im (.str s))) w15 iW gk fO) C=aa (.nx,fJ b m ps pe lv z a1 b1 n day v7 v8 ⟨ps',rk,lv,ru⟩ v10 (aa (.im (.str h))) (aa (.ow (.dict (aL (dJ fr))))) (aa (.ow (.dict (aL (stL fw))))) (aa (.im (.str s))) w15 iW gk fO,C):=λw15=>by
  simp only[fJ];cases o2 with
  |none=>
   simp only[Eu] at e2 Fd;simp_arith[gG,gj,iG,lZ,ct,e2,oO,g2,QL,Fd]
  |some k=>
   simp only[Eu] at e2 Fd;simp_arith[gG,gj,iG,lZ,ct,e2,oO,g2,jG,Fd]
 cases o with
 |none=>
  have sm:=ab6 (C:=C) 1 aj (λr e=>nomatch e);simp only[qu,still] at e1 sm;refine gg ⟨aa (.im .none),(eE (e1:=fJ b m ps pe lv z a1 b1 n day v7 v8 ⟨ps',rk,lv,ru⟩ v10 (aa (.im (.str h))) (aa (.ow (.dict (aL (dJ fr))))) (aa (.ow (.dict (aL (stL fw))))) (aa (.im (.str s))) (aa (.im .none)) iW gk fO) (C1:=C) ?_).trans ((eE (e1:=fJ b m ps pe lv z a1 b1 n day v7 v8 ⟨ps',rk,lv,ru⟩ v10 (aa (.im (.str h))) (aa (.ow (.dict (aL (dJ fr))))) (aa (.ow (.dict (aL (stL fw))))) (aa (.im (.str s))) (aa (.im .none)) iW gk fO) (C1:=C) ?_).trans ((eE (third _)).trans ?_))⟩
  .simp only[fJ];simp_arith[oO,g1,QL]
  .simp only[fJ];simp_arith[e1,sm]
  .simp only[fJ];simp_arith[yu,isNone]
 |some r=>
  have nsd:¬((h=a1\/h=b1)\/(s=a1\/s=b1)):=λk=>nomatch r1 k
  have R:=r2 nsd
  obtain⟨rl,rn⟩:=adF (C:=C) wf hU R
  have e3:=alJ (C:=C) hN hP hG z a1 b1 n day h s r rl ns;rw[aoU nsd wnd rn R] at e3;have sm:=ab6 (C:=C) 1 (aa r) (λr' e=>by cases e;lia);simp only[qu,still] at e1 sm;refine gg ⟨aa (.im (.list (r.map .int))),(eE (e1:=fJ b m ps pe lv z a1 b1 n day v7 v8 ⟨ps',rk,lv,ru⟩ v10 (aa (.im (.str h))) (aa (.ow (.dict (aL (dJ fr))))) (aa (.ow (.dict (aL (stL fw))))) (aa (.im (.str s))) (aa (.im (.list (r.map .int)))) iW gk fO) (C1:=C) ?_).trans ((eE (e1:=fJ b m ps pe lv z a1 b1 n day v7 v8 ⟨ps',rk,lv,ru⟩ v10 (aa (.im (.str h))) (aa (.ow (.dict (aL (dJ fr))))) (aa (.ow (.dict (aL (stL fw))))) (aa (.im (.str s))) (aa (.im (.list (r.map .int)))) iW gk fO) (C1:=C) ?_).trans ((eE (third _)).trans ?_))⟩
  .simp only[fJ];simp_arith[oO,g1,jG]
  .simp only[fJ];simp_arith[e1,sm]
  .have nb:Nx (.bool ao) (.bool ao)=aa (.im (.bool aF)):=rfl;simp only[fJ];simp_arith[yu,isNone,e3,nb]
theorem abv{fr:Tb}{fw:List (Str×Int)}(M:∀s,ur ⟨ps',[],lv,[]⟩ (up ps z) n day a1 b1 h s (cR fr s))(W:∀s,wj (Rn ⟨ps',[],lv,[]⟩ (up ps z) day a1 b1 h s) (cg fw s)):∀(ss:List Str)(gr dB:Option Vl),(∀s∈ss,nameB s=ao)->
  ∃w14 w15,gC (dz 14) Qz (ss.map .str) (fJ b m ps pe lv z a1 b1 n day v7 v8 ⟨ps',rk,lv,ru⟩ v10 (aa (.im (.str h))) (aa (.ow (.dict (aL (dJ fr))))) (aa (.ow (.dict (aL (stL fw))))) gr dB iW gk fO) C=aa (.nx,fJ b m ps pe lv z a1 b1 n day v7 v8 ⟨ps',rk,lv,ru⟩ v10 (aa (.im (.str h))) (aa (.ow (.dict (aL (dJ fr))))) (aa (.ow (.dict (aL (stL fw))))) w14 w15 iW gk fO,C)
 |[],gr,dB,_=>⟨gr,dB,rfl⟩
 |s::ss,gr,dB,hn=>by
  obtain⟨Ca,e1⟩:=aoV (C:=C) (b:=b) (m:=m) (pe:=pe) (v7:=v7) (v8:=v8) (v10:=v10) (iW:=iW) (gk:=gk) (fO:=fO) hN hP hG (hn s dg) (M s) (W s) dB
  obtain⟨w14,w15,e2⟩:=abv M W ss (aa (.im (.str s))) Ca λq hq=>hn q (dZ _ hq)
  refine⟨w14,w15,?_⟩
  rw[cj,gC];simp only[fJ,dz,Fp,Fq] at e1 e2⊢;simp only[e1,e2]
open Classical in
theorem alU{fr:Tb}{fw:List (Str×Int)}{s:Str}{r:bR}{xs:List Int}(nm:Fb lv)(hr:r∈lv)(xl:xs.length<=100)(M:ur ⟨ps',[],lv,[]⟩ (up ps z) n day a1 b1 h s (cR fr s))(dB fO:Option Vl):
  ∃w18,Qy (fJ b m ps pe lv z a1 b1 n day v7 v8 ⟨ps',rk,lv,ru⟩ v10 (aa (.im (.str h))) (aa (.ow (.dict (aL (dJ fr))))) (aa (.ow (.dict (aL (stL fw))))) (aa (.im (.str s))) dB (aa (.ow (.list (xs.map .int)))) (aa (.im (bu r))) fO) C=aa (.nx,fJ b m ps pe lv z a1 b1 n day v7 v8 ⟨ps',rk,lv,ru⟩ v10 (aa (.im (.str h))) (aa (.ow (.dict (aL (dJ fr))))) (aa (.ow (.dict (aL (stL fw))))) (aa (.im (.str s))) dB (aa (.ow (.list ((xs++if Cut (eF ⟨ps',rk,lv,ru⟩ (up ps z) n day a1 b1) a1 b1 h s r.1 then[r.1] else[]).map .int)))) (aa (.im (bu r))) w18,C):=by
 have c:=alT (C:=C) nm hG.EY hr;have jE:lv.length<=16:=hG.jE;have bl:(Bw lv r.1).length<=16:=jQ (xu _ _) jE;have q:((Bw lv r.1).length<=1000000)=True:=eq_true (by lia);have nl:=GF (Bw lv r.1)
 obtain⟨f,e1,F⟩:=ajs (C:=C) (ps':=ps') hN hP hG.p8 bl z a1 b1 n day h
 have F:=UJ (F s).1;rw[alO] at F;have M:=UJ M;have i1:=aeM fr s;have i2:=alP f s;generalize Bw lv r.1=bs at c q nl e1;have i0:bI (bu r) (.int 0)=aa (.im (.int r.1)):=rfl
 refine⟨aa (.ow (.dict (aL (dJ f)))),(eE (e1:=fJ b m ps pe lv z a1 b1 n day v7 v8 ⟨ps',rk,lv,ru⟩ v10 (aa (.im (.str h))) (aa (.ow (.dict (aL (dJ fr))))) (aa (.ow (.dict (aL (stL fw))))) (aa (.im (.str s))) dB (aa (.ow (.list (xs.map .int)))) (aa (.im (bu r))) (aa (.ow (.dict (aL (dJ f)))))) (C1:=C) ?_).trans ?_⟩
 .simp only[fJ];simp_arith[c,q,nl,e1]
 have yes:Cut (eF ⟨ps',rk,lv,ru⟩ (up ps z) n day a1 b1) a1 b1 h s r.1↔(cR fr s).isSome=ao/\(cR f s).isSome=aF:=by
  rw[M,ahb,Ne,F]
  exact⟨λk=>⟨⟨k.1,k.2.1⟩,λl=>k.2.2 l.2⟩,λk=>⟨k.1.1,k.1.2,λl=>k.2 ⟨k.1.1,l⟩⟩⟩
 have m0:HF (.list [.int r.1]) (.int 0)=aa (.ow (.list [])):=rfl;have m1:HF (.list [.int r.1]) (.int 1)=aa (.ow (.list [.int r.1])):=rfl;have a0:gq (.list (xs.map .int)) (.list [])=aa (.ow (.list (xs.map .int++[]))):=add_l (by rw[bw];show _+0<=_;lia);have a1':gq (.list (xs.map .int)) (.list [.int r.1])=aa (.ow (.list (xs.map .int++[.int r.1]))):=add_l (by rw[bw];show _+1<=_;lia);have ot:Bb [.bool ao]=aa (.im (.int 1)):=rfl;have of:Bb [.bool aF]=aa (.im (.int 0)):=rfl;simp only[fJ];cases BV:(cR fr s).isSome with
 |false=>
  rw[bf λk=>by rw[yes,BV] at k;exact gw k.1];rw[BV] at i1;simp_arith[lD,i1,of,i0,m0,a0,jd]
 |true=>
  rw[BV] at i1;cases BW:(cR f s).isSome with
  |true=>
   rw[bf λk=>by rw[yes,BW] at k;exact gw k.2.symm];rw[BW] at i2;simp_arith[lD,i1,i2,of,i0,m0,a0,jd]
  |false=>
   rw[aV (yes.mpr ⟨BV,BW⟩)];rw[BW] at i2;simp_arith[lD,i1,i2,ot,i0,m1,a1',jZ]
open Classical in
theorem acq{fr:Tb}{fw:List (Str×Int)}{s:Str}(nm:Fb lv)(M:ur ⟨ps',[],lv,[]⟩ (up ps z) n day a1 b1 h s (cR fr s))(dB:Option Vl):∀(rs:List bR)(xs:List Int)(gk fO:Option Vl),(∀r∈rs,r∈lv)->xs.length+rs.length<=100->
  ∃w17 w18,gC (dz 17) Qy (rs.map bu) (fJ b m ps pe lv z a1 b1 n day v7 v8 ⟨ps',rk,lv,ru⟩ v10 (aa (.im (.str h))) (aa (.ow (.dict (aL (dJ fr))))) (aa (.ow (.dict (aL (stL fw))))) (aa (.im (.str s))) dB (aa (.ow (.list (xs.map .int)))) gk fO) C=aa (.nx,fJ b m ps pe lv z a1 b1 n day v7 v8 ⟨ps',rk,lv,ru⟩ v10 (aa (.im (.str h))) (aa (.ow (.dict (aL (dJ fr))))) (aa (.ow (.dict (aL (stL fw))))) (aa (.im (.str s))) dB (aa (.ow (.list ((xs++(rs.filter λr=>decide (Cut (eF ⟨ps',rk,lv,ru⟩ (up ps z) n day a1 b1) a1 b1 h s r.1)).map (·.1)).map .int)))) w17 w18,C)
 |[],xs,gk,fO,_,_=>⟨gk,fO,by simp only[List.filter_nil,oE,jd];rfl⟩
 |r::rs,xs,gk,fO,hr,hl=>by
  rw[cA] at hl
  obtain⟨XD,e1⟩:=alU (C:=C) (b:=b) (m:=m) (pe:=pe) (v7:=v7) (v8:=v8) (v10:=v10) (fw:=fw) hN hP hG nm (hr r dg) (xs:=xs) (by lia) M dB fO
  obtain⟨w17,w18,e2⟩:=acq (fw:=fw) nm M dB rs (xs++if Cut (eF ⟨ps',rk,lv,ru⟩ (up ps z) n day a1 b1) a1 b1 h s r.1 then[r.1] else[]) (aa (.im (bu r))) XD (λq hq=>hr q (dZ _ hq)) (by
   rw[fU];split
   .show _+1+_<=_;lia
   .show _+0+_<=_;lia)
  refine⟨w17,w18,?_⟩
  have eq:xs++((r::rs).filter λr=>decide (Cut (eF ⟨ps',rk,lv,ru⟩ (up ps z) n day a1 b1) a1 b1 h s r.1)).map (·.1)=(xs++if Cut (eF ⟨ps',rk,lv,ru⟩ (up ps z) n day a1 b1) a1 b1 h s r.1 then[r.1] else[])++(rs.filter λr=>decide (Cut (eF ⟨ps',rk,lv,ru⟩ (up ps z) n day a1 b1) a1 b1 h s r.1)).map (·.1):=by
   rw[JN,lA];by_cases c:Cut (eF ⟨ps',rk,lv,ru⟩ (up ps z) n day a1 b1) a1 b1 h s r.1
   .rw[cY c,aV rfl,aV c];rfl
   .rw[dW c,bf gw,bf c];rfl
  rw[eq,<-e2,cj,gC];simp only[fJ,dz,Fp,Fq] at e1⊢;simp only[e1]
end
theorem aeO{α:Type}(D:α->au)(ys:List α)(k:Nat):∃so:List α,lG (ys.map D) aj (aa (k:Int))=so.map D/\so.length<=k/\∀x∈so,x∈ys:=by
 refine⟨lG ys aj (aa (k:Int)),by unfold lG;rw[bw,ah8,ZV],?_,λx h=>Yl (Qe h)⟩
 unfold lG;rw[xM];show min (HT.cz ys.length ys.length (aa (k:Int))-_) _<=k;rw[HT.Ms];lia
section
variable{b L:Nat}{m:Int}{v7 v8 v10:Option Vl}{zs pe:List Str}{ps ps':List (Str×Str)}{rk:List oK}{ru:List yG}{lv:List bR}(hN:Names zs)(hP:gn zs ps)(hG:j0 zs ps ⟨ps',rk,lv,ru⟩)(xq:j0 zs ps ⟨ps',[],lv,[]⟩)(nm:Fb lv)(p0:0<pe.length)(p1:pe.length<=100)(pz:∀x∈pe,x∈zs)(ri:(lv.map (·.1)).Pairwise (·<·)){z a1 b1:Str}{n day:Int}
include hN hP hG xq
theorem sign_eq{C:Ce}(h:Str):∃(f:Tb)(qs:List Str),zV [.im (.dict (aL (bF ps))),.im (.list (lv.map bu)),.im (cI z a1 b1 n),.im (.str h),.im (.int day)] C=aa (.ow (.dict (aL (dJ f))),C)/\(∀s,ur ⟨ps',[],lv,[]⟩ (up ps z) n day a1 b1 h s (cR f s))/\Gu [.im (gB ⟨ps',rk,lv,ru⟩),.im (cI z a1 b1 n),.im (.str h),.im (.int day)] C=aa (.ow (.list (qs.map .str)),C)/\tR [.dict (aL (dJ f))]=aa (.ow (.list (qs.map .str)))/\qs.length<=61:=by
 obtain⟨f,e1,M,nd⟩:=aaO (C:=C) (ps':=ps') hN hP hG.p8 (show lv.length<=16 from hG.jE) z a1 b1 n day h
 obtain⟨qs,e2,ql,S⟩:=ajq (C:=C) hN hP hG z a1 b1 n day h
 have mem:∀x,x∈f.map (·.1)↔¬(h=a1\/h=b1)/\nW (eF ⟨ps',rk,lv,ru⟩ (up ps z) n day a1 b1) h x:=λx=>by
  rw[<-adt,UJ (M x).1]
  exact⟨λk=>⟨λc=>k.1 (.inl c),k.2⟩,λk=>⟨λc=>c.elim k.1 (acn (ht:=⟨ps',rk,lv,ru⟩) k.1 k.2),k.2⟩⟩
 have fl:f.length<=61:=by
  have wf:=z9 hG (up ps z) n day a1 b1;have:=len_sub (m:=h::(eF ⟨ps',rk,lv,ru⟩ (up ps z) n day a1 b1).map (·.2.2)) nd λp hp=>by
   obtain⟨r,hr⟩:=((mem p).mp hp).2
   have:=hr.HH;generalize r.reverse=r' at this;cases this with
   |nil=>exact dg
   |cons hw _=>exact dZ _ (cN.mpr ⟨_,G4.mp hw,rfl⟩)
  simp only[cA,bw] at this;lia
 have so:=ant (f:=f) (by lia);have S2:Bu (eF ⟨ps',rk,lv,ru⟩ (up ps z) n day a1 b1) (h=a1\/h=b1) h (gR strLt (f.map (·.1))):=⟨f.map (·.1),nd,mem,rfl⟩
 rw[<-S.unique S2] at so
 exact⟨f,qs,e1,λs=>(M s).1,e2,so,ql⟩
include nm p0 p1 pz ri
open Classical in
theorem anu{C:Ce}{j:Nat}(hB:Bl L C b (j+1))(h:Str)(jw jx gr dB iW gk fO:Option Vl):∃w12 w13 w14 w15 w16 w17 w18 C',QB (fJ b m ps pe lv z a1 b1 n day v7 v8 ⟨ps',rk,lv,ru⟩ v10 (aa (.im (.str h))) jw jx gr dB iW gk fO) C=aa (.nx,fJ b m ps pe lv z a1 b1 n day v7 v8 ⟨ps',rk,lv,ru⟩ v10 (aa (.im (.str h))) w12 w13 w14 w15 w16 w17 w18,C')/\Bl L C' b j:=by
 refine hide λGG gg=>?_
 obtain⟨fr,qs,e1,M,e2,so,ql⟩:=sign_eq (C:=C) (z:=z) (a1:=a1) (b1:=b1) (n:=n) (day:=day) hN hP hG xq h
 have sm:=akj (C:=C) 1 qs (by lia)
 obtain⟨fw,e3,W⟩:=akq (C:=C) hN hP xq z a1 b1 n day h
 obtain⟨ss,c9,_,sin⟩:=aeO dR pe 9
 have c9:lG (pe.map dR) aj (aa 9)=ss.map .str:=c9
 obtain⟨w14,w15,e4⟩:=abv (C:=C) (b:=b) (m:=m) (pe:=pe) (v7:=v7) (v8:=v8) (v10:=v10) (iW:=iW) (gk:=gk) (fO:=fO) hN hP hG M W ss gr dB λs hs=>hN.2 s (pz s (sin s hs))
 obtain⟨t,C1,e5,a5,b5,nY⟩:=j7 (m:=(pe.length:Int)) (k:=j) hB (by lia) (by lia)
 obtain⟨s,ms,_,is⟩:=Dm (zs:=pe) a5 b5
 obtain⟨w17,w18,e6⟩:=acq (C:=C1) (b:=b) (m:=m) (pe:=pe) (v7:=v7) (v8:=v8) (v10:=v10) (fw:=fw) hN hP hG nm (M s) w15 lv [] gk fO (λ_ h=>h) (by have:lv.length<=16:=hG.jE;show 0+_<=_;lia)
 rw[jy] at e6
 obtain⟨xs,e7,xl,xp,xm⟩:=alN (C:=C1) hN hP hG z a1 b1 n day h s
 have eq:(lv.filter λr=>decide (Cut (eF ⟨ps',rk,lv,ru⟩ (up ps z) n day a1 b1) a1 b1 h s r.1)).map (·.1)=xs:=by
  refine aoQ (ri.sublist (ahC _ agP)) xp λk=>?_
  rw[xm];constructor
  .intro mk
   obtain⟨r,hr,rfl⟩:=cN.mp mk
   exact of_decide_eq_true (jY.mp hr).2
  .intro c
   obtain⟨w,hw,e⟩:=cN.mp c.num
   obtain⟨r,hr,rfl⟩:=cN.mp hw
   have e:r.1=k:=e;exact cN.mpr ⟨r,jY.mpr ⟨(jY.mp hr).1,cY (by rw[e];exact c)⟩,e⟩
 rw[eq] at e6;have Fd:=same_ints (C:=C1) 1 xs (by lia);refine gg ⟨_,_,_,_,_,_,_,C1,(eE (e1:=fJ b m ps pe lv z a1 b1 n day v7 v8 ⟨ps',rk,lv,ru⟩ v10 (aa (.im (.str h))) (aa (.ow (.dict (aL (dJ fr))))) (aa (.ow (.dict (aL (stL fw))))) gr dB iW gk fO) (C1:=C) ?_).trans ((eE (e1:=fJ b m ps pe lv z a1 b1 n day v7 v8 ⟨ps',rk,lv,ru⟩ v10 (aa (.im (.str h))) (aa (.ow (.dict (aL (dJ fr))))) (aa (.ow (.dict (aL (stL fw))))) gr dB iW gk fO) (C1:=C) ?_).trans ((eE ((wg ?_).trans e4)).trans ((eE (e1:=fJ b m ps pe lv z a1 b1 n day v7 v8 ⟨ps',rk,lv,ru⟩ v10 (aa (.im (.str h))) (aa (.ow (.dict (aL (dJ fr))))) (aa (.ow (.dict (aL (stL fw))))) (aa (.im (.str s))) w15 (aa (.ow (.list []))) gk fO) (C1:=C1) ?_).trans ((eE ((wg ?_).trans e6)).trans (?_:_=aa (Fl.nx,fJ b m ps pe lv z a1 b1 n day v7 v8 ⟨ps',rk,lv,ru⟩ v10 (aa (.im (.str h))) (aa (.ow (.dict (aL (dJ fr))))) (aa (.ow (.dict (aL (stL fw))))) (aa (.im (.str s))) w15 (aa (.ow (.list (xs.map .int)))) w17 w18,C1)))))),nY⟩
 .simp only[fJ];simp_arith[e1,e3]
 .simp only[fJ];simp_arith[e2,so,sm]
 .simp only[fJ];simp_arith[gG,gj,iG,lZ,c9]
 .simp only[fJ];simp_arith[e5,is]
 .rfl
 .simp only[fJ];simp_arith[e7,Fd]
end
theorem aaQ{b L:Nat}{m:Int}{v7 v8 v10:Option Vl}{zs pe:List Str}{ps ps':List (Str×Str)}{rk:List oK}{ru:List yG}{lv:List bR}(hN:Names zs)(hP:gn zs ps)(hG:j0 zs ps ⟨ps',rk,lv,ru⟩)(xq:j0 zs ps ⟨ps',[],lv,[]⟩)(nm:Fb lv)(p0:0<pe.length)(p1:pe.length<=100)(pz:∀x∈pe,x∈zs)(ri:(lv.map (·.1)).Pairwise (·<·)){z a1 b1:Str}{n day:Int}{j:Nat}:∀(hs:List Str)(C:Ce)(v11 jw jx gr dB iW gk fO:Option Vl),Bl L C b (j+hs.length)->
  ∃w11 w12 w13 w14 w15 w16 w17 w18 C',gC (dz 11) QB (hs.map .str) (fJ b m ps pe lv z a1 b1 n day v7 v8 ⟨ps',rk,lv,ru⟩ v10 v11 jw jx gr dB iW gk fO) C=aa (.nx,fJ b m ps pe lv z a1 b1 n day v7 v8 ⟨ps',rk,lv,ru⟩ v10 w11 w12 w13 w14 w15 w16 w17 w18,C')/\Bl L C' b j
 |[],C,v11,jw,jx,gr,dB,iW,gk,fO,hB=>⟨v11,jw,jx,gr,dB,iW,gk,fO,C,rfl,hB⟩
 |h::hs,C,v11,jw,jx,gr,dB,iW,gk,fO,hB=>by
  rw[cA] at hB
  obtain⟨x12,Jv,Jw,Ca,x16,x17,XD,C1,e1,nY⟩:=anu (C:=C) (j:=j+hs.length) (m:=m) (v7:=v7) (v8:=v8) (v10:=v10) (z:=z) (a1:=a1) (b1:=b1) (n:=n) (day:=day) hN hP hG xq nm p0 p1 pz ri hB h jw jx gr dB iW gk fO
  obtain⟨w11,w12,w13,w14,w15,w16,w17,w18,C2,e2,hB2⟩:=aaQ (m:=m) (v7:=v7) (v8:=v8) (v10:=v10) (z:=z) (a1:=a1) (b1:=b1) (n:=n) (day:=day) hN hP hG xq nm p0 p1 pz ri hs C1 (aa (.im (.str h))) x12 Jv Jw Ca x16 x17 XD nY
  refine⟨w11,w12,w13,w14,w15,w16,w17,w18,C2,?_,hB2⟩
  rw[cj,gC];simp only[fJ,dz,Fp,Fq] at e1 e2⊢;simp only[e1,e2]
def vA(pe qs:List Str)(k:Nat):oK:=((k:Int),(pe[k%5]?).getD (dO ""),1+(k:Int)%9,(qs[k%8]?).getD (dO ""),0,99999)
theorem anv(n:Nat):jV 0 n=(fP n).map λ(i:Nat)=>ie (i:Int):=by
 unfold jV;refine uI λi _=>?_
 rw[aad]
theorem aju{C:Ce}{pe qs:List Str}{ps:List (Str×Str)}(pl:5<=pe.length)(ql:qs.length=8)(so:tR [.dict (aL (bF ps))]=aa (.ow (.list (qs.map .str)))):jU .one iZ QC [aa (.im (.list (pe.map .str))),aa (.im (.dict (aL (bF ps))))] (jV 0 20) C=aa (((fP 20).map (vA pe qs)).map kJ,C):=by
 rw[anv];have:=pX (T:=.one) (ft:=iZ) (fe:=QC) (fs:=[aa (.im (.list (pe.map .str))),aa (.im (.dict (aL (bF ps))))]) (C:=C) (λ(i:Nat)=>ie (i:Int)) (λ_=>ao) (λ(k:Nat)=>kJ (vA pe qs k)) (l:=fP 20) λk _=>by
  obtain⟨x,_,hx,ix⟩:=yo (zs:=pe) (k:=k%5) (by lia)
  obtain⟨y,_,hy,iy⟩:=yo (zs:=qs) (k:=k%8) (by lia)
  rw[show((k%5:Nat):Int)=(k:Int)%5 by lia] at ix;rw[show((k%8:Nat):Int)=(k:Int)%8 by lia] at iy;have m5:=mod_eq (i:=(k:Int)) (j:=5) (by decide);have m9:=mod_eq (i:=(k:Int)) (j:=9) (by decide);have m8:=mod_eq (i:=(k:Int)) (j:=8) (by decide)
  refine⟨[.int (k:Int)],rfl,rfl,λ_=>⟨.im (kJ (vA pe qs k)),[aa (.im (.int (k:Int))),aa (.im (.list (pe.map .str))),aa (.im (.dict (aL (bF ps))))],?_,rfl⟩⟩
  unfold vA kJ;rw[hx,hy];simp_arith[dN,mR,jy,m5,ix,m9,so,m8,iy,zE]
 rw[JF.mpr λ_ _=>rfl] at this;rw[cU];exact this
theorem adG{α:Type}(D:α->au)(l:List α)(hl:l≠[]){t:Int}(h0:0<=t)(h1:t<2):∃l',(l'=[]\/l'=l)/\DY (.tuple (l.map D)) (.int t)=aa (.im (.tuple (l'.map D))):=by
 cases l with
 |nil=>exact absurd rfl hl
 |cons x l=>
  have:t=0\/t=1:=by lia
  rcases this with rfl|rfl
  .exact⟨[],.inl rfl,rfl⟩
  .exact⟨x::l,.inr rfl,rfl⟩
theorem akv{zs pe qs:List Str}{ps ps':List (Str×Str)}{rk:List oK}{ru:List yG}{lv:List bR}{z q:Str}(hG:j0 zs ps ⟨ps',[],lv,[]⟩)(p8:ps.length=8)(pl:5<=pe.length)(pz:∀x∈pe,x∈zs)(qp:qs.Perm (ps.map (·.1)))(hz:z∈ps.map (·.1))(hq:q∈qs)(h1:rk=[]\/rk=(fP 20).map (vA pe qs))(h2:ru=[]\/ru=[(z,0,[(9,dO ""),(1,q)])]):j0 zs ps ⟨ps',rk,lv,ru⟩:=by
 have ql:qs.length=8:=by rw[qp.length_eq,bw];exact p8
 refine⟨hG.parts,hG.p8,?_,hG.jE,?_,λr hr=>?_,?_,hG.leaves,hG.EY,λr hr=>?_,?_⟩
 .rcases h1 with rfl|rfl
  .exact kI _
  .show((fP 20).map (vA pe qs)).length<=20
   rw[bw,ou];exact bU _
 .rcases h2 with rfl|rfl
  .exact kI _
  .show 1<=10;decide
 .rcases h1 with rfl|rfl
  .nomatch hr
  .obtain⟨k,hk,rfl⟩:=cN.mp (show r∈(fP 20).map (vA pe qs) from hr)
   have hk:=uL.mp hk
   obtain⟨x,mx,hx,_⟩:=yo (zs:=pe) (k:=k%5) (by lia)
   obtain⟨y,my,hy,_⟩:=yo (zs:=qs) (k:=k%8) (by lia)
   unfold vA;rw[hx,hy]
   exact⟨⟨by show 0<=(k:Int);lia,by show(k:Int)<=2000;lia⟩,pz x mx,⟨by show 1<=1+(k:Int)%9;lia,by show 1+(k:Int)%9<=9;lia⟩,qp.mem_iff.mp my,by show(0:Int)<=0/\(0:Int)<=99999/\(99999:Int)<=99999;decide⟩
 .rcases h1 with rfl|rfl
  .exact xK
  .show(((fP 20).map (vA pe qs)).map (·.1)).Pairwise (·<·)
   rw[cU,ahf];refine List.pairwise_lt_range.imp λ{a b} h=>?_
   show(a:Int)<(b:Int)
   lia
 .rcases h2 with rfl|rfl
  .nomatch hr
  .rw[jb.mp hr]
   refine⟨hz,⟨by show(0:Int)<=0;decide,by show(0:Int)<=1000000000;decide⟩,by show 2<=6;decide,λs hs=>?_⟩
   rcases bY.mp hs with rfl|hs
   .exact⟨by decide,by decide,.inl rfl⟩
   .rw[jb.mp hs]
    exact⟨by show(1:Int)<=1;decide,by show(1:Int)<=9;decide,.inr (qp.mem_iff.mp hq)⟩
 .rcases h2 with rfl|rfl
  .exact mj
  .exact je.mpr ⟨oA,mj⟩
abbrev qC(b:Nat)(m:Int)(ps:List (Str×Str))(pe:List Str)(lv:List bR)(z a1 b1:Str)(n day:Int)(v7 v8 v9 v10:Option Vl):En:=
 [aa (.ce b),aa (.im (.int m)),aa (.im (.dict (aL (bF ps)))),aa (.im (.list (pe.map .str))),aa (.im (.list (lv.map bu))),aa (.im (cI z a1 b1 n)),aa (.im (.int day)),v7,v8,v9,v10,aj,aj,aj,aj,aj,aj,aj,aj]
theorem alV{C:Ce}{b L j m:Nat}(hB:Bl L C b (j+300))(hm:m<=16):∃C',vI [.ce b,.im (.int (m:Int))] C=aa (.im (.bool ao),C'):=by
 refine hide λGG gg=>?_
 obtain⟨zs,ps,pe,lv,z,n,day,C1,e1,K,nY⟩:=anq (j:=j+100) hB hm
 have k1:=K.two;have k2:=K.few;have p8:=K.p8
 obtain⟨qs,qp,so⟩:=aiA ps (by lia)
 have ql:qs.length=8:=by rw[qp.length_eq,bw];exact p8
 obtain⟨q,mq,_,iq⟩:=yo (zs:=qs) (k:=0) (by lia)
 have iq:fG (qs.map dR) 0=aa (.str q):=iq;have rc:=aju (C:=C1) k1 ql so
 obtain⟨sY,hrk⟩:∃sY,sY=(fP 20).map (vA pe qs):=⟨_,rfl⟩
 rw[<-hrk] at rc;have rl:sY.length=20:=by rw[hrk,bw,ou]
 have rq:(sY.length<=1000000)=True:=eq_true (by lia);have nl:fQ (sY.map kJ)=ao:=vZ (λ_=>rfl) _
 obtain⟨ps',p1,e4⟩:=aiP (C:=C1) (ps:=ps) (by lia) (by lia) lv
 have xq:j0 zs ps ⟨ps',[],lv,[]⟩:=aoJ p1 (by lia) K.jE (λr h=>(K.leaves r h).1) (K.rise.imp λh=>aac h)
 obtain⟨t1,C2,e5,a5,b5,hB2⟩:=j7 (m:=2) (k:=j+99) nY (by decide) (by decide)
 obtain⟨t2,C3,e6,a6,b6,hB3⟩:=j7 (m:=2) (k:=j+98) hB2 (by decide) (by decide)
 obtain⟨rk,h1,m1⟩:=adG kJ sY (λk=>by rw[k] at rl;cases rl) a5 b5
 obtain⟨ru,h2,m2⟩:=adG Bd [(z,0,[(9,dO ""),(1,q)])] (λk=>nomatch k) a6 b6
 have m2:DY (.tuple [.tuple [.str z,.int 0,.tuple [.tuple [.int 9,.str (dO "")],.tuple [.int 1,.str q]]]]) (.int t2)=aa (.im (.tuple (ru.map Bd))):=m2;rw[hrk] at h1;have hG:=akv (rk:=rk) (ru:=ru) xq p8 k1 K.Wz qp K.aqy mq h1 h2;have nm:Fb lv:=λr h=>⟨K.names.2 _ (K.leaves r h).1.giver,K.names.2 _ (K.leaves r h).1.taker,aaE K.names K.parts (K.leaves r h).1.part⟩
 obtain⟨ys,C4,e7,_,Js⟩:=akl (C:=C3) (b:=b) (L:=L) (j:=j+50) (pe:=pe) (λz hz=>K.names.2 z (K.Wz z hz)) (by lia) (hB3.mono (by lia))
 obtain⟨ss,c8,sl,_⟩:=aeO dR ys 4
 have c8:lG (ys.map dR) aj (aa 4)=ss.map .str:=c8
 obtain⟨w11,w12,w13,w14,w15,w16,w17,w18,C5,e8,Jt⟩:=aaQ (m:=(m:Int)) (v7:=aa (.im (.tuple [.tuple [.int 9,.str (dO "")],.tuple [.int 1,.str q]]))) (v8:=aa (.ow (.list (sY.map kJ)))) (v10:=aa (.im (.list (ss.map .str)))) (z:=z) (a1:=sA) (b1:=sZ) (n:=n) (day:=day) (j:=j) K.names K.parts hG xq nm (by lia) (by lia) K.Wz K.rise ss C4 aj aj aj aj aj aj aj aj (Js.mono (by lia))
 refine gg ⟨C5,fM [aa (.ce b),aa (.im (.int (m:Int))),aj,aj,aj,aj,aj,aj,aj,aj,aj,aj,aj,aj,aj,aj,aj,aj,aj] rfl rfl ?_ rfl (hB.eq Jt)⟩
 refine(congrArg (zY λp=>(p.1,p.2.2)) (?_:Rj _ C=aa (.rt (.im (.bool ao)),fJ b (m:Int) ps pe lv z sA sZ n day (aa (.im (.tuple [.tuple [.int 9,.str (dO "")],.tuple [.int 1,.str q]]))) (aa (.ow (.list (sY.map kJ)))) ⟨ps',rk,lv,ru⟩ (aa (.im (.list (ss.map .str)))) w11 w12 w13 w14 w15 w16 w17 w18,C5))).trans rfl
 refine(eE (e1:=qC b (m:Int) ps pe lv z sA sZ n day aj aj aj aj) (C1:=C1) ?_).trans ?_
 .simp only[qC];simp_arith[e1]
 refine(eE (e1:=qC b (m:Int) ps pe lv z sA sZ n day (aa (.im (.tuple [.tuple [.int 9,.str (dO "")],.tuple [.int 1,.str q]]))) aj aj aj) (C1:=C1) ?_).trans ?_
 .simp only[qC];simp_arith[so,iq,vO]
 refine(eE (e1:=qC b (m:Int) ps pe lv z sA sZ n day (aa (.im (.tuple [.tuple [.int 9,.str (dO "")],.tuple [.int 1,.str q]]))) (aa (.ow (.list (sY.map kJ)))) aj aj) (C1:=C1) ?_).trans ?_
 .simp only[qC];simp_arith[qy,W6 (m:=20) (by decide) (by decide),show(20:Int).toNat=20 from rfl,rc,rq,nl]
 refine(eE (e1:=qC b (m:Int) ps pe lv z sA sZ n day (aa (.im (.tuple [.tuple [.int 9,.str (dO "")],.tuple [.int 1,.str q]]))) (aa (.ow (.list (sY.map kJ)))) (aa (.im (gB ⟨ps',[],lv,[]⟩))) aj) (C1:=C1) ?_).trans ?_
 .simp only[qC];simp_arith[e4,am9]
 refine(eE (e1:=qC b (m:Int) ps pe lv z sA sZ n day (aa (.im (.tuple [.tuple [.int 9,.str (dO "")],.tuple [.int 1,.str q]]))) (aa (.ow (.list (sY.map kJ)))) (aa (.im (gB ⟨ps',rk,lv,ru⟩))) aj) (C1:=C3) ?_).trans ?_
 .simp only[qC];simp_arith[vO,e5,m1,e6,m2];rfl
 refine(eE (e1:=qC b (m:Int) ps pe lv z sA sZ n day (aa (.im (.tuple [.tuple [.int 9,.str (dO "")],.tuple [.int 1,.str q]]))) (aa (.ow (.list (sY.map kJ)))) (aa (.im (gB ⟨ps',rk,lv,ru⟩))) (aa (.ow (.list (ss.map .str))))) (C1:=C4) ?_).trans ?_
 .simp only[qC];simp_arith[e7,gG,gj,iG,lZ,c8]
 refine(eE ((wg ?_).trans e8)).trans ?_
 .rfl
 .rfl
theorem acr{ns:List Int}{m:Nat}{k:Int}(k0:0<=k)(k1:k<=5)(hm:m<=16):yI vI (bN vH (az (aM 0) (az (aO (.int k)) aW))) (az (aO (.int (m:Int))) aW) [aa (.sc ns)] []=aa (.im (.bool ao),[aa (.sc ns)],[]):=by
 obtain⟨x,y,hb,x0⟩:=alx (C:=[]) (ns:=ns) (k:=k) (by lia) (by lia)
 have hB:=aoA (y:=y) [] x0
 obtain⟨C',e⟩:=alV (j:=799700) hB hm
 have a0:bN vH (az (aM 0) (az (aO (.int k)) aW)) [aa (.sc ns)] []=aa (.ow (.list [.int x,.int y,.int 0]),[aa (.sc ns)],[]):=by simp_arith[hb]
 have e:vI [.ce 0,.im (.int (m:Int))] [[x,y,0]]=aa (.im (.bool ao),C'):=e;unfold yI;rw[a0];simp_arith[intsOf,jy,e,wG,Zo]
theorem alW(ns:List Int)(h:ns.length<=63):∃C',Ih [.sc ns] []=aa (.im (.bool ao),C'):=by
 have r1:=acr (ns:=ns) (m:=16) (k:=0) (by decide) (by decide) (by decide);have r2:=acr (ns:=ns) (m:=5) (k:=1) (by decide) (by decide) (by decide);have r1:yI vI (bN vH (az (aM 0) (az (aO (.int 0)) aW))) (az (aO (.int 16)) aW) [aa (.sc ns)] []=_:=r1;have r2:yI vI (bN vH (az (aM 0) (az (aO (.int 1)) aW))) (az (aO (.int 5)) aW) [aa (.sc ns)] []=_:=r2
 refine⟨[],fM [aa (.sc ns)] rfl rfl ?_ rfl rfl⟩
 simp_arith[Ww,lD,↓r1,↓r2]
theorem all_mk{l:Y6}{w:bB}{K:aJ}{h:bz}{mg:Str->Option Value}{fa:aq}{cu:Tok}(X:K.In h)(G:h.Ns iK mg)(hfa:mg "law"=aa (.ref fa))
  (d0:fW K "parts_over" Kg)
  (d1:fW K "row_of" Uw)
  (d2:fW K "signers_of" Kh)
  (d3:fW K "leaves_in_all" JR)
  (d4:fW K "is_needed" Kz)
  (d5:fW K "is_side" Tt)
  (d6:fW K "ways_on" Ln)
  (d7:fW K "first_row" RM)
  (d8:fW K "nearer_way" Kl)
  (d9:fW K "steps_to" K9)
  (d10:fW K "is_number" RN)
  (d11:fW K "is_rising" KC)
  (d12:fW K "is_row" Mq)
  (d13:fW K "are_unlike_numbers" Jz)
  (d14:fW K "last_taker" Rt)
  (d15:fW K "most_of" Tu)
  (d16:fW K "sums_to_try" J5)
  (d17:fW K "_law_mix" V7)
  (d18:fW K "_law_drawn_from" Rb)
  (d19:fW K "_law_pick" Vn)
  (d20:fW K "_law_same" Hq)
  (d21:fW K "_law_shuffled" RP)
  (d22:fW K "_law_parts_over" Rc)
  (d23:fW K "_law_house_of" RQ)
  (d24:fW K "_law_lets" Vo)
  (d25:fW K "_law_all_rows" KD)
  (d26:fW K "_law_widest_of" Km)
  (d27:fW K "_law_long_names" J6)
  (d28:fW K "_law_full" Vp)
  (d29:fW K "_law_full_right" Gm)
  (d30:fW K "law" Wu)
  (Oc:oZ K iK "abs"=aa aj)
  (Ib:oZ K iK "all"=aa aj)
  (Ea:oZ K iK "bool"=aa aj)
  (Em:oZ K iK "int"=aa aj)
  (nq:oZ K iK "isinstance"=aa aj)
  (pK:oZ K iK "len"=aa aj)
  (Ak:oZ K iK "list"=aa aj)
  (Wv:oZ K iK "max"=aa aj)
  (Ie:oZ K iK "min"=aa aj)
  (vQ:oZ K iK "range"=aa aj)
  (tM:oZ K iK "sorted"=aa aj)
  (Ig:oZ K iK "str"=aa aj)
  (vR:oZ K iK "tuple"=aa aj)
  (Od:oZ K iK "zip"=aa aj)
  (ahT:oZ K iK "GREATEST_SUM"=aa (aa (.int 1000000000 cu)))
  :∃fd:dF,(∀(s:aB)(v:Value),Aa s fd ⟨[v],[]⟩ [("_law_script",v)])/\∀base:bz,K.In base->base.Ns iK mg->dw l.prog w K mg base eG 6 fa fd ["_law_script"] (spT K Ih):=by
 have T:Txt K mg cu:=⟨qH X G Oc,qH X G Ib,qH X G Ea,qH X G Em,qH X G nq,qH X G pK,qH X G Ak,qH X G Wv,qH X G Ie,qH X G vQ,qH X G tM,qH X G Ig,qH X G vR,qH X G Od,Ra X G ahT⟩
 refine d30.law X G hfa (λbase f fd F=>?_) (λ_ _ _ _ _ _=>(bQ λ_=>(iH rfl)));have Ry:=d0.has X G (λf fd F=>ah2 (P:=l.prog) (w:=w) (base:=base) F T) (λ_ _ _ _ _ _=>(bQ λ_=>(bQ λ_=>(iH rfl))));have o9:=d5.has X G (λf fd F=>ajn (P:=l.prog) (w:=w) (base:=base) F T) (λ_ _ _ _ _ _=>(bQ λ_=>(bQ λ_=>(iH rfl))));have rO:=d6.has X G (λf fd F=>ajo (P:=l.prog) (w:=w) (base:=base) F T Ry o9) (λ_ _ _ _ _ _=>(bQ λ_=>(bQ λ_=>(bQ λ_=>(iH rfl)))));have Dg:=d9.has X G (λf fd F=>aiN (P:=l.prog) (w:=w) (base:=base) F T) (λ_ _ _ _ _ _=>(bQ λ_=>(bQ λ_=>(iH rfl))));have Rz:=d8.has X G (λf fd F=>ah3 (P:=l.prog) (w:=w) (base:=base) F T) (λ_ _ _ _ _ _=>(bQ λ_=>(bQ λ_=>(bQ λ_=>(iH rfl)))));have CZ:=d7.has X G (λf fd F=>ait (P:=l.prog) (w:=w) (base:=base) F T Dg Rz) (λ_ _ _ _ _ _=>(bQ λ_=>(bQ λ_=>(bQ λ_=>(iH rfl)))));have vM:=d1.has X G (λf fd F=>akf (P:=l.prog) (w:=w) (base:=base) F T o9 rO CZ) (λ_ _ _ _ _ _=>(bQ λ_=>(bQ λ_=>(bQ λ_=>(bQ λ_=>(bQ λ_=>(iH rfl)))))));have R4:=d4.has X G (λf fd F=>aiu (P:=l.prog) (w:=w) (base:=base) F T CZ) (λ_ _ _ _ _ _=>(bQ λ_=>(bQ λ_=>(bQ λ_=>(bQ λ_=>(iH rfl))))));have QK:=d3.has X G (λf fd F=>ahB (P:=l.prog) (w:=w) (base:=base) F T rO vM R4) (λ_ _ _ _ _ _=>(bQ λ_=>(bQ λ_=>(bQ λ_=>(bQ λ_=>(bQ λ_=>(iH rfl)))))));have RC:=d2.has X G (λf fd F=>ah4 (P:=l.prog) (w:=w) (base:=base) F T o9 rO Dg) (λ_ _ _ _ _ _=>(bQ λ_=>(bQ λ_=>(bQ λ_=>(bQ λ_=>(iH rfl))))));have R7:=d10.has X G (λf fd F=>aiv (P:=l.prog) (w:=w) (base:=base) F T) (λ_ _ _ _ _ _=>(bQ λ_=>(iH rfl)));have R8:=d11.has X G (λf fd F=>aiw (P:=l.prog) (w:=w) (base:=base) F T) (λ_ _ _ _ _ _=>(bQ λ_=>(iH rfl)));have Qg:=d13.has X G (λf fd F=>agE (P:=l.prog) (w:=w) (base:=base) F T R7 R8) (λ_ _ _ _ _ _=>(bQ λ_=>(iH rfl)));have RB:=d14.has X G (λf fd F=>ah5 (P:=l.prog) (w:=w) (base:=base) F T) (λ_ _ _ _ _ _=>(bQ λ_=>(bQ λ_=>(bQ λ_=>(iH rfl)))));have Ux:=d12.has X G (λf fd F=>akg (P:=l.prog) (w:=w) (base:=base) F T o9 rO Qg RB) (λ_ _ _ _ _ _=>(bQ λ_=>(bQ λ_=>(bQ λ_=>(bQ λ_=>(bQ λ_=>(bQ λ_=>(iH rfl))))))));have Rk:=d16.has X G (λf fd F=>ahO (P:=l.prog) (w:=w) (base:=base) F T) (λ_ _ _ _ _ _=>(bQ λ_=>(iH rfl)));have Tz:=d15.has X G (λf fd F=>ajp (P:=l.prog) (w:=w) (base:=base) F T vM Rk) (λ_ _ _ _ _ _=>(bQ λ_=>(bQ λ_=>(bQ λ_=>(bQ λ_=>(bQ λ_=>(bQ λ_=>(iH rfl))))))));have Ny:=d17.has X G (λf fd F=>am4 (P:=l.prog) (w:=w) (base:=base) F T) (λ_ _ _ _ _ _=>(bQ λ_=>(bQ λ_=>(iH rfl))));have J9:=d18.has X G (λf fd F=>ahP (P:=l.prog) (w:=w) (base:=base) F T) (λ_ _ _ _ _ _=>(bQ λ_=>(bQ λ_=>(iH rfl))));have ir:=d19.has X G (λf fd F=>als (P:=l.prog) (w:=w) (base:=base) F T Ny) (λ_ _ _ _ _ _=>(bQ λ_=>(bQ λ_=>(iH rfl))));have ym:=d20.aqx X G (λf fd hm hk hb F=>abi (P:=l.prog) (w:=w) (base:=base) hm hk hb F T 3) (λ_ _ _ _ _ _=>(bQ λ_=>(bQ λ_=>(iH rfl))));have R9:=d21.has X G (λf fd F=>aix (P:=l.prog) (w:=w) (base:=base) F T ir) (λ_ _ _ _ _ _=>(bQ λ_=>(bQ λ_=>(iH rfl))));have CP:=d22.has X G (λf fd F=>ahQ (P:=l.prog) (w:=w) (base:=base) F T) (λ_ _ _ _ _ _=>(bQ λ_=>(bQ λ_=>(iH rfl))));have Sd:=d23.has X G (λf fd F=>aiy (P:=l.prog) (w:=w) (base:=base) F T) (λ_ _ _ _ _ _=>(bQ λ_=>(bQ λ_=>(iH rfl))));have Dy:=d24.has X G (λf fd F=>alv (P:=l.prog) (w:=w) (base:=base) F T CP) (λ_ _ _ _ _ _=>(bQ λ_=>(bQ λ_=>(bQ λ_=>(bQ λ_=>(iH rfl))))));have K3:=d25.has X G (λf fd F=>aiz (P:=l.prog) (w:=w) (base:=base) F T Dy) (λ_ _ _ _ _ _=>(bQ λ_=>(bQ λ_=>(bQ λ_=>(bQ λ_=>(bQ λ_=>(iH rfl)))))));have RG:=d26.has X G (λf fd F=>ah6 (P:=l.prog) (w:=w) (base:=base) F T Dy) (λ_ _ _ _ _ _=>(bQ λ_=>(bQ λ_=>(bQ λ_=>(bQ λ_=>(bQ λ_=>(iH rfl)))))));have Rm:=d27.has X G (λf fd F=>ahR (P:=l.prog) (w:=w) (base:=base) F T ir) (λ_ _ _ _ _ _=>(bQ λ_=>(bQ λ_=>(iH rfl))));have Vs:=d28.has X G (λf fd F=>alw (P:=l.prog) (w:=w) (base:=base) F T ir CP Rm) (λ_ _ _ _ _ _=>(bQ λ_=>(bQ λ_=>(iH rfl))));have Ka:=d29.has X G (λf fd F=>ahS (P:=l.prog) (w:=w) (base:=base) F T vM QK RC Ux Tz ir ym R9 Sd K3 RG Vs) (λ_ _ _ _ _ _=>(bQ λ_=>(bQ λ_=>(iH rfl))));exact aoH F T J9 Ka
theorem walk{l:Y6}{q:bD}{loose:List Str}{XP:(Str->Option Value)->bz->Prop}{YP:bB->bz->Prop}{d:DefRec}{K:Params->aJ}(hn:l.most=aa 63)(hdf:d.params.defaults=[])
  (hY:∀(w:bB)(h:bz),YP w h->(K w.params).In h)
  (F:∀(w:bB)(mg:Str->Option Value)(fa:aq)(h:bz),(K w.params).In h->h.Ns iK mg->mg d.name=aa (.ref fa)->
   ∃fd:dF,(∀(s:aB)(u:Value),Aa s fd ⟨[u],[]⟩ [("_law_script",u)])/\∀base:bz,(K w.params).In base->base.Ns iK mg->dw l.prog w (K w.params) mg base eG 6 fa fd ["_law_script"] (spT (K w.params) Ih)):
  ahV q loose XP YP l.row.toRowW d [] (λf vs=>aau f vs):=
 L2.amd (n:=63) (k:=6) (x:="_law_script") (CX:=λ_=>eG) (sp:=λw=>spT (K w.params) Ih) hn (by decide) hdf ⟨rfl,by decide,by decide,rfl⟩ hY F (λ_ _ a ns hl _ hS=>let ⟨_,h⟩:=alW ns hl;aoo hS h) λ_ _ _ _ _ z=>z
end Xy
namespace PySem.W.Fast
def tw10190794844509297252:=0
def tw10417737473050439869:=0
def tw10530275270315525463:=0
def tw11007876191838064472:=0
def tw11189506556774149811:=0
def tw11405993784882848524:=0
def tw11769004084779461481:=0
def tw11937797933839141339:=0
def tw12444582205464762792:=0
def tw12505482866067955170:=0
def tw13155557081645879420:=0
def tw13187653186202078952:=0
def tw13711823887309771575:=0
def tw13724390881723628098:=0
def tw13746750443573068290:=0
def tw14807250729010455301:=0
def tw14853747974423691811:=0
def tw15135333482279029488:=0
def tw1532070130075896023:=0
def tw15586723145283390834:=0
def tw15632658396527061033:=0
def tw16070778635227405308:=0
def tw16221903926975341749:=0
def tw16323080503183049828:=0
def tw16506565946338016695:=0
def tw16905903308169465016:=0
def tw16932627083884956958:=0
def tw17058319764299913469:=0
def tw17427186394183315041:=0
def tw18435397953349946280:=0
def tw1902143295559557405:=0
def tw2066848885452121821:=0
def tw2556305855022671715:=0
def tw2573379106407126035:=0
def tw2827312241262057280:=0
def tw3148613540725771339:=0
def tw4226960568798137987:=0
def tw4448745801993794992:=0
def tw4518020543553194577:=0
def tw4672717684847835719:=0
def tw4784613981173559903:=0
def tw5323823252107792974:=0
def tw5915537514352215056:=0
def tw6214127695876007170:=0
def tw6641957525823651928:=0
def tw6882005367638839060:=0
def tw6913529626010328848:=0
def tw717040663198313413:=0
def tw7553734040615044495:=0
def tw7664867565933168510:=0
def tw7931032702381425778:=0
def tw8120765577496239654:=0
def tw843413974290307700:=0
def tw8462792607362754542:=0
def tw8593281191998774714:=0
def tw8796134528716592010:=0
def tw904507072928881103:=0
def tw9048143418018416504:=0
def tw9568607227790955810:=0
def tw9730555819263756013:=0
def tw9740210350883661872:=0
def tw979279415991534989:=0
def tw982850714592924295:=0
end PySem.W.Fast
open PySem PySem.W PyProof.Rows
set_option maxRecDepth 100000 in
set_option maxHeartbeats 0 in
theorem PySem.Challenge.cw_rankseals_k24_sixteen_leaves_holds : PySem.Challenge.rw_rankseals_k24_sixteen_leaves.Holds := by
 w_on;o_law;k_head;(case hw=>w_witness2)
 k_fill
 refine Xy.walk (l:=PySem.Challenge.rw_rankseals_k24_sixteen_leaves) rfl rfl (λw h Y=>PySem.W.kIn_of Y) ?F
 case F=>
  intro w mg fa h KX G hmg
  refine' Xy.all_mk KX G hmg ?_ ?_ ?_ ?_ ?_ ?_ ?_ ?_ ?_ ?_ ?_ ?_ ?_ ?_ ?_ ?_ ?_ ?_ ?_ ?_ ?_ ?_ ?_ ?_ ?_ ?_ ?_ ?_ ?_ ?_ ?_ ?_ ?_ ?_ ?_ ?_ ?_ ?_ ?_ ?_ ?_ ?_ ?_ ?_ ?_ ?_
  all_goals try first|exact .mk (by k_is) (by k_is) (by k_is) (by k_is)|k_is
