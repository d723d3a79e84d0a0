import PyProof.Rows.All
import Wide.All
import OpenK.AllK
import Wide.FinOn
import Lean
import PyProof.EqAt
import PyProof.EqKinds
import PyProof.TupleCall
import PyProof.Rows.IntBool
import KE.KIntText
import PySem.Challenge.RW_rankseals_k25_who_may_fill
set_option Elab.async false
set_option linter.all false
set_option maxRecDepth 100000
set_option maxHeartbeats 4000000
set_option autoImplicit true
open PySem renaming Value->aN,World->c7,Program->fj,KeyKind->Bg,Addr->aC,Heap->cg,sizeLine->cJ,sysModules->sJ,tupleKind->LR,Within->aiL,mainGlobals->jz,bootBuiltins->ur,Around->gV,Shared->bh,Scope->kJ,wpAny->aW,spliced->Nb,backTo->jA,starEach->bR,Stmt->dI,wpAny_mono->sO,wpAny_Name->abd,wpAny_loadName_local->ahl,wpAny_loadName_cell->ahs,wpAny_truthy_bool->yV,wpAny_execs_nil->Rq,wpAny_execs_cons->ahW,swapsWith->sW,assignInOrder->G3,assignEach->sU,setItem->Ie,wpAny_assign_Name->Kr,holding->nA,standAt->tD,wpAny_bind->aF,wpAny_holding->nj,wpAny_standAt->xM,swapsWithSole->xN,swappedStores->xO,wpAny_pure->bA,wpAny_newObj_type->lZ,bindName->xT,wpAny_rule->sV,wpAny_bindName->KD,PassesOwn->Ma,wpAny_passesOwn->Dw,pyNext->j6,letOwnedTupleGo->Bb,pyIter->Ez,wpAny_load->Ln,rawInt->jo,wpAny_pyIter_list->Ks,wpAny_pyIter_tuple->ZM,foldedSetIterable->vD,binaryOp->pZ,compareOp->iG,behindInMarks->G4,sizeLine_eq->jQ,cLine->iM,Result->zK,FuncData->vR,BindsTo->Em,codeAny->lQ,codeAny_mono->KZ,wpAny_Call_Name_kw->Ko,NameKind->Ei,bindL->Cr,bindC->Cu,mem_of_lookup->yS,concat_meets->aaP,noFill_tuple_add->Z8,seq_tuple_add->aaC,IsPart->wj,wpAny_field->qD,getItem->zB,wpAny_sequenceKey->ahM,wpAny_callSpecial?_slot->uf,wpAny_call_entry->nQ,wpAny_typeOf->K1,seqIndex_of->aa5,seqIndex_neg->aaQ,subscripted->aa6,typeIs_str->abg,sliceBounds->DR,typeIs_int->abi,attributeBase->RC,backToKw->Uj,keywordEach->R0,Keyword->BL,call_meets->abk,valueAt->Eo,atKey->zQ,tupleKind_room_in1->Rf,callerA->Ep,call->abm,DictEntry->Tt,compEnvC->Ul,compTurn->Hw,newFunctionEnv->aat,wpAny_newFunctionEnv->ZJ,lookup_relabel_local->ZK,wpAny_comprehension_free->Ra,compPost->Uo,exec_Assign_Name_used->ahe,comprehension->aaE,Walks->yg,PyData->aD,ZipApart->Uq,IsZip->tU,IsPair->pG,wpAny_pyIter_zip->Rm,Builtin->oK,wpAny_newList->RJ,checkCount->abo,wpAny_pyIter_slot->Z0,wpAny_dictEntries->Z1,wpAny_dictEpoch->aah,wpAny_attempt->Bh,wpAny_typeNameOfWhole_keyiter->QX,wpAny_fieldsOf->Bf,wpAny_typeNameOf_keyiter->Rb,wpAny_isOneOf_keyiter->ZD,wpAny_setField->xJ,newExc->Iz,newTuple->Us,firstArgMember->GZ,wpAny_of_eq->La,raiseNew->Ut,wpAny_handled->aaG,wpAny_throw->aa8,wpAny_isInstance->Rn,isSubtype_stop->aau,wpAny_pyIter_keyiter->ahm,codeAny_builtin->xG,plainId_quiet->uq,richCompare->G9,SetTable->Bx,relayAll->KH,scanBound->sX,wpAny_setState_of->GQ,wpAny_storeSet_of->ahR,fits_of_scanBound->Z5,builtinLookup_eq_fast->ahh,isSubtype_type->aax,entryFor->Ux,argsOk->Ca,setNext->Ii,wpAny_setEntries_of->Kh,setsByText->abt,wpAny_askSetting->Ro,wpAny_ite_split->Rt,pickOrder->Bv,wpAny_seqItems->qy,wpAny_setEpoch_of->ahS,updateSeq->Ho,wpAny_updateSeq->Bd,strKind->KR,argBest->ji,seqItems?->Bw,wpAny_tryCatch->yZ,wpAny_letGo->xP,wpAny_setField_rec->Kq,wpAny_onRaise->aaH,wpAny_updateSeq_pair->ahp
open PySem.Value renaming isInt->ai1,isStrOf->aaB,int->Bt,str->LQ,isStrOf_shape->ahr,none->j4,bool->vM,float->aa3,ref->dF,type->Hh
open Sum renaming inl->mC,inr->fG
open Sum.inl renaming inj->RW
open Sum.inr renaming inj->aa2
open PySem.SeqAt.EqAt renaming int_str->ahy,str_int->ahz
open Option.some renaming inj->jy,injEq->Ri
open PySem.W renaming instObj->aae,methodObj->ZV,Frag->aZ,lookIn->aas,plainGet->ahX,findIn->aio,kitOne->Dz,kia_one->vH,kitx_none->ahJ,kitx_bool->ahK,kitx_int->ahY,kitx_str->ahZ,kitx_float->ahB,kitx_list->Rg,kitx_tuple->ahC,kitx_dict->Rh,kitx_own->ah0,keepIn->DG,cellsFrom_some->ag9,fnOf->Bj,codeIn->Rx,OpenLaw->aaf,WalkO->aiA,kitAny->Ry,kia_tup->vI,nsIn->qz,mg_of->aaI,mg_none_of->rB
open PySem.Heap renaming lt_size->cG,SameBut->zb,get?_push_of_some->cD,get?_push_size->gj,get?_update_self->vA,get?_update_other->pR,size_push->sH,ExtBut->K9,size_update->ah6,get?_update_ne->aht,IsTuple->aiW
open Nat renaming lt_of_lt_of_le->pU,lt_irrefl->xK,ne_of_lt->fQ,le_trans->mq,le_of_lt->DN,ne_of_gt->vK,le_refl->cz,lt_trans->RK,zero_le->lC,le_of_eq->aiQ,sub_self->aaT,lt_succ_of_lt->vG,not_lt->Hi,le_succ->G8,not_lt_zero->xH,add_sub_cancel->ahD,lt_succ_self->KC,zero_add->zc,min_self->aaY,le_of_ble_eq_true->ZG,succ_pos->aiX,min_eq_left->aal,le_add_right->Ba,lt_or_eq_of_le->ahH,le_of_lt_succ->ahV
open List renaming range->gG,mem_filter->lB,mem_range->vJ,filterMap_cons->ZL,mem_cons_self->cX,mem_cons_of_mem->dM,mem_cons->bW,mem_append->cY,mem_append_left->fM,getElem?_eq_some_iff->jO,getElem?_set_self->Kf,getElem?_set_ne->xq,set_comm->RB,mem_filterMap->ZP,mem_append_right->eF,size_toArray->gZ,any_eq_false->ahI,append_nil->mj,nodup_cons->ie,of_mem_zip->Rr,replicate->fP,length->zf,length_take->Az,getElem?_append_right->qx,getElem?_replicate->Zu,getElem?_append_left->pB,getElem?_map->jw,take_sublist->ZX,mem_of_getElem?->lY,length_append->fO,length_map->bJ,length_replicate->ahd,length_drop->aaa,map_nil->uv,map_cons->dN,length_set->Bc,all_cons->KN,any_cons->KQ,replicate_succ->Dt,flatten_cons->GP,foldl->abj,append_assoc->kE,foldl_cons->Dy,nil_append->iU,find?_cons->rC,length_cons->dW,length_nil->GX,nodup_nil->lO,forIn_cons->aag,lookup_cons->Dv,map_map->fD,all_eq_true->nR,getElem_of_mem->vB,getElem?_eq_getElem->jb,getElem_mem->xF,mem_singleton->gk,not_mem_nil->iT,getD->pY,toArray->aiS,ext_getElem->Kz,length_range->pC,map_congr_left->xu,zip_cons_cons->GK,mem_map->dD,ext_getElem?->ahO,getElem?_eq_none->Dr,pairwise_iff_getElem->Av,pairwise_lt_range->Zy,pairwise_append->ahn,getElem_take->ahP,pairwise_cons->vC,foldl_append->Z6,nodup_append->jF,length_eq_zero_iff->ag7,length_eraseIdx->aho,range_succ->aij,map_append->iC,length_pos_iff->Kl,take_zero->air,Sublist->aaW,getElem?_set->Rj,any_map->aaX,perm_append_comm->ahj,length_zip->Be,getElem?_range->ahv,getElem?_eq_none_iff->Q7,drop_length->aac,drop_eq_getElem_cons->Zo,getElem?_mapIdx->Ds,sublist_nil->ah7,getElem?_take->ahE,perm_cons->ais,map_id->DW,map_fst_zip->Rp,any_eq_true->aad,find?_map->aiu,filter_cons->ah8,zipIdx_cons->aia,zipIdx_nil->aik,forIn_nil->aiv,pairwise_map->GR,cons_append->jn,find?_eq_none->ahF,length_pos_of_mem->ahc,getD_eq_getElem?_getD->Ar,getElem_map->aic,mem_map_of_mem->ahw,mem_iff_getElem?->ahk,map_eq_nil_iff->ahx,map_take->aiH,filter_eq_self->GF,length_filter_le->ug,set_cons_succ->Ax,set_cons_zero->Ay
open Array renaming append_assoc->ahA,length_toList->m9,toList->aiM,getD->ajq,getElem?_eq_getElem->lX,getElem?_eq_none->Zx,getD_eq_getD_getElem?->vz,getElem?_toList->Kg,toList_push->ahQ,getElem?_eq_some_iff->ag4,getElem_toList->ahq
open Ne renaming symm->j5
open PySem.Calls renaming Name_function_global->ag1,spliced_nil->ZW,spliced_cons->ZQ,call_function_entry->Zn
open False renaming elim->xR
open PySem.Flow renaming next->Tp
open Bool renaming false_ne_true->jm,false_and->aar,eq_iff_iff->uh,and_eq_true->jP,false_or->aiz,not_eq_true->ah2,false_eq_true->pW,not_true->aiE,not_false->aip,not_eq_true'->Kw,noConfusion->aib,true->aq,false->aM
open PySem.Builtin.Range renaming rangeSize->atY
open PyProof.Rows renaming callWith_type1->Q0,callWith_builtin1->agT,slot_tuple_getitem->QW,boot_zip->ahf
open PySem.EqNone renaming eq_none_none->ato,eq_none_bool->atp,eq_none_int->atD,eq_none_str->atE,eq_bool_none->atq,eq_int_none->atF,eq_str_none->atH,ne_none_none->atv,ne_none_bool->atw,ne_none_int->atL,ne_none_str->atM,ne_bool_none->atx,ne_int_none->atN,ne_str_none->atP
open PySem.EqMixed renaming eq_bool_str->atr,eq_int_str->atG,eq_str_bool->atu,eq_str_int->atJ,ne_bool_str->aty,ne_int_str->atO,ne_str_bool->atz,ne_str_int->atQ
open True renaming intro->oH
open Option renaming isSome_iff_exists->xg,getD_none->ah1,isSome_some->ZS,isSome_map->ZZ,map_eq_some_iff->xj,map_some->oF,getD_some->Ky,bind_some->jx,some_ne_none->xx,none->sI,map->ajD,map_map->Rz,bind_eq_some_iff->Aw,map_eq_none_iff->ahb,isSome_none->ahG,some->aa,none->aj
open PySem.F renaming slot_tuple_add->Zw,entry_tuple_add->Zv,args_tuple_add_2->Zq,slot_list_append->ZR,slot_int_rmul->aid,slot_dict_iter->ah3,slot_dict_keyiterator_next->QZ,entry_dict_keyiterator_next->agV,args_dict_keyiterator_next_1->agU,plain_proto_collect->agY,plain_list_iadd->Rc,slot_set_iter->aii,plain_extend_loop->ag5,entry_max_loop->Zz,plain_max_loop->Dp,plainAttrs_list->ag8,type_list_append->ag6,slot_tuple_iterator_next->Q5,entry_tuple_iterator_next->ag0,args_tuple_iterator_next_1->agX,slot_zip_next->Ru,entry_zip_next->ah9,args_zip_next_1->ahT,entry_min_loop->ZC,plain_min_loop->Dq
open Int renaming toNat_natCast->yW,le_refl->xQ,emod_eq_emod_iff_emod_sub_eq_zero->agR,emod_eq_of_lt->Rk,emod_nonneg->um,emod_lt_of_pos->yU,ne_of_lt->aiZ,le_max_left->ail,max_eq_left->aim,ediv_nonneg->ain,zero_add->K7,mul_nonneg->aiw,mul_le_mul->aix
open PySem.Builtin.Slice renaming sliceAdjust->Zm,slicePlaces->Q6,slicePartIndex->atl,sliceApplied->ag2,sliceFields->atA
open PySem.Str renaming ofString->bz
open PySem.Builtin.Tuple renaming tupleItemsOf->ag3,tupleExact->Q9,tupleCompareSizes->atk,tupleIsExact->atm
open PySem.Heap.IsSliceOf renaming new->at6
open PySem.Obj renaming mapSeq->oJ,mapFields->aaF,isFreed_of_fields->ZF,data_mapFields->GJ,cls_mapFields->Z2,putSet->Sx
open PySem.SeqAt renaming EqAt->abh,shaped->nP
open PySem.Builtin.List renaming listTooLong->Zr,listExtendWith->Q3,listLengthHint->agZ,listSameRef->Zt
open List.Pairwise renaming nil->Ku,filterMap->atZ,imp_of_mem->atX
open Or renaming inl->qb,inr->xZ
open PySem.NameKind renaming free->rD,cell->RG
open ForInStep renaming yield->aif
open PySem.Code renaming compLoop->G6
open PySem.Walks renaming list->Sv
open PySem.WalksT renaming zip2->ai7
open List.Perm renaming refl->yX,of_eq->aih,swap->aay,append_left->ahi,append_right->aha
open List.cons renaming inj->uo,injEq->aaj
open PySem.Heap.SameBut renaming update->rA,refl->Z4
open PySem.Builtin.Dict renaming dictSlotNone->atB,showsAll->ahg
open PySem.Builtin.Dict_items renaming ownsTuple->agW
open PySem.Around renaming under_plainId->xr
open PySem.SetTable.below renaming go->Kv
open PySem.SetTable renaming below->kI,has->aiT,slot->aiC,grown->DK
open PySem.SetTable.probe renaming go->Z3
open PySem.SetTable.Met.empty renaming injEq->atR
open Prod.mk renaming injEq->aiD
open PySem.pickOrder renaming go->aaU
open PySem.Builtin.Frozenset renaming slot0->at5,sizeOf->atU,oneOther->atn,addrOf->atV
open PySem.Bind renaming checkArgs->aiq
open PySem.Builtin.Builtins renaming bindParams->Q4
open PySem.CmpOf renaming ints_gt->aiF
open PySem.PyData renaming int->lD,str->iD,eqv->Br,tuple->Bo,strOk->aaZ,canLay0->KJ,depth->K3,canLayAll0->Z7,depthAll->aam,bool->ajf
open List.Sublist renaming refl->Du,append->Km
open PySem.Builtin.SmallTypes renaming nextOf->Dm,ownedTupleIsFree->QV,ownedTupleHandOut->agS
open PySem.Shared renaming heap->ajb
open PySem.Heap.IsTuple renaming push->at7
open Classical renaming byContradiction->Q8
open Nat.succ renaming inj->aiY
open PySem.PassesOwn renaming never->oG
theorem bG{c:Prop}[i:Decidable c](h:c){α:Sort _}{t e:α}:ite c t e=t:=if_pos h
theorem bH{c:Prop}[i:Decidable c](h:¬c){α:Sort _}{t e:α}:ite c t e=e:=if_neg h
theorem gr{p:Prop}[i:Decidable p](h:p):decide p=true:=decide_eq_true h
theorem iR{p:Prop}[i:Decidable p](h:¬p):decide p=false:=decide_eq_false h
noncomputable section
theorem bw{p:Prop}(h:p:=by decide +kernel):p:=h
theorem aR{p:Prop}(h:p:=by decide):p:=h
theorem az{p:Prop}(h:p:=by lia):p:=h
theorem bI{p:Prop}(h:p:=by simp):p:=h
theorem eqT{p:Prop}(h:p:=by lia):p=True:=eq_true h
namespace L2
open PySem PySem.Spec PyProof.Rows
abbrev Key:=Sum Int Str
def Fj:Key->aN->Bool
 |.inl k,v=>ai1 k v
 |.inr x,v=>aaB x v
def aqw(w:c7):Key->Int
 |.inl k=>hashInt k
 |.inr x=>hashStr w x
theorem vL:∀{k:Key}{v:aN},Fj k v=aq->(∃i t,k=mC i/\v=Bt i t)\/(∃x t,k=fG x/\v=LQ x t)
 |.inl i,v,h=>by
  obtain⟨t,e⟩:=Value.isInt_shape (k:=i) (v:=v) h
  exact .inl ⟨i,t,rfl,e⟩
 |.inr x,v,h=>by
  obtain⟨t,e⟩:=ahr (x:=x) (v:=v) h
  exact .inr ⟨x,t,rfl,e⟩
theorem ajU(i:Int)(t:Tok):Fj (.inl i) (.int i t)=aq:=by simp[Fj,ai1]
theorem ajV(x:Str)(t:Tok):Fj (.inr x) (.str x t)=aq:=by simp[Fj,aaB]
theorem an7(a b:Int):decide ((mC a:Key)=mC b)=(a==b):=by
 by_cases e:a=b
 .subst e;simp
 .have h:¬(mC a:Key)=mC b:=λq=>e (RW q)
  rw[iR h]
  exact(beq_eq_false_iff_ne.mpr e).symm
theorem an8(a b:Str):decide ((fG a:Key)=fG b)=decide (a=b):=by
 by_cases e:a=b
 .subst e;simp
 .have h:¬(fG a:Key)=fG b:=λq=>e (aa2 q)
  rw[iR h,iR e]
theorem an9(a:Int)(b:Str):decide ((mC a:Key)=fG b)=aM:=iR (λq=>nomatch q)
theorem aoa(a:Str)(b:Int):decide ((fG a:Key)=mC b)=aM:=iR (λq=>nomatch q)
def nu(prog:fj)(w:c7):Bg prog w Key where
 is:=Fj
 hash:=aqw w
 inj:=λv a b ha hb=>by
  rcases vL ha with⟨i,t,rfl,rfl⟩|⟨x,t,rfl,rfl⟩
  .rcases vL hb with⟨j,u,rfl,e⟩|⟨y,u,rfl,e⟩
   .injection e with e1 _;rw[e1]
   .exact nomatch e
  .rcases vL hb with⟨j,u,rfl,e⟩|⟨y,u,rfl,e⟩
   .exact nomatch e
   .injection e with e1 _;rw[e1]
 byValue:=λk v h=>by
  rcases vL h with⟨i,t,rfl,rfl⟩|⟨x,t,rfl,rfl⟩<;>rfl
 pyHash:=λhv h=>by
  rcases vL hv with⟨i,t,rfl,rfl⟩|⟨x,t,rfl,rfl⟩
  .exact wpAny_pyHash_int h
  .exact wpAny_pyHash_str h
 eqBool:=λhu hv h=>by
  rcases vL hu with⟨i,t,rfl,rfl⟩|⟨x,t,rfl,rfl⟩
  .rcases vL hv with⟨j,u,rfl,rfl⟩|⟨y,u,rfl,rfl⟩
   .rw[an7] at h;exact wpAny_eqBool_int h
   .rw[an9] at h;exact ahy i t y u _ _ _ _ h
  .rcases vL hv with⟨j,u,rfl,rfl⟩|⟨y,u,rfl,rfl⟩
   .rw[aoa] at h;exact ahz x t j u _ _ _ _ h
   .rw[an8] at h;exact wpAny_eqBool_str h
 «strs»:=λk x t v h=>by
  rcases vL h with⟨i,u,rfl,e⟩|⟨y,u,rfl,e⟩
  .exact nomatch e
  .injection e with e1 _
   subst e1;cases v<;>rfl
theorem ai2(prog:fj)(w:c7)(i:Int)(t:Tok):(nu prog w).is (.inl i) (.int i t)=aq:=ajU i t
theorem ai3(prog:fj)(w:c7)(x:Str)(t:Tok):(nu prog w).is (.inr x) (.str x t)=aq:=ajV x t
inductive V where
 |non|bl (b:Bool)|int (i:Int)|str (x:Str)|sy (b:Array UInt8)|flt (b:UInt64)|ref (a:aC)|ty (n:String)
 deriving DecidableEq
def RelV:V->aN->Prop
 |.non,u=>u=j4
 |.bl b,u=>u=vM b
 |.int i,u=>∃t,u=Bt i t
 |.str x,u=>∃t,u=LQ x t
 |.sy b,u=>∃t,u=Value.bytes b t
 |.flt b,u=>∃t,u=aa3 b t
 |.ref a,u=>u=dF a
 |.ty n,u=>u=Hh n
abbrev Vals:List V->List aN->Prop:=Paired RelV
theorem Vals.length(r:Vals xs us):xs.length=us.length:=Paired.length r
theorem Vals.get:∀{xs:List V}{us:List aN}{i:Nat}{x:V},Vals xs us->xs[i]?=aa x->∃u,us[i]?=aa u/\RelV x u
 |_,_,_,_,.nil,e=>by simp at e
 |_,_,0,_,.cons r _,e=>by simp at e;subst e;exact⟨_,rfl,r⟩
 |_,_,i+1,x,.cons _ t,e=>by
  obtain⟨u,h1,h2⟩:=Vals.get (i:=i) (x:=x) t (by simpa using e)
  exact⟨u,by simpa using h1,h2⟩
theorem Vals.set(r:RelV x u):∀{xs:List V}{us:List aN}(i:Nat),Vals xs us->Vals (xs.set i x) (us.set i u)
 |_,_,_,.nil=>.nil
 |_,_,0,.cons _ t=>.cons r t
 |_,_,i+1,.cons q t=>.cons q (Vals.set r i t)
theorem Vals.append:∀{xs ys:List V}{us ws:List aN},Vals xs us->Vals ys ws->Vals (xs++ys) (us++ws)
 |_,_,_,_,.nil,s=>s
 |_,_,_,_,.cons r t,s=>.cons r (Vals.append t s)
theorem Vals.take:∀{xs:List V}{us:List aN}(n:Nat),Vals xs us->Vals (xs.take n) (us.take n)
 |_,_,0,_=>.nil
 |_,_,_+1,.nil=>.nil
 |_,_,n+1,.cons r t=>.cons r (Vals.take n t)
theorem Vals.drop:∀{xs:List V}{us:List aN}(n:Nat),Vals xs us->Vals (xs.drop n) (us.drop n)
 |_,_,0,r=>r
 |_,_,_+1,.nil=>.nil
 |_,_,n+1,.cons _ t=>Vals.drop n t
def uU:Option V->Option aN->Prop
 |some v,some u=>RelV v u
 |none,none=>True
 |_,_=>False
def KV{κ:Type}:List (κ×V)->List (κ×aN)->Prop:=Paired λ(p:κ×V)(q:κ×aN)=>p.1=q.1/\RelV p.2 q.2
def kV:Key->V
 |.inl i=>.int i
 |.inr x=>.str x
inductive HO where
 |lst (xs:List V)
 |tup (xs:List V)
 |dK (aA:List (Key×V)) (ep:Nat)|dT (aA:List (List Key×V)) (ep:Nat)
 |set (S:Int->Bool) (n:Nat)
 |ins (C dx:aC) (fs:List (Str×V))
 |own (x:aC)
 |xd (fs:List (Str×V))
 |met (f x:aC)
 |Ys (lo hi:Int)
 |pM (o:Obj) (u:HO)
 |CZ (ps:Array aN)
 |ext (φ:cg->Prop)
abbrev Hp:=aC->Option HO
def upd(H:Hp)(a:aC)(o:HO):Hp:=λb=>if b=a then aa o else H b
theorem eV:upd H a o a=aa o:=by unfold upd;rw[bG rfl]
theorem cP(h:b≠a):upd H a o b=H b:=by unfold upd;rw[bH h]
theorem adl:upd (upd H a o) a u=upd H a u:=by
 funext b;unfold upd;split<;>rfl
theorem Xp{H:Hp}(h:H a=aa o)(h':H b=aa u)(d:o≠u):a≠b:=by
 intro e;subst e;rw[h] at h';exact d (jy h')
theorem pX{H:Hp}(h:H a=aa o)(h':H b=aj):a≠b:=by
 intro e;subst e;rw[h] at h';cases h'
section
variable(P:fj)(w:c7)
def f9(H:Hp)(h:cg)(a:aC):HO->Prop
 |.lst xs=>xs.length<=cJ/\∃(aK:List aN)(n:Nat),Vals xs aK/\h.get? a=aa {cls:=.type "list",data:=.seq aK.toArray n}
 |.tup xs=>xs.length<=cJ/\∃aK:List aN,Vals xs aK/\IsTup h a aK.toArray
 |.dK aA ep=>aA.length<=cJ/\(a==sJ)=aM/\∃vs,KV aA vs/\h.DictAt (nu P w) a vs ep
 |.dT aA ep=>aA.length<=cJ/\(a==sJ)=aM/\∃xs:List (List Key×aC×aN),
   Paired (λ(p:List Key×V)(q:List Key×aC×aN)=>p.1=q.1/\H q.2.1=aa (.tup (p.1.map kV))/\RelV p.2 q.2.2) aA xs/\
   ∃o es,h.get? a=aa o/\o.ExactDict/\o.data=.dict es ep/\es.toList=xs.map (entryOfKey (LR (nu P w)))/\(xs.map (·.1)).Nodup
 |.set S n=>h.SetOf (intKind P w) a S n
 |.ins C dx fs=>H dx=aa (.own a)/\fs.length<=1000/\dx≠a/\h.get? a=aa (aae C dx)/\
   ∃mA,h.Ns1 dx mA/\(∀f,uU (fs.lookup f) (mA f))/\aiL mA (fs.map (·.1))
 |.own _=>∃o,h.get? a=aa o
 |.xd fs=>∃mA,h.Ns1 a mA/\∀f,uU (fs.lookup f) (mA f)
 |.Ys lo hi=>∃t u v,h.get? a=aa {cls:=.type "range",data:=.fields #[.int lo t,.int hi u,.int 1 v]}
 |.pM o u=>h.get? a=aa o/\f9 H h a u
 |.CZ ps=>h.get? a=aa {cls:=.none,data:=.fields ps}
 |.met f x=>h.get? a=aa (ZV (.ref f) (.ref x))
 |.ext φ=>φ h/\(∃o,h.get? a=aa o)/\∀h1 h2:cg,φ h1->(∀o,h1.get? a=aa o->h2.get? a=aa o)->φ h2
def jt(H:Hp)(h:cg):Prop:=∀a o,H a=aa o->f9 P w H h a o
end
section
variable{H H':Hp}{a:aC}{o:HO}
theorem f9.lt(x:f9 P w H h a o):a<h.objs.size:=by
 cases o with
 |lst xs=>obtain⟨_,_,_,_,e⟩:=x;exact cG e
 |tup xs=>obtain⟨_,_,_,p⟩:=x;exact p.lt
 |dK aA ep=>obtain⟨_,_,_,_,o,_,e,_⟩:=x;exact cG e
 |dT aA ep=>obtain⟨_,_,_,_,o,_,e,_⟩:=x;exact cG e
 |set S n=>obtain⟨o,_,_,_,e,_⟩:=x;exact cG e
 |ins C dx fs=>obtain⟨_,_,_,e,_⟩:=x;exact cG e
 |own y=>obtain⟨_,e⟩:=x;exact cG e
 |xd fs=>obtain⟨_,⟨_,_,_,e,_⟩,_⟩:=x;exact cG e
 |Ys lo hi=>obtain⟨_,_,_,e⟩:=x;exact cG e
 |pM ob u=>obtain⟨e,_⟩:=x;exact cG e
 |CZ ps=>exact cG (show h.get? a=aa _ from x)
 |met f y=>exact cG (show h.get? a=aa _ from x)
 |ext φ=>obtain⟨_,⟨_,e⟩,_⟩:=x;exact cG e
theorem Paired.XX:∀{l₁:List α}{l₂:List β},Paired F l₁ l₂->(∀a b,F a b->G a b)->Paired G l₁ l₂
 |_,_,.nil,_=>.nil
 |_,_,.cons r t,f=>.cons (f _ _ r) (Paired.XX t f)
theorem f9.stay(x:f9 P w H h a o)(k:∀b u,(b=a\/H b=aa (.own a))->h.get? b=aa u->h'.get? b=aa u)
  (ho:∀b,H b=aa (.own a)->H' b=aa (.own a))(ht:∀b xs,H b=aa (.tup xs)->H' b=aa (.tup xs)):f9 P w H' h' a o:=by
 induction o with
 |lst xs=>obtain⟨z,aK,n,r,e⟩:=x;exact⟨z,aK,n,r,k _ _ (.inl rfl) e⟩
 |tup xs=>obtain⟨z,aK,r,ob,e,c⟩:=x;exact⟨z,aK,r,ob,k _ _ (.inl rfl) e,c⟩
 |dK aA ep=>obtain⟨z,y,vs,r,ob,es,e,c⟩:=x;exact⟨z,y,vs,r,ob,es,k _ _ (.inl rfl) e,c⟩
 |dT aA ep=>
  obtain⟨z,y,xs,r,ob,es,e,c⟩:=x
  exact⟨z,y,xs,Paired.XX r λp q z=>⟨z.1,ht _ _ z.2.1,z.2.2⟩,ob,es,k _ _ (.inl rfl) e,c⟩
 |set S n=>obtain⟨ob,es,ep,t,e,c⟩:=x;exact⟨ob,es,ep,t,k _ _ (.inl rfl) e,c⟩
 |ins C dx fs=>
  obtain⟨d,z,ne,e,mA,⟨od,es,ep,e2,c⟩,r⟩:=x
  exact⟨ho _ d,z,ne,k _ _ (.inl rfl) e,mA,⟨od,es,ep,k _ _ (.inr d) e2,c⟩,r⟩
 |own y=>obtain⟨ob,e⟩:=x;exact⟨ob,k _ _ (.inl rfl) e⟩
 |xd fs=>obtain⟨mA,⟨od,es,ep,e,c⟩,r⟩:=x;exact⟨mA,⟨od,es,ep,k _ _ (.inl rfl) e,c⟩,r⟩
 |Ys lo hi=>obtain⟨t,u,v,e⟩:=x;exact⟨t,u,v,k _ _ (.inl rfl) e⟩
 |pM ob u ih=>obtain⟨e,q⟩:=x;exact⟨k _ _ (.inl rfl) e,ih q⟩
 |CZ ps=>
  have e:h.get? a=aa {cls:=.none,data:=.fields ps}:=x;show h'.get? a=aa {cls:=.none,data:=.fields ps};exact k a _ (.inl rfl) e
 |met f y=>
  have e:h.get? a=aa (ZV (.ref f) (.ref y)):=x;show h'.get? a=aa (ZV (.ref f) (.ref y));exact k a _ (.inl rfl) e
 |ext φ=>obtain⟨p,⟨o,e⟩,st⟩:=x;exact⟨st _ _ p λo q=>k _ _ (.inl rfl) q,⟨o,k _ _ (.inl rfl) e⟩,st⟩
theorem jt.lt(x:jt P w H h)(e:H a=aa o):a<h.objs.size:=(x a o e).lt
theorem jt.fresh(x:jt P w H h)(e:h.objs.size<=a):H a=aj:=by
 cases q:H a with
 |none=>rfl
 |some u=>exact absurd (pU (x.lt q) e) (xK _)
theorem jt.kept(x:jt P w H h)(k:∀b u,h.get? b=aa u->h'.get? b=aa u):jt P w H h':=λa o e=>
 (x a o e).stay (λb u _ q=>k b u q) (λ_ q=>q) λ_ _ q=>q
theorem jt.laid(x:jt P w H h)(k:∀b u,h.get? b=aa u->h'.get? b=aa u)(hp:h.objs.size<=a)(new:f9 P w (upd H a o) h' a o):jt P w (upd H a o) h':=λb u e=>by
 have hn:=x.fresh hp;by_cases hb:b=a
 .subst hb;rw[eV] at e;cases e;exact new
 .rw[cP hb] at e
  exact(x b u e).stay (λc v _ q=>k c v q) (λc q=>by rw[cP (pX q hn)];exact q) λc xs q=>by rw[cP (pX q hn)];exact q
end
def Rd(H:Hp)(a:aC)(u:HO):Prop:=H a=aa u\/∃o,H a=aa (.pM o u)
theorem Rd.ok(r:Rd H a u)(x:jt P w H h):f9 P w H h a u:=by
 rcases r with r|⟨o,r⟩
 .exact x a u r
 .obtain⟨_,q⟩:=x a _ r
  exact q
def JK:Option HO->Prop
 |some (.lst _)=>True
 |some (.dK _ _)=>True
 |some (.dT _ _)=>True
 |some (.set _ _)=>True
 |some (.ins _ _ _)=>True
 |some (.ext _)=>True
 |_=>False
section
variable{P:fj}{w:c7}{H:Hp}{h h':cg}{x e:aC}{o':HO}
theorem jt.write(ok:jt P w H h)(mu:JK (H x))(he:e=x\/H e=aa (.own x))(k:∀b u,b≠e->h.get? b=aa u->h'.get? b=aa u)(heo:∃u,h'.get? e=aa u)
  (new:f9 P w (upd H x o') h' x o'):jt P w (upd H x o') h':=λb u q=>by
 have afv:∀c y,H c=aa (.own y)->c≠x:=λc y r z=>by subst z;rw[r] at mu;exact mu
 have aqx:∀c xs,H c=aa (.tup xs)->c≠x:=λc xs r z=>by subst z;rw[r] at mu;exact mu
 by_cases hb:b=x
 .subst hb;rw[eV] at q;cases q;exact new
 .rw[cP hb] at q;by_cases hbe:b=e
  .have q':H b=aa (.own x):=by
    rcases he with z|z
    .exact absurd (hbe.trans z) hb
    .rw[hbe];exact z
   rw[q] at q';cases q'
   obtain⟨v,hv⟩:=heo
   exact⟨v,by rw[hbe];exact hv⟩
  .refine(ok b u q).stay (λc v hc r=>k c v ?_ r) (λc r=>by rw[cP (afv c b r)];exact r) λc xs r=>by rw[cP (aqx c xs r)];exact r
   rcases hc with rfl|hc
   .exact hbe
   .rintro rfl;rcases he with z|z
    .exact afv c b hc z
    .rw[hc] at z;cases z;exact hb rfl
end
structure Un(fs ex:List aC)(H H':Hp)(h h':cg):Prop where
 keep:∀b o,h.get? b=aa o->H b=aj->b∉fs->b∉ex->h'.get? b=aa o
 slot:∀b o,h.get? b=aa o->H b=aj->b∈fs->b∉ex->∃sl,h'.get? b=aa {o with slots:=sl}
 free:∀b o,h.get? b=aa o->H b=aj->b∉ex->H' b=aj
 there:∀b o,h.get? b=aa o->b∉ex->∃o',h'.get? b=aa o'
 tups:∀b xs,H b=aa (.tup xs)->H' b=aa (.tup xs)
 yw:∀b o u,H b=aa (.pM o u)->H' b=aa (.pM o u)
 zZ:∀b ps,H b=aa (.CZ ps)->∃more,H' b=aa (.CZ (ps++more))
section
variable{h h1 h2 h':cg}{a x e:aC}{o:HO}
theorem Un.any(u:Un fs ex H H1 h h1)(q:h.get? b=aa ob)(n:H b=aj)(hx:b∉ex):∃sl,h1.get? b=aa {ob with slots:=sl}:=by
 by_cases hb:b∈fs
 .exact u.slot b ob q n hb hx
 .exact⟨ob.slots,u.keep b ob q n hb hx⟩
theorem Un.kept(k:∀b u,h.get? b=aa u->h'.get? b=aa u):Un fs ex H H h h':=
 ⟨λb ob q _ _ _=>k b ob q,λb ob q _ _ _=>⟨ob.slots,k b ob q⟩,λ_ _ _ n _=>n,λb ob q _=>⟨ob,k b ob q⟩,λ_ _ q=>q,λ_ _ _ q=>q,λ_ ps q=>⟨#[],by rw[q];simp⟩⟩
theorem Un.refl:Un fs ex H H h h:=Un.kept λ_ _ q=>q
theorem Un.laid(k:∀b u,h.get? b=aa u->h'.get? b=aa u)(hp:h.objs.size<=a)(hn:H a=aj):Un fs ex H (upd H a o) h h' where
 keep:=λb u q _ _ _=>k b u q
 slot:=λb u q _ _ _=>⟨u.slots,k b u q⟩
 free:=λb u q n _=>by rw[cP (fQ (pU (cG q) hp))];exact n
 there:=λb u q _=>⟨u,k b u q⟩
 tups:=λb xs q=>by rw[cP (pX q hn)];exact q
 yw:=λb u xs q=>by rw[cP (pX q hn)];exact q
 zZ:=λb ps q=>⟨#[],by rw[cP (pX q hn),q];simp⟩
theorem Un.write(mu:JK (H x))(he:e=x\/H e=aa (.own x))(k:∀b u,b≠e->h.get? b=aa u->h'.get? b=aa u)(heo:∃u,h'.get? e=aa u):Un fs ex H (upd H x o) h h':=by
 have hx:∀b,H b=aj->b≠x:=λb n z=>by subst z;rw[n] at mu;exact mu
 have hb:∀b,H b=aj->b≠e:=λb n z=>by
  subst z;rcases he with r|r
  .exact hx b n r
  .rw[n] at r;cases r
 have hm:∀b u,H b=aa u->¬JK (aa u)->b≠x:=λb u q nm z=>by subst z;rw[q] at mu;exact nm mu
 refine⟨λb u q n _ _=>k b u (hb b n) q,λb u q n _ _=>⟨u.slots,k b u (hb b n) q⟩,λb u q n _=>by rw[cP (hx b n)];exact n,λb u q _=>?_,
  λb xs q=>by rw[cP (hm b _ q λz=>z)];exact q,λb u xs q=>by rw[cP (hm b _ q λz=>z)];exact q,λb ps q=>⟨#[],by rw[cP (hm b _ q λz=>z),q];simp⟩⟩
 by_cases hbe:b=e
 .subst hbe;exact heo
 .exact⟨u,k b u hbe q⟩
end
def Qo(h:cg)(H:Hp):List aC:=(gG h.objs.size).filter λa=>(H a).isSome
def yx(h:cg)(H:Hp):cg:=PySem.W.hideAll h (Qo h H)
theorem ajW(h:cg)(H:Hp):(yx h H).objs.size=h.objs.size:=PySem.W.hideAll_size _ _
theorem akU(e:h.get? b=aa o)(n:H b=aj):(yx h H).get? b=aa o:=
 PySem.W.hideAll_get _ e λhm=>by
  have q:(H b).isSome=aq:=(lB.mp hm).2;rw[n] at q;simp at q
theorem amr(e:(yx h H).get? b=aa o):h.get? b=aa o/\H b=aj:=by
 have e':h.get? b=aa o:=PySem.W.of_hideAll (Qo h H) e
 refine⟨e',?_⟩
 cases q:H b with
 |none=>rfl
 |some x=>
  have hm:b∈Qo h H:=lB.mpr ⟨vJ.mpr (cG e'),by simp[q]⟩;have z:(yx h H).get? b=aj:=PySem.W.hideAll_none (Qo h H) hm;rw[z] at e;cases e
def ams(g h:cg)(L:aC):List (aC×Obj):=(gG h.objs.size).filterMap λa=>if a=L\/(g.get? a).isSome=aq then aj else(h.get? a).map λo=>(a,o)
def rest(g h:cg)(L d:aC):List (aC×Obj):=(ams g h L).filter λp=>decide (p.1≠d)
structure Mod(K:aZ)(mg:Str->Option aN)(base:cg):Prop where
 Yt:K.In base
 glob:base.Ns jz mg
 blt:∃mb,base.Ns builtinsNs mb/\∀x:Str,x≠"__name__"->mb x=ur x
 nolimit:base.NoLimit
structure Cx where
 prog:fj
 w:c7
 K:aZ
 mg:Str->Option aN
 base:cg
 A:gV
 N:List Str
 s₀:bh
 H₀:Hp
 env:Env
 outer:List Env
 stack:List Env
 ex:List aC
 fn:Str->Bool
 calm:Bool
 pn:List (aC×Obj)
 xe:aN->bh->Prop
def frs(l:List Env):List aC:=l.filterMap (·.frame)
abbrev Cx.fs(X:Cx):List aC:=frs X.outer
def Gj(sc:kJ)(x:Str):Prop:=sc.names.lookup x=aa .local\/sc.names.lookup x=aa .cell\/sc.names.lookup x=aa .free
def Loc(sc:kJ)(x:Str):Prop:=sc.names.lookup x=aa .local\/sc.names.lookup x=aa .cell
def Look(ao:Env)(h:cg)(m:Str->Option aN)(x:Str)(u:aN):Prop:=
 (ao.kindOf x=aa .local/\m x=aa u)\/((ao.kindOf x=aa .cell\/ao.kindOf x=aa .free)/\∃c,ao.cells.lookup x=aa c/\h.IsCell c (aa u))
structure Cx.Ok(X:Cx):Prop where
 mod:Mod X.K X.mg X.base
 kind:X.env.scope.kind=.function
 glob:X.env.globals=jz
 blt:X.env.builtins=builtinsNs
 above:X.s₀.heap.objs.size<=X.env.locals
 inj:∀x y c,X.env.cells.lookup x=aa c->X.env.cells.lookup y=aa c->x=y
 has:∀x,(X.env.kindOf x=aa .cell\/X.env.kindOf x=aa .free)->∃c,X.env.cells.lookup x=aa c
 cab:∀x c,X.fn x=aq->X.env.cells.lookup x=aa c->X.s₀.heap.objs.size<=c
 hd:X.calm=aq->X.A.handled=aj
 frames:X.A.frames=aa X.stack
 stk:X.stack=X.outer\/(X.stack=X.env::X.outer/\X.env.frame=aa X.env.locals)
 exf:∀b∈X.ex,b≠X.env.locals/\∀x c,X.env.cells.lookup x=aa c->c≠b
 bs:∀b o,X.base.get? b=aa o->X.s₀.heap.get? b=aa o/\X.H₀ b=aj
 Ag:X.base.objs.size<=X.s₀.heap.objs.size
 Jt:∀b o,X.base.get? b=aa o->b∉X.ex
 Qa:∀b∈X.ex,b∉X.fs
 uV:X.s₀.heap.FunFrames X.base X.outer
 Gk:∀b∈X.fs,X.H₀ b=aj
structure Inv(X:Cx)(au:List (aC×Obj))(σ:List (Option V))(H:Hp)(s:bh):Prop where
 ok:X.Ok
 os:s.os=X.s₀.os
 bare:AllBare s.gens
 base:Un X.fs X.ex X.H₀ H X.s₀.heap s.heap
 loc:∃m,s.heap.Ns X.env.locals m/\∀(i:Nat)(x:Str)(v:V),X.N[i]?=aa x->σ[i]?=aa (aa v)->Gj X.env.scope x->∃u,RelV v u/\Look X.env s.heap m x u
 cell:∀x c,X.env.cells.lookup x=aa c->∃v,s.heap.IsCell c v
 free:H X.env.locals=aj
 uM:∀x c,X.env.cells.lookup x=aa c->H c=aj
 pin:∀p∈X.pn++au,s.heap.get? p.1=aa p.2/\H p.1=aj/\p.1≠X.env.locals/\p.1∉X.fs/\∀v,p.2.data≠.cell v
 hok:jt X.prog X.w H s.heap
 len:σ.length=X.N.length
section
variable{X:Cx}{H H':Hp}{h':cg}
theorem Cx.Ok.aqy(ok:X.Ok)(e:X.base.get? b=aa o):b∉X.fs:=λhb=>by
 have:=(ok.uV.mem hb).1;rw[e] at this;cases this
theorem Inv.bs(I:Inv X au σ H s):∀b o,X.base.get? b=aa o->s.heap.get? b=aa o/\H b=aj:=λb o e=>
 ⟨I.base.keep b o (I.ok.bs b o e).1 (I.ok.bs b o e).2 (I.ok.aqy e) (I.ok.Jt b o e),I.base.free b o (I.ok.bs b o e).1 (I.ok.bs b o e).2 (I.ok.Jt b o e)⟩
theorem Inv.bk(I:Inv X au σ H s):∀b o,X.base.get? b=aa o->s.heap.get? b=aa o:=λb o e=>(I.bs b o e).1
theorem Inv.mod(I:Inv X au σ H s):Mod X.K X.mg X.base:=I.ok.mod
theorem Inv.jL(I:Inv X au σ H s):X.K.In s.heap:=I.ok.mod.Yt.keeps I.bk
theorem Inv.lt(I:Inv X au σ H s):X.env.locals<s.heap.objs.size:=let ⟨_,hn,_⟩:=I.loc;hn.lt
theorem Inv.sz(I:Inv X au σ H s):X.s₀.heap.objs.size<=s.heap.objs.size:=mq I.ok.above (DN I.lt)
theorem Inv.aqz(I:Inv X au σ H s){a:aC}(h:s.heap.objs.size<=a):a∉X.fs:=λhb=>by
 obtain⟨_,o,ho,_⟩:=I.ok.uV.mem hb
 exact absurd (pU (cG ho) (mq I.sz h)) (xK _)
theorem Inv.Dc(I:Inv X au σ H s):∀x c,X.env.cells.lookup x=aa c->c≠X.env.locals:=λx c e z=>by
 obtain⟨v,o,ho,hd⟩:=I.cell x c e
 obtain⟨m,⟨o',es,ep,ho',hd',_⟩,_⟩:=I.loc
 rw[z,ho'] at ho;cases ho;rw[hd'] at hd;cases hd
theorem Inv.uV(I:Inv X au σ H s):s.heap.FunFrames X.base X.outer:=by
 have all:∀(l:List Env),(∀b∈frs l,b∈X.fs)->X.s₀.heap.FunFrames X.base l->s.heap.FunFrames X.base l:=by
  intro l;induction l with
  |nil=>intro _ _;trivial
  |cons ao r ih=>
   intro hs hl
   obtain⟨hk,⟨L,o,hf,hn,ho,hd⟩,hr⟩:=hl
   have hL:L∈X.fs:=hs L (by unfold frs;rw[ZL,hf];exact cX)
   obtain⟨sl,e⟩:=I.base.slot L o ho (I.ok.Gk L hL) hL λz=>I.ok.Qa L z hL
   exact⟨hk,⟨L,_,hf,hn,e,hd⟩,ih (λb hb=>hs b (by unfold frs;rw[ZL,hf];exact dM _ hb)) hr⟩
 exact all X.outer (λ_ hb=>hb) I.ok.uV
theorem Inv.stack(I:Inv X au σ H s):s.heap.FunFrames X.base X.stack:=by
 rcases I.ok.stk with e|⟨e,hf⟩
 .rw[e];exact I.uV
 .rw[e]
  obtain⟨m,hn,_⟩:=I.loc
  refine .cons (by rw[I.ok.kind];decide) hf hn ?_ I.uV;exact Heap.get?_none_of_le (mq I.ok.Ag I.ok.above)
theorem Inv.Ey(I:Inv X au σ H s):∀b∈frs X.stack,b∈X.env.locals::X.fs:=λb hb=>by
 rcases I.ok.stk with e|⟨e,hf⟩
 .rw[e] at hb;exact dM _ hb
 .rw[e] at hb;unfold frs at hb;rw[ZL,hf] at hb;exact hb
theorem Inv.adm(I:Inv X au σ H s):∀b∈frs X.stack,H b=aj:=λb hb=>by
 rcases bW.mp (I.Ey b hb) with e|hb
 .rw[e];exact I.free
 .obtain⟨_,o,ho,_⟩:=I.ok.uV.mem hb
  exact I.base.free b o ho (I.ok.Gk b hb) λz=>I.ok.Qa b z hb
theorem Inv.step{g':Array GenState}{t':Nat}{d':Drawn}{ch:List aC}(I:Inv X au σ H s)
  (hch:∀b∈ch,(b∈X.ex\/X.s₀.heap.objs.size<=b)/\b≠X.env.locals/\(∀x c,X.env.cells.lookup x=aa c->c≠b)/\∀p∈X.pn++au,p.1≠b)
  (keep:∀b o,b≠X.env.locals->b∉X.fs->b∉ch->s.heap.get? b=aa o->H b=aj->h'.get? b=aa o)
  (slot:∀b o,b≠X.env.locals->b∈X.fs->b∉ch->s.heap.get? b=aa o->H b=aj->∃sl,h'.get? b=aa {o with slots:=sl})(free:∀b o,b∉ch->s.heap.get? b=aa o->H b=aj->H' b=aj)
  (there:∀b o,b∉ch->s.heap.get? b=aa o->∃o',h'.get? b=aa o')
  (tups:∀b xs,H b=aa (.tup xs)->H' b=aa (.tup xs))(yw:∀b o u,H b=aa (.pM o u)->H' b=aa (.pM o u))(zZ:∀b ps,H b=aa (.CZ ps)->∃more,H' b=aa (.CZ (ps++more)))
  (ns:∀m,s.heap.Ns X.env.locals m->h'.Ns X.env.locals m)(hok:jt X.prog X.w H' h')(hg:AllBare g'):
  Inv X au σ H' {s with heap:=h',gens:=g',drawn:=d',toks:=t'}:=by
 have neL:∀b o,X.s₀.heap.get? b=aa o->b≠X.env.locals:=λb o e=>fQ (pU (cG e) I.ok.above)
 have Qp:∀b o,X.s₀.heap.get? b=aa o->b∉X.ex->b∉ch:=λb o e hx hb=>by
  rcases(hch b hb).1 with z|z
  .exact hx z
  .exact absurd (pU (cG e) z) (xK _)
 have cellK:∀x c,X.env.cells.lookup x=aa c->∀v,s.heap.IsCell c v->h'.IsCell c v:=λx c e v aY=>by
  obtain⟨o,ho,hd⟩:=aY
  have JL:c∉ch:=λz=>(hch c z).2.2.1 x c e rfl
  by_cases hc:c∈X.fs
  .obtain⟨sl,q⟩:=slot c o (I.Dc x c e) hc JL ho (I.uM x c e)
   exact⟨_,q,hd⟩
  .exact⟨o,keep c o (I.Dc x c e) hc JL ho (I.uM x c e),hd⟩
 refine⟨I.ok,I.os,hg,⟨λb o e n hb hx=>?_,λb o e n hb hx=>?_,λb o e n hx=>?_,λb o e hx=>?_,λb xs e=>tups b xs (I.base.tups b xs e),λb o xs e=>yw b o xs (I.base.yw b o xs e),λb ps e=>?_⟩,?_,λx c e=>?_,?_,λx c e=>?_,λp hp=>?_,hok,I.len⟩
 .exact keep b o (neL b o e) hb (Qp b o e hx) (I.base.keep b o e n hb hx) (I.base.free b o e n hx)
 .obtain⟨sl,e1⟩:=I.base.slot b o e n hb hx
  obtain⟨sl',e2⟩:=slot b _ (neL b o e) hb (Qp b o e hx) e1 (I.base.free b o e n hx)
  exact⟨sl',e2⟩
 .obtain⟨o',e1⟩:=I.base.there b o e hx
  exact free b o' (Qp b o e hx) e1 (I.base.free b o e n hx)
 .obtain⟨o',e1⟩:=I.base.there b o e hx
  exact there b o' (Qp b o e hx) e1
 .obtain⟨m1,e1⟩:=I.base.zZ b ps e
  obtain⟨m2,e2⟩:=zZ b _ e1
  exact⟨m1++m2,by rw[e2,ahA]⟩
 .obtain⟨m,hn,hl⟩:=I.loc
  refine⟨m,ns m hn,λi x v e1 e2 e3=>?_⟩
  obtain⟨u,r,l⟩:=hl i x v e1 e2 e3
  refine⟨u,r,?_⟩
  rcases l with l|⟨k,c,e,z⟩
  .exact .inl l
  .exact .inr ⟨k,c,e,cellK x c e _ z⟩
 .obtain⟨v,z⟩:=I.cell x c e
  exact⟨v,cellK x c e v z⟩
 .obtain⟨m,⟨o,_,_,ho,_⟩,_⟩:=I.loc
  exact free _ o (λz=>(hch _ z).2.1 rfl) ho I.free
 .obtain⟨v,o,ho,hd⟩:=I.cell x c e
  exact free c o (λz=>(hch c z).2.2.1 x c e rfl) ho (I.uM x c e)
 .obtain⟨e,n,ne,nf,d⟩:=I.pin p hp
  have JL:p.1∉ch:=λz=>(hch p.1 z).2.2.2 p hp rfl
  exact⟨keep p.1 p.2 ne nf JL e n,free p.1 p.2 JL e n,ne,nf,d⟩
theorem Inv.un(I:Inv X au σ H s)(u:Un X.fs [] H H' s.heap h')(hok:jt X.prog X.w H' h'):Inv X au σ H' {s with heap:=h',toks:=t'}:=by
 obtain⟨m,⟨o,es,ep,ho,r⟩,_⟩:=id I.loc
 obtain⟨sl,hL⟩:=u.any ho I.free bI
 exact I.step (g':=s.gens) (d':=s.drawn) (ch:=[]) (λ_ z=>nomatch z) (λb o _ hb _ e n=>u.keep b o e n hb bI) (λb o _ hb _ e n=>u.slot b o e n hb bI) (λb o _ e n=>u.free b o e n bI) (λb o _ e=>u.there b o e bI) u.tups u.yw u.zZ (λm' hm=>by
  obtain⟨o',es',ep',ho',r'⟩:=hm
  rw[ho] at ho';cases ho'
  exact⟨_,es',ep',hL,r'⟩) hok I.bare
theorem Inv.call(I:Inv X au σ H s)(u:Un (frs X.stack) ch H H' s.heap h')(hok:jt X.prog X.w H' h')(hg:AllBare g')
  (hch:∀b∈ch,(b∈X.ex\/X.s₀.heap.objs.size<=b)/\b≠X.env.locals/\(∀x c,X.env.cells.lookup x=aa c->c≠b)/\∀p∈X.pn++au,p.1≠b):
  Inv X au σ H' {s with heap:=h',gens:=g',drawn:=d',toks:=t'}:=by
 obtain⟨m,⟨o,es,ep,ho,r⟩,_⟩:=id I.loc
 obtain⟨sl,hL⟩:=u.any ho I.free λz=>(hch _ z).2.1 rfl
 exact I.step (ch:=ch) hch (λb o hL hb hc e n=>u.keep b o e n (λz=>(bW.mp (I.Ey b z)).elim hL hb) hc) (λb o _ _ hc e n=>u.any e n hc) (λb o hc e n=>u.free b o e n hc) (λb o hc e=>u.there b o e hc) u.tups u.yw u.zZ (λm' hm=>by
  obtain⟨o',es',ep',ho',r'⟩:=hm
  rw[ho] at ho';cases ho'
  exact⟨_,es',ep',hL,r'⟩) hok hg
theorem Inv.turned(I:Inv X au σ H s)(k:∀b o,b≠it->s.heap.get? b=aa o->h'.get? b=aa o)(hn:H it=aj)(hL:it≠X.env.locals)
  (h1:it∈X.ex\/X.s₀.heap.objs.size<=it)(h2:∀x c,X.env.cells.lookup x=aa c->c≠it)(h3:∀p∈X.pn++au,p.1≠it):Inv X au σ H {s with heap:=h',toks:=t'}:=by
 have JM:∀b u,H b=aa u->b≠it:=λb u e z=>by rw[z,hn] at e;cases e
 refine I.step (g':=s.gens) (d':=s.drawn) (ch:=[it]) (λb hb=>?_) (λb o _ _ hc e _=>k b o (λz=>hc (by simp[z])) e) (λb o _ _ hc e _=>⟨o.slots,k b o (λz=>hc (by simp[z])) e⟩) (λ_ _ _ _ n=>n)
  (λb o hc e=>⟨o,k b o (λz=>hc (by simp[z])) e⟩) (λ_ _ e=>e) (λ_ _ _ e=>e) (λb ps e=>⟨#[],by rw[e];simp⟩) (λm hm=>?_) (λb u e=>?_) I.bare
 .have e:b=it:=by simpa using hb
  subst e
  exact⟨h1,hL,h2,h3⟩
 .obtain⟨o,es,ep,ho,r⟩:=hm
  exact⟨o,es,ep,k _ o (j5 hL) ho,r⟩
 .refine(I.hok b u e).stay (λc v hc q=>k c v ?_ q) (λ_ q=>q) λ_ _ q=>q
  rcases hc with z|z
  .rw[z];exact JM b u e
  .exact JM c _ z
theorem Inv.tok(I:Inv X au σ H s)(t:Nat):Inv X au σ H {s with toks:=t}:=I.un (h':=s.heap) (t':=t) Un.refl I.hok
theorem Inv.kept(I:Inv X au σ H s)(k:∀b u,s.heap.get? b=aa u->h'.get? b=aa u):Inv X au σ H {s with heap:=h',toks:=t'}:=I.un (Un.kept k) (I.hok.kept k)
theorem Inv.laid{a:aC}(I:Inv X au σ H s)(k:∀b u,s.heap.get? b=aa u->h'.get? b=aa u)(hp:s.heap.objs.size<=a)(new:f9 X.prog X.w (upd H a o) h' a o):
  Inv X au σ (upd H a o) {s with heap:=h',toks:=t'}:=I.un (Un.laid k hp (I.hok.fresh hp)) (I.hok.laid k hp new)
theorem Inv.write(I:Inv X au σ H s)(mu:JK (H x))(he:e=x\/H e=aa (.own x))(k:∀b u,b≠e->s.heap.get? b=aa u->h'.get? b=aa u)(heo:∃u,h'.get? e=aa u)
  (new:f9 X.prog X.w (upd H x o) h' x o):Inv X au σ (upd H x o) {s with heap:=h',toks:=t'}:=I.un (Un.write mu he k heo) (I.hok.write mu he k heo new)
theorem Inv.weak(I:Inv X au σ H s)(hl:σ'.length=σ.length)(w:∀(i:Nat) v,σ'[i]?=aa (aa v)->σ[i]?=aa (aa v)):Inv X au σ' H s:=
 ⟨I.ok,I.os,I.bare,I.base,let ⟨m,hn,hl'⟩:=I.loc;⟨m,hn,λi x v e1 e2 e3=>hl' i x v e1 (w i v e2) e3⟩,I.cell,I.free,I.uM,I.pin,I.hok,hl.trans I.len⟩
theorem Inv.adn(I:Inv X au σ H s)(h:∀p∈ae8,s.heap.get? p.1=aa p.2/\H p.1=aj/\p.1≠X.env.locals/\p.1∉X.fs/\∀v,p.2.data≠.cell v):Inv X ae8 σ H s:=
 ⟨I.ok,I.os,I.bare,I.base,I.loc,I.cell,I.free,I.uM,λp hp=>(cY.mp hp).elim (λz=>I.pin p (fM _ z)) (h p),I.hok,I.len⟩
theorem acn{N:List Str}(hN:N.Nodup){i j:Nat}(a:N[i]?=aa x)(b:N[j]?=aa x):i=j:=by
 obtain⟨h1,e1⟩:=jO.mp a
 obtain⟨h2,e2⟩:=jO.mp b
 exact(List.getElem_inj hN).mp (e1.trans e2.symm)
theorem Tj(I:Inv X au σ H s)(hN:X.N.Nodup)(hi:X.N[i]?=aa x)(hx:Loc X.env.scope x)(r:RelV v u)
  (h:∀s',Inv X au (σ.set i (aa v)) H s'->(∃a,zb a s.heap s'.heap/\(a=X.env.locals\/X.env.cells.lookup x=aa a))->Q () s')(hf:X.fn x=aq\/X.env.scope.names.lookup x=aa .local:=by first|exact .inl rfl|exact .inr rfl|assumption):aW M A (storeName X.env x u) Q E s:=by
 obtain⟨m,hn,hl⟩:=id I.loc
 have hcls:(X.env.scope.kind==.class||(X.env.scope.kind==.module&&X.env.locals != X.env.globals))=aM:=by rw[I.ok.kind];rfl
 have hiσ:i<σ.length:=by rw[I.len];exact(jO.mp hi).1
 have Dc:=I.Dc;have tracked:∀{a:aC}{h':cg},(∃o,s.heap.get? a=aa o/\H a=aj)->zb a s.heap h'->jt X.prog X.w H h':=λ{a h'} ha hs b ob e=>by
  obtain⟨_,_,hfree⟩:=ha
  refine(I.hok b ob e).stay (λc w' hc q=>(hs.2 c ?_).trans q) (λ_ q=>q) λ_ _ q=>q
  rintro rfl;rcases hc with rfl|hc
  .rw[hfree] at e;cases e
  .rw[hfree] at hc;cases hc
 rcases hx with hk|hk
 .refine wpAny_storeName_local hk hn (λh' hn' hs=>?_) hcls
  obtain⟨oL,_,_,hoL,_⟩:=id hn
  refine h _ ⟨I.ok,I.os,I.bare,⟨λb o e n hb hx=>?_,λb o e n hb hx=>?_,I.base.free,λb o e hx=>?_,I.base.tups,I.base.yw,I.base.zZ⟩,⟨_,hn',λj y v' e1 e2 e3=>?_⟩,λy c e=>?_,I.free,I.uM,λp hp=>?_,tracked ⟨oL,hoL,I.free⟩ hs,by simpa using I.len⟩ ⟨_,hs,.inl rfl⟩
  .exact(hs.2 b (fQ (pU (cG e) I.ok.above))).trans (I.base.keep b o e n hb hx)
  .obtain⟨sl,e1⟩:=I.base.slot b o e n hb hx
   exact⟨sl,(hs.2 b (fQ (pU (cG e) I.ok.above))).trans e1⟩
  .obtain⟨o',e1⟩:=I.base.there b o e hx
   exact⟨o',(hs.2 b (fQ (pU (cG e) I.ok.above))).trans e1⟩
  .by_cases hj:j=i
   .subst hj;rw[hi] at e1;cases e1;rw[Kf hiσ] at e2;cases e2
    exact⟨u,r,.inl ⟨hk,bI⟩⟩
   .rw[xq (j5 hj)] at e2
    obtain⟨u',r',q⟩:=hl j y v' e1 e2 e3
    refine⟨u',r',?_⟩
    rcases q with⟨k,e⟩|⟨k,c,e,z⟩
    .refine .inl ⟨k,?_⟩;have:y≠x:=λe=>hj (acn hN e1 (e▸hi))
     simp[this,e]
    .exact .inr ⟨k,c,e,z.sameBut hs (Dc y c e)⟩
  .obtain⟨w',z⟩:=I.cell y c e
   exact⟨w',z.sameBut hs (Dc y c e)⟩
  .obtain⟨e,n,ne,nf,d⟩:=I.pin p hp
   exact⟨(hs.2 p.1 ne).trans e,n,ne,nf,d⟩
 .have hfn:X.fn x=aq:=by
   rcases hf with z|z
   .exact z
   .rw[z] at hk;cases hk
  obtain⟨c,hc⟩:=I.ok.has x (.inl hk)
  obtain⟨w',z⟩:=I.cell x c hc
  refine wpAny_storeName_cell I.ok.kind hk hc z (λh' hc' hs=>?_)
  obtain⟨oc,hoc,aqA⟩:=id z
  refine h {s with heap:=h'} ⟨I.ok,I.os,I.bare,⟨λb o e n hb hx=>?_,λb o e n hb hx=>?_,I.base.free,λb o e hx=>?_,I.base.tups,I.base.yw,I.base.zZ⟩,⟨m,hn.sameBut hs (j5 (Dc x c hc)),λj y v' e1 e2 e3=>?_⟩,λy c' e=>?_,I.free,I.uM,λp hp=>?_,tracked ⟨oc,hoc,I.uM x c hc⟩ hs,by simpa using I.len⟩ ⟨c,hs,.inr hc⟩
  .exact(hs.2 b (fQ (pU (cG e) (I.ok.cab x c hfn hc)))).trans (I.base.keep b o e n hb hx)
  .obtain⟨sl,e1⟩:=I.base.slot b o e n hb hx
   exact⟨sl,(hs.2 b (fQ (pU (cG e) (I.ok.cab x c hfn hc)))).trans e1⟩
  .obtain⟨o',e1⟩:=I.base.there b o e hx
   exact⟨o',(hs.2 b (fQ (pU (cG e) (I.ok.cab x c hfn hc)))).trans e1⟩
  .by_cases hj:j=i
   .subst hj;rw[hi] at e1;cases e1;rw[Kf hiσ] at e2;cases e2
    exact⟨u,r,.inr ⟨.inl hk,c,hc,hc'⟩⟩
   .rw[xq (j5 hj)] at e2
    obtain⟨u',r',q⟩:=hl j y v' e1 e2 e3
    refine⟨u',r',?_⟩
    rcases q with q|⟨k,c',e,z'⟩
    .exact .inl q
    .refine .inr ⟨k,c',e,z'.sameBut hs ?_⟩;rintro rfl;exact hj (acn hN e1 (I.ok.inj _ _ _ e hc▸hi))
  .by_cases hcc:c'=c
   .subst hcc;exact⟨_,hc'⟩
   .obtain⟨w2,z2⟩:=I.cell y c' e
    exact⟨w2,z2.sameBut hs hcc⟩
  .obtain⟨e,n,ne,nf,d⟩:=I.pin p hp
   refine⟨(hs.2 p.1 ?_).trans e,n,ne,nf,d⟩
   intro q;rw[q,hoc] at e;have q':oc=p.2:=jy e;exact d w' (by rw[<-q'];exact aqA)
theorem vQ(I:Inv X au σ H s)(hN:X.N.Nodup)(hi:X.N[i]?=aa x)(hx:Loc X.env.scope x)(r:RelV v u)
  (h:∀s',Inv X au (σ.set i (aa v)) H s'->Q () s')(hf:X.fn x=aq\/X.env.scope.names.lookup x=aa .local:=by first|exact .inl rfl|exact .inr rfl|assumption):aW M A (storeName X.env x u) Q E s:=
 Tj I hN hi hx r (λs' I' _=>h s' I') hf
theorem Inv.call'(I:Inv X au σ H s)(ho:s'.os=s.os)(u:Un (frs X.stack) ch H H' s.heap s'.heap)(hok:jt X.prog X.w H' s'.heap)(hg:AllBare s'.gens)
  (hch:∀b∈ch,(b∈X.ex\/X.s₀.heap.objs.size<=b)/\b≠X.env.locals/\(∀x c,X.env.cells.lookup x=aa c->c≠b)/\∀p∈X.pn++au,p.1≠b):Inv X au σ H' s':=by
 obtain⟨h',g',d',t',o'⟩:=s'
 have e:o'=s.os:=ho;subst e;exact I.call (g':=g') (t':=t') (d':=d') u hok hg hch
end
abbrev XK:=aN->Option aC->Hp->Prop
abbrev St:=List (Option V)
abbrev VK:=V->Hp->Prop
abbrev TE:=St->Hp->VK->Prop
abbrev TT:=St->Hp->(Bool->Hp->Prop)->Prop
abbrev TA:=St->Hp->(List V->Hp->Prop)->Prop
structure Ends where
 nx:St->Hp->Prop
 rt:VK
 bk:St->Hp->Prop:=λ_ _=>False
 ct:St->Hp->Prop:=λ_ _=>False
abbrev TS:=Ends->St->Hp->Prop
def EP(X:Cx)(au:List (aC×Obj))(σ:St)(Q:VK)(u:aN)(s':bh):Prop:=∃v H',Inv X au σ H' s'/\RelV v u/\Q v H'
def TP(X:Cx)(au:List (aC×Obj))(σ:St)(Q:Bool->Hp->Prop)(b:Bool)(s':bh):Prop:=∃H',Inv X au σ H' s'/\Q b H'
def AP(X:Cx)(au:List (aC×Obj))(σ:St)(Q:List V->Hp->Prop)(us:List aN)(s':bh):Prop:=∃vs H',Inv X au σ H' s'/\Vals vs us/\Q vs H'
def SP(X:Cx)(au:List (aC×Obj))(D:Ends)(f:Flow)(s':bh):Prop:=
 match f with
 |.next=>∃σ' H',Inv X au σ' H' s'/\D.nx σ' H'
 |.brk=>∃σ' H',Inv X au σ' H' s'/\D.bk σ' H'
 |.cont=>∃σ' H',Inv X au σ' H' s'/\D.ct σ' H'
 |.ret u=>∃v σ' H',Inv X au σ' H' s'/\RelV v u/\D.rt v H'
def PE(X:Cx)(e:Expr)(t:TE):Prop:=
 ∀(au:List (aC×Obj))(s:bh)(σ:St)(H:Hp)(Q:VK),Inv X au σ H s->t σ H Q->aW (model X.prog X.w) X.A (eval e X.env) (EP X au σ Q) X.xe s
def PT(X:Cx)(e:Expr)(t:TT):Prop:=
 ∀(au:List (aC×Obj))(s:bh)(σ:St)(H:Hp)(Q:Bool->Hp->Prop),Inv X au σ H s->t σ H Q->aW (model X.prog X.w) X.A (isTrue e X.env (eval e X.env)) (TP X au σ Q) X.xe s
def PW(X:Cx)(e:Expr)(t:TT):Prop:=
 ∀(whole:Sem aN)(au:List (aC×Obj))(s:bh)(σ:St)(H:Hp)(Q:Bool->Hp->Prop),Inv X au σ H s->t σ H Q->aW (model X.prog X.w) X.A (isTrue e X.env whole) (TP X au σ Q) X.xe s
theorem PW.pt(h:PW X e t):PT X e t:=h _
def PA(X:Cx)(es:List Expr)(t:TA):Prop:=
 ∀(pos:Pos)(au:List (aC×Obj))(s:bh)(σ:St)(H:Hp)(Q:List V->Hp->Prop),Inv X au σ H s->t σ H Q->aW (model X.prog X.w) X.A (Nb (jA pos (bR es X.env))) (AP X au σ Q) X.xe s
def PS(X:Cx)(st:dI)(t:TS):Prop:=
 ∀(au:List (aC×Obj))(s:bh)(σ:St)(H:Hp)(D:Ends),Inv X au σ H s->t D σ H->aW (model X.prog X.w) X.A (exec st X.env) (SP X au D) X.xe s
def je(X:Cx)(st:List dI)(t:TS):Prop:=
 ∀(au:List (aC×Obj))(s:bh)(σ:St)(H:Hp)(D:Ends),Inv X au σ H s->t D σ H->aW (model X.prog X.w) X.A (execs st X.env) (SP X au D) X.xe s
theorem bY{α:Type}{t:Sem α}{Q Q':α->bh->Prop}{M:Model}{s:bh}(h:aW M A t Q E s)(hQ:∀a s,Q a s->Q' a s):aW M A t Q' E s:=sO h hQ λ_ _ x=>x
section
variable{X:Cx}
def qj(i:Nat):TE:=λσ H Q=>∃v,σ[i]?=aa (aa v)/\Q v H
def tC(v:V):TE:=λ_ H Q=>Q v H
theorem WM{pos:Pos}(hN:X.N[i]?=aa x)(hv:Gj X.env.scope x)(hd:(x==("__debug__":Str))=aM:=by decide)(hcd:(x==("__classdict__":Str))=aM:=by decide):PE X (.Name x pos) (qj i):=by
 intro au s σ H Q I h
 obtain⟨v,e,h⟩:=h
 obtain⟨m,hn,hl⟩:=I.loc
 obtain⟨u,r,l⟩:=hl i x v hN e hv
 have fin:EP X au σ Q u s:=⟨v,H,I,r,h⟩
 rcases l with⟨hk,hm⟩|⟨hk,c,hc,hcell⟩
 .exact abd (ahl I.ok.kind hk hn hm fin) hd
 .rcases hk with hk|hk
  .exact abd (ahs I.ok.kind hk hc hcell fin) hd
  .exact abd (wpAny_loadName_free I.ok.kind hk hc hcell fin hcd) hd
theorem gn{i j pos}:PE X (.Constant (.int i) j pos) (tC (.int i)):=λ_ _ _ H _ I h=>wpAny_Constant_int ⟨.int i,H,I.tok _,⟨_,rfl⟩,h⟩
theorem Fo{b j pos}:PE X (.Constant (.bool b) j pos) (tC (.bl b)):=λ_ _ _ H _ I h=>Constant_bool ⟨.bl b,H,I,rfl,h⟩
theorem Oi{j pos}:PE X (.Constant .none j pos) (tC .non):=λ_ _ _ H _ I h=>Constant_none ⟨.non,H,I,rfl,h⟩
theorem di{x j pos}:PE X (.Constant (.str x) j pos) (tC (.str x)):=λ_ _ _ H _ I h=>Calls.Constant_str ⟨.str x,H,I.tok _,⟨_,rfl⟩,h⟩
def Gl(X:Cx)(x:Str):Prop:=X.env.kindOf x=aa .globalImplicit
theorem amt{s:bh}{σ:St}{H:Hp}{x:Str}{u:aN}{pos:Pos}(I:Inv X au σ H s)(hg:Gl X x)(hm:X.mg x=aa u)(h:Q u s)
  (hd:(x==("__debug__":Str))=aM:=by decide):aW (model X.prog X.w) X.A (eval (.Name x pos) X.env) Q E s:=
 ag1 I.ok.kind hg (Calls.loadGlobal_global (by rw[I.ok.glob];exact I.mod.glob.keeps I.bk) hm h) hd
theorem zH{E:aN->bh->Prop}{s:bh}{σ:St}{H:Hp}{x:Str}{u:aN}{pos:Pos}(I:Inv X au σ H s)(hg:Gl X x)(hm:X.mg x=aj)(hv:ur x=aa u)(h:Q u s)
  (hn:x≠"__name__":=by decide)(hd:(x==("__debug__":Str))=aM:=by decide):aW (model X.prog X.w) X.A (eval (.Name x pos) X.env) Q E s:=by
 obtain⟨mb,h1,h2⟩:=I.mod.blt
 exact ag1 I.ok.kind hg (Calls.loadGlobal_builtin (by rw[I.ok.glob];exact I.mod.glob.keeps I.bk) hm (by rw[I.ok.blt];exact h1.keeps I.bk) ((h2 x hn).trans hv) h) hd
theorem rF{v:V}{pos:Pos}(hg:Gl X x)(hm:X.mg x=aj)(hv:ur x=aa u)(r:RelV v u)(hn:x≠"__name__":=by decide)(hd:(x==("__debug__":Str))=aM:=by decide):PE X (.Name x pos) (tC v):=
 λ_ _ _ H _ I h=>zH I hg hm hv ⟨v,H,I,r,h⟩ hn hd
variable{a b:Expr}{ta tb:TE}{pos:Pos}
variable{rest:List Expr}
def afw(t u:TT):TT:=λσ H Q=>t σ H λc H1=>if c=aq then u σ H1 Q else Q aM H1
def tOr(t u:TT):TT:=λσ H Q=>t σ H λc H1=>if c=aq then Q aq H1 else u σ H1 Q
def aqB(t:TT):TT:=λσ H Q=>t σ H λc H1=>Q (!c) H1
theorem pw_and1(ha:PT X a tA):PW X (.BoolOp .And [a] pos) tA:=by
 intro wh au s σ H Q I h;refine isTrue_and (bY (ha au s σ H Q I h) λc s1 e=>?_);cases c with
 |true=>exact isTrue_and_nil e
 |false=>exact e
theorem pw_or1(ha:PT X a tA):PW X (.BoolOp .Or [a] pos) tA:=by
 intro wh au s σ H Q I h;refine isTrue_or (bY (ha au s σ H Q I h) λc s1 e=>?_);cases c with
 |false=>exact isTrue_or_nil e
 |true=>exact e
theorem pw_and(ha:PT X a tA)(hb:PW X (.BoolOp .And (b::rest) pos) Yu):PW X (.BoolOp .And (a::b::rest) pos) (afw tA Yu):=by
 intro wh au s σ H Q I h;refine isTrue_and (bY (ha au s σ H _ I h) λc s1 aY=>?_)
 obtain⟨H1,I1,q1⟩:=aY
 cases c with
 |true=>exact hb wh au s1 σ H1 Q I1 q1
 |false=>exact⟨H1,I1,q1⟩
theorem pw_or(ha:PT X a tA)(hb:PW X (.BoolOp .Or (b::rest) pos) Yu):PW X (.BoolOp .Or (a::b::rest) pos) (tOr tA Yu):=by
 intro wh au s σ H Q I h;refine isTrue_or (bY (ha au s σ H _ I h) λc s1 aY=>?_)
 obtain⟨H1,I1,q1⟩:=aY
 cases c with
 |true=>exact⟨H1,I1,q1⟩
 |false=>exact hb wh au s1 σ H1 Q I1 q1
theorem aob(ha:PT X a tA):PT X (.UnaryOp .Not a pos) (aqB tA):=by
 intro au s σ H Q I h;exact isTrue_not (ha au s σ H (λc H1=>Q (!c) H1) I h)
def aps(ta tb:TE):TE:=λσ H Q=>ta σ H λx H1=>∃c,x=.bl c/\if c=aq then tb σ H1 Q else Q (.bl aM) H1
def apt(ta:TE):TE:=λσ H Q=>ta σ H λx H1=>∃c,x=.bl c/\Q (.bl (!c)) H1
theorem aoc{op}(h:PE X a t):PE X (.BoolOp op [a] pos) t:=λau s σ H Q I hw=>BoolOp_one (h au s σ H Q I hw)
theorem aod(ha:PE X a ta)(hb:PE X (.BoolOp .And (b::rest) pos) tb):PE X (.BoolOp .And (a::b::rest) pos) (aps ta tb):=by
 intro au s σ H Q I h;refine BoolOp_and (bY (ha au s σ H _ I h) λv s1 aY=>?_)
 obtain⟨x,H1,I1,r1,q1⟩:=aY
 obtain⟨c,rfl,q1⟩:=q1
 cases r1;refine yV ?_;cases c with
 |true=>exact hb au s1 σ H1 Q I1 q1
 |false=>exact⟨.bl aM,H1,I1,rfl,q1⟩
theorem aoe(ha:PE X a ta):PE X (.UnaryOp .Not a pos) (apt ta):=by
 intro au s σ H Q I h;refine UnaryOp_ (bY (ha au s σ H _ I h) λv s1 aY=>?_)
 obtain⟨x,H1,I1,r1,q1⟩:=aY
 obtain⟨c,rfl,q1⟩:=q1
 cases r1;exact not_of (yV ⟨.bl (!c),H1,I1,rfl,q1⟩)
def tIf(t:TT)(ta tb:TE):TE:=λσ H Q=>t σ H λc H1=>if c=aq then ta σ H1 Q else tb σ H1 Q
theorem akV(hc:PT X c tA)(ha:PE X a ta)(hb:PE X b tb):PE X (.IfExp c a b pos) (tIf tA ta tb):=by
 intro au s σ H Q I h;refine wpAny_IfExp (bY (hc au s σ H _ I h) λd s1 aY=>?_)
 obtain⟨H1,I1,q1⟩:=aY
 cases d with
 |true=>exact ha au s1 σ H1 Q I1 q1
 |false=>exact hb au s1 σ H1 Q I1 q1
end
def cj(K:aZ)(H:Hp)(a:aC)(xs:List V):Prop:=
 Rd H a (.lst xs)\/
  ∃(o:Obj)(aK:Array aN)(n:Nat),K.lookup a=aa o/\o.cls=.type "list"/\o.dict=aj/\o.data=.seq aK n/\aK.size<=cJ/\Vals xs aK.toList
def cU(K:aZ)(H:Hp)(a:aC)(xs:List V):Prop:=
 Rd H a (.tup xs)\/
  ∃(o:Obj)(aK:Array aN)(n:Nat),K.lookup a=aa o/\o.cls=.type "tuple"/\o.data=.seq aK n/\aK.size<=cJ/\Vals xs aK.toList
def aqC:aN->Option V
 |.none=>aa .non
 |.bool b=>aa (.bl b)
 |.int i _=>aa (.int i)
 |.str x _=>aa (.str x)
 |.bytes b _=>aa (.sy b)
 |.float b _=>aa (.flt b)
 |.ref a=>aa (.ref a)
 |.type n=>aa (.ty n)
 |_=>aj
theorem RelV.abs(r:RelV x u):aqC u=aa x:=by
 cases x with
 |non=>cases r;rfl
 |bl _=>cases r;rfl
 |int _=>obtain⟨t,rfl⟩:=r;rfl
 |str _=>obtain⟨t,rfl⟩:=r;rfl
 |sy _=>obtain⟨t,rfl⟩:=r;rfl
 |flt _=>obtain⟨t,rfl⟩:=r;rfl
 |ref _=>cases r;rfl
 |ty _=>cases r;rfl
theorem RelV.inj(r:RelV x u)(q:RelV y u):x=y:=jy (r.abs.symm.trans q.abs)
theorem Vals.inj:∀{xs ys:List V}{us:List aN},Vals xs us->Vals ys us->xs=ys
 |_,_,_,.nil,.nil=>rfl
 |_,_,_,.cons r t,.cons r' t'=>by rw[r.inj r',Vals.inj t t']
section
variable{X:Cx}{σ:St}{H:Hp}{a:aC}
theorem cj.of{K:aZ}(h:H a=aa (.lst xs)):cj K H a xs:=.inl (.inl h)
theorem cU.of{K:aZ}(h:H a=aa (.tup xs)):cU K H a xs:=.inl (.inl h)
theorem Inv.list(I:Inv X au σ H s)(h:cj X.K H a xs):∃aK:List aN,Vals xs aK/\PlainL s.heap a aK.toArray/\xs.length<=cJ:=by
 rcases h with h|⟨o,aK,n,hk,hc,hd,hs,hz,r⟩
 .obtain⟨z,aK,n,r,e⟩:=h.ok I.hok
  exact⟨aK,r,⟨_,n,e,rfl,rfl,rfl⟩,z⟩
 .refine⟨aK.toList,r,⟨o,n,I.jL a o hk,hc,hd,by simpa using hs⟩,?_⟩
  have e:=r.length;simp only[m9] at e;lia
theorem Inv.tuple(I:Inv X au σ H s)(h:cU X.K H a xs):∃aK:List aN,Vals xs aK/\IsTup s.heap a aK.toArray/\xs.length<=cJ:=by
 rcases h with h|⟨o,aK,n,hk,hc,hs,hz,r⟩
 .obtain⟨z,aK,r,p⟩:=h.ok I.hok
  exact⟨aK,r,p,z⟩
 .refine⟨aK.toList,r,⟨o,I.jL a o hk,hc,n,by simpa using hs⟩,?_⟩
  have e:=r.length;simp only[m9] at e;lia
theorem Inv.Uh(I:Inv X au σ H s)(h:cj X.K H a xs)(h':cj X.K H a ys):xs=ys:=by
 obtain⟨aK,r,⟨o,n,e,_,_,d⟩,_⟩:=I.list h
 obtain⟨its',r',⟨o',n',e',_,_,d'⟩,_⟩:=I.list h'
 rw[e] at e';cases e';rw[d] at d';injection d' with d1 _
 have:aK=its':=by simpa using congrArg aiM d1
 subst this;exact r.inj r'
theorem Inv.Tn(I:Inv X au σ H s)(h:cU X.K H a xs)(h':cU X.K H a ys):xs=ys:=by
 obtain⟨aK,r,⟨o,e,_,n,d⟩,_⟩:=I.tuple h
 obtain⟨its',r',⟨o',e',_,n',d'⟩,_⟩:=I.tuple h'
 rw[e] at e';cases e';rw[d] at d';injection d' with d1 _
 have:aK=its':=by simpa using congrArg aiM d1
 subst this;exact r.inj r'
end
abbrev Cx.wish(X:Cx)(E:aN->bh->Prop):Cx:={X with xe:=E}
abbrev Cx.JN(X:Cx):Cx:=X.wish λ_ _=>False
theorem Cx.Ok.wish{X:Cx}(ok:X.Ok)(E:aN->bh->Prop):(X.wish E).Ok:=
 ⟨ok.mod,ok.kind,ok.glob,ok.blt,ok.above,ok.inj,ok.has,ok.cab,ok.hd,ok.frames,ok.stk,ok.exf,ok.bs,ok.Ag,ok.Jt,ok.Qa,ok.uV,ok.Gk⟩
theorem Cx.Ok.zJ{X:Cx}(ok:(X.wish E).Ok):X.Ok:=
 ⟨ok.mod,ok.kind,ok.glob,ok.blt,ok.above,ok.inj,ok.has,ok.cab,ok.hd,ok.frames,ok.stk,ok.exf,ok.bs,ok.Ag,ok.Jt,ok.Qa,ok.uV,ok.Gk⟩
section
variable{X:Cx}{σ:St}{H:Hp}
theorem Inv.wish(I:Inv X au σ H s)(E:aN->bh->Prop):Inv (X.wish E) au σ H s:=⟨I.ok.wish E,I.os,I.bare,I.base,I.loc,I.cell,I.free,I.uM,I.pin,I.hok,I.len⟩
theorem Inv.zJ(I:Inv (X.wish E) au σ H s):Inv X au σ H s:=⟨I.ok.zJ,I.os,I.bare,I.base,I.loc,I.cell,I.free,I.uM,I.pin,I.hok,I.len⟩
theorem SP.zJ(h:SP (X.wish E) au D f s'):SP X au D f s':=by
 cases f with
 |next=>obtain⟨σ',H',I,q⟩:=h;exact⟨σ',H',I.zJ,q⟩
 |brk=>obtain⟨σ',H',I,q⟩:=h;exact⟨σ',H',I.zJ,q⟩
 |cont=>obtain⟨σ',H',I,q⟩:=h;exact⟨σ',H',I.zJ,q⟩
 |ret u=>obtain⟨v,σ',H',I,r,q⟩:=h;exact⟨v,σ',H',I.zJ,r,q⟩
theorem je.JN{st:List dI}(h:je X.JN st t):je X st t:=λau s σ H D I hw=>
 sO (h au s σ H D (I.wish _) hw) (λ_ _ q=>q.zJ) λ_ _ z=>xR z
end
section
variable{X:Cx}{st:dI}{rest:List dI}{t u:TS}{e:Expr}{te:TE}
def apu:TS:=λD σ H=>D.nx σ H
def X3(t u:TS):TS:=λD σ H=>t {D with nx:=u D} σ H
theorem amu:je X [] apu:=λ_ _ σ H _ I h=>Rq ⟨σ,H,I,h⟩
theorem Ui(h1:PS X st t)(h2:je X rest u):je X (st::rest) (X3 t u):=by
 intro au s σ H D I h;refine ahW (bY (h1 au s σ H {D with nx:=u D} I h) λf s1 q=>?_);cases f with
 |next=>
  obtain⟨σ',H',I',q⟩:=q
  exact h2 au s1 σ' H' D I' q
 |ret v=>exact q
 |brk=>exact q
 |cont=>exact q
theorem ado(h1:PS X st t):je X [st] t:=by
 intro au s σ H D I h;refine ahW (bY (h1 au s σ H D I h) λf s1 q=>?_);cases f with
 |next=>exact Rq q
 |ret v=>exact q
 |brk=>exact q
 |cont=>exact q
theorem Inv.quiet{σ:St}{H:Hp}(I:Inv X au σ H s):interactive X.env=aM:=by simp[interactive,I.ok.kind]
def apv(te:TE):TS:=λD σ H=>te σ H λ_ H1=>D.nx σ H1
theorem adp(he:PE X e te)(hs:sW e aj pos.line X.env=pure aM:=by rfl):PS X (.Expr e pos) (apv te):=by
 intro au s σ H D I h;exact wpAny_Expr_any (bY (he au s σ H _ I h) λv s1 ⟨x,H1,I1,r1,q1⟩=>⟨σ,H1,I1,q1⟩) I.quiet hs
def afx(te:TE):TS:=λD σ H=>te σ H D.rt
theorem WN(he:PE X e te):PS X (.Return (aa e) pos) (afx te):=by
 intro au s σ H D I h;exact wpAny_Return_some (bY (he au s σ H _ I h) λv s1 ⟨x,H1,I1,r1,q1⟩=>⟨x,σ,H1,I1,r1,q1⟩)
def aqD(c:TT)(t u:TS):TS:=λD σ H=>c σ H λb H1=>if b=aq then t D σ H1 else u D σ H1
theorem apw(hc:PT X c tc)(ha:je X a t)(hb:je X b u):PS X (.If c a b pos) (aqD tc t u):=by
 intro au s σ H D I h;refine wpAny_If (bY (hc au s σ H _ I h) λd s1 aY=>?_)
 obtain⟨H1,I1,q1⟩:=aY
 cases d with
 |true=>exact ha au s1 σ H1 D I1 q1
 |false=>exact hb au s1 σ H1 D I1 q1
end
abbrev TG:=V->St->Hp->(St->Hp->Prop)->Prop
abbrev Dd:=List V->St->Hp->(St->Hp->Prop)->Prop
def PG(X:Cx)(target:Expr)(t:TG):Prop:=
 ∀(au:List (aC×Obj))(s:bh)(σ:St)(H:Hp)(v:V)(u:aN)(Q:St->Hp->Prop),Inv X au σ H s->RelV v u->t v σ H Q->
  aW (model X.prog X.w) X.A (assign target X.env u) (λ_ s'=>∃σ' H',Inv X au σ' H' s'/\Q σ' H') X.xe s
def Qq(X:Cx)(ts:List Expr)(t:Dd):Prop:=
 ∀(au:List (aC×Obj))(s:bh)(σ:St)(H:Hp)(vs:List V)(us:List aN)(Q:St->Hp->Prop),Inv X au σ H s->Vals vs us->t vs σ H Q->
  aW (model X.prog X.w) X.A (G3 ((sU ts X.env).map (·.2)) us) (λ_ s'=>∃σ' H',Inv X au σ' H' s'/\Q σ' H') X.xe s
abbrev afy:=V->V->V->Hp->(Hp->Prop)->Prop
def yz(X:Cx)(t:afy):Prop:=
 ∀(au:List (aC×Obj))(s:bh)(σ:St)(H:Hp)(o i v:V)(ov iv u:aN)(Q:Hp->Prop),Inv X au σ H s->RelV o ov->RelV i iv->RelV v u->t o i v H Q->
  aW (model X.prog X.w) X.A (Ie ov iv u) (λ_ s'=>∃H',Inv X au σ H' s'/\Q H') X.xe s
abbrev Yv:=V->V->Hp->VK->Prop
def PIp(X:Cx)(op:Operator)(t:Yv):Prop:=
 ∀(au:List (aC×Obj))(s:bh)(σ:St)(H:Hp)(x y:V)(v u:aN)(Q:VK),Inv X au σ H s->RelV x v->RelV y u->t x y H Q->
  aW (model X.prog X.w) X.A (inplaceOp op v u) (EP X au σ Q) X.xe s
section
variable{pos:Pos}
def uN(i:Nat):TG:=λv σ H Q=>Q (σ.set i (aa v)) H
theorem adq(hN:X.N.Nodup)(hi:X.N[i]?=aa x)(hx:Loc X.env.scope x)(hf:X.fn x=aq\/X.env.scope.names.lookup x=aa .local:=by first|exact .inl rfl|exact .inr rfl|assumption):PG X (.Name x pos) (uN i):=by
 intro au s σ H v u Q I r h;exact Kr (vQ I hN hi hx r (λs' I'=>⟨_,H,I',h⟩) hf)
def X4:Dd:=λvs σ H Q=>vs=[]/\Q σ H
def Xq(t:TG)(u:Dd):Dd:=λvs σ H Q=>∃v r,vs=v::r/\t v σ H λσ' H'=>u r σ' H' Q
theorem Ig:Qq X [] X4:=by
 intro au s σ H vs us Q I r h
 obtain⟨e,h⟩:=h
 subst e;cases r;exact assignInOrder_nil ⟨σ,H,I,h⟩
theorem uy(h1:PG X e t)(h2:Qq X es u)
  (hs:(sU (e::es) X.env).map (·.2)=assign e X.env::(sU es X.env).map (·.2):=by rfl):Qq X (e::es) (Xq t u):=by
 intro au s σ H vs us Q I r h
 obtain⟨v,vr,e1,h⟩:=h
 subst e1;cases r with
 |cons r rr=>
  rw[hs];refine assignInOrder_cons (bY (h1 au s σ H _ _ _ I r h) λ_ s1 aY=>?_)
  obtain⟨σ1,H1,I1,q1⟩:=aY
  exact h2 au s1 σ1 H1 _ _ Q I1 rr q1
def X5(K:aZ)(n:Nat)(t:Dd):TG:=λv σ H Q=>∃a xs,v=.ref a/\cU K H a xs/\xs.length=n/\t xs σ H Q
theorem Ir{es:List Expr}{k:Nat}{n:Nat}(hc:X.calm=aq)(h:Qq X es t)
  (hn:(sU es X.env).length=n:=by rfl)(hst:(sU es X.env).findIdx? (·.1)=aj:=by rfl):PG X (.Tuple es k pos) (X5 X.K n t):=by
 intro au s σ H v u Q I r hw
 obtain⟨a,xs,e1,hq,hl,hw⟩:=hw
 subst e1;cases r
 obtain⟨aK,rv,ht,hz⟩:=I.tuple hq
 refine assign_Tuple_tuple (I.ok.hd hc) ht (by simp[hn,<-hl,rv.length]) hst λh' hx=>?_
 have I1:Inv X au σ H {s with heap:=h'}:=I.kept (t':=s.toks) λb o e=>hx b o (fQ (cG e)) e
 exact h au _ σ H xs _ Q I1 (by simpa using rv) hw
def aqE(to ti:TE)(t:afy):TG:=λv σ H Q=>to σ H λo H1=>ti σ H1 λi H2=>t o i v H2 λH3=>Q σ H3
theorem WQ(ho:PE X o to)(hi:PE X i ti)(hs:yz X t)
  (ha:∀v,assign (.Subscript o i pos) X.env v=(do
   let ov <-nA [v] (eval o X.env)
   let iv <-nA [v,ov] (eval i X.env)
   tD pos
   nA [v,ov,iv] (Ie ov iv v)
   release [v,ov,iv] []):=by intro _;rfl):PG X (.Subscript o i pos) (aqE to ti t):=by
 intro au s σ H v u Q I r h;rw[ha];refine aF (nj (bY (ho au s σ H _ I h) λov s1 aY=>?_))
 obtain⟨x,H1,I1,r1,q1⟩:=aY
 refine aF (nj (bY (hi au s1 σ H1 _ I1 q1) λiv s2 aY=>?_))
 obtain⟨y,H2,I2,r2,q2⟩:=aY
 refine aF (xM (aF (nj (bY (hs au s2 σ H2 x y v ov iv u _ I2 r1 r2 r q2) λ_ s3 aY=>?_))))
 obtain⟨H3,I3,q3⟩:=aY
 exact wpAny_release ⟨σ,H3,I3,q3⟩
def CP(te:TE)(g:TG):TS:=λD σ H=>te σ H λx H1=>g x σ H1 D.nx
theorem Iu{tg e:Expr}(he:PE X e te)(hg:PG X tg g)(hs:xN [tg] e pos.line X.env=pure aM:=by rfl)(hw:xO [tg] e X.env=pure aj:=by rfl)
  (h1:(sU [tg] X.env).map (·.2)=[assign tg X.env]:=by rfl):PS X (.Assign [tg] e pos) (CP te g):=by
 intro au s σ H D I h;refine wpAny_Assign_stores (bY (he au s σ H _ I h) λv s1 aY=>?_) hs hw
 obtain⟨x,H1,I1,r1,q1⟩:=aY
 rw[h1];exact bY (hg au s1 σ H1 x v _ I1 r1 q1) λ_ s2 q=>q
theorem Oj{x:Str}{te:TE}{pos':Pos}(hN:X.N.Nodup)(hi:X.N[i]?=aa x)(hx:Loc X.env.scope x)(he:PE X e te)(hs:sW e (aa (.Name x pos')) pos.line X.env=pure aM:=by rfl)(hf:X.fn x=aq\/X.env.scope.names.lookup x=aa .local:=by first|exact .inl rfl|exact .inr rfl|assumption):
  PS X (.Assign [.Name x pos'] e pos) (CP te (uN i)):=by
 intro au s σ H D I h;refine wpAny_Assign_Name (bY (he au s σ H _ I h) λv s1 aY=>?_) hs
 obtain⟨y,H1,I1,r1,q1⟩:=aY
 exact vQ I1 hN hi hx r1 (λs2 I2=>⟨_,H1,I2,q1⟩) hf
def aqF(i j:Nat)(ta:TA):TS:=λD σ H=>ta σ H λvs H1=>∃v w,vs=[v,w]/\D.nx ((σ.set i (aa v)).set j (aa w)) H1
theorem aof{kt k2 o7}(hc:X.calm=aq)(hN:X.N.Nodup)(hi:X.N[i]?=aa x)(hj:X.N[j]?=aa y)(hij:i≠j)
  (hx:X.env.scope.names.lookup x=aa .local)(hy:X.env.scope.names.lookup y=aa .local)(ha:PA X [a,b] ta)
  (hw:xO [.Tuple [.Name x px,.Name y py] kt pt] (.Tuple [a,b] k2 o7) X.env=pure (aa [x,y]))
  (hs:xN [.Tuple [.Name x px,.Name y py] kt pt] (.Tuple [a,b] k2 o7) pos.line X.env=pure aM:=by rfl):
  PS X (.Assign [.Tuple [.Name x px,.Name y py] kt pt] (.Tuple [a,b] k2 o7) pos) (aqF i j ta):=by
 intro au s σ H D I h;rw[exec_Assign_arm];refine aF (xM ?_);rw[hs];refine aF (bA ?_);rw[bH aR];refine aF (Tuple_ (bY (ha _ au s σ H _ I h) λus s1 aY=>?_))
 obtain⟨vs,H1,I1,r1,q1⟩:=aY
 obtain⟨v,w,e1,q1⟩:=q1
 subst e1
 obtain⟨u1,u2,rfl,rv,rw'⟩:∃u1 u2,us=[u1,u2]/\RelV v u1/\RelV w u2:=by
  cases r1 with
  |cons p q=>
   cases q with
   |cons p' q'=>
    cases q'
    exact⟨_,_,rfl,p,p'⟩
 refine lZ ?_ (by show 2<=cJ;decide);have I2:Inv X au σ H1 {s1 with heap:=s1.heap.push {cls:=.type "tuple",data:=.seq [u1,u2].toArray}}:=I1.kept (t':=s1.toks) λb o e=>cD _ e
 rw[hw];refine aF (bA ?_);show aW (model X.prog X.w) X.A (do rule "assign.swapped-stores";let items <-unpackItems (.ref s1.heap.objs.size) 2 aj;G3 [λv=>xT X.env y v,λv=>xT X.env x v] items.reverse;pure Tp) _ _ _;refine aF (sV (aF (unpackItems_tuple (items:=#[u1,u2]) (I.ok.hd hc) (IsTup.new s1.heap _) λh' hx'=>?_)));have I3:=I2.kept (h':=h') (t':=s1.toks) λb o e=>hx' b o (fQ (cG e)) e
 show aW _ _ (G3 [λv=>xT X.env y v,λv=>xT X.env x v] [u2,u1] >>= λ_=>pure Tp) _ _ _;refine aF (assignInOrder_cons (KD (vQ I3 hN hj (.inl hy) rw' (λs2 I4=>?_) (.inr hy))));refine assignInOrder_cons (KD (vQ I4 hN hi (.inl hx) rv (λs3 I5=>assignInOrder_nil (bA ?_)) (.inr hx)));rw[RB _ _ (j5 hij)] at I5
 exact⟨_,H1,I5,q1⟩
def aqG(i:Nat)(te:TE)(ti:Yv):TS:=λD σ H=>∃x,σ[i]?=aa (aa x)/\te σ H λy H1=>ti x y H1 λz H2=>D.nx (σ.set i (aa z)) H2
theorem aog(hN:X.N.Nodup)(hi:X.N[i]?=aa x)(hx:Loc X.env.scope x)(he:PE X e te)(ho:PIp X op ti)(hf:X.fn x=aq\/X.env.scope.names.lookup x=aa .local:=by first|exact .inl rfl|exact .inr rfl|assumption):
  PS X (.AugAssign (.Name x pos') op e pos) (aqG i te ti):=by
 intro au s σ H D I h
 obtain⟨v,e1,h⟩:=h
 obtain⟨m,hn,hl⟩:=I.loc
 have vis:Gj X.env.scope x:=by rcases hx with k|k;exact .inl k;exact .inr (.inl k)
 obtain⟨u,r,l⟩:=hl i x v hi e1 vis
 refine wpAny_AugAssign_Name ?_;have go:aW (model X.prog X.w) X.A (eval e X.env) (λw s₂=>aW (model X.prog X.w) X.A (inplaceOp op u w) (λr s₃=>aW (model X.prog X.w) X.A (storeName X.env x r) (λ_=>SP X au D .next) X.xe s₃) X.xe s₂) X.xe s:=by
  refine bY (he au s σ H _ I h) λw s1 aY=>?_
  obtain⟨y,H1,I1,r1,q1⟩:=aY
  refine bY (ho au s1 σ H1 v y u w _ I1 r r1 q1) λz s2 aY=>?_
  obtain⟨zv,H2,I2,r2,q2⟩:=aY
  exact vQ I2 hN hi hx r2 (λs3 I3=>⟨_,H2,I3,q2⟩) hf
 rcases l with⟨hk,hm⟩|⟨hk,c,hc,hcell⟩
 .exact ahl I.ok.kind hk hn hm go
 .rcases hk with hk|hk
  .exact ahs I.ok.kind hk hc hcell go
  .rcases hx with k|k
   .have:X.env.scope.names.lookup x=aa .free:=hk;rw[k] at this;cases this
   .have:X.env.scope.names.lookup x=aa .free:=hk;rw[k] at this;cases this
def ipI(f:Int->Int->Int):Yv:=λx y H Q=>∃i j,x=.int i/\y=.int j/\Q (.int (f i j)) H
theorem aoh:PIp X .Add (ipI λi j=>i+j):=by
 intro au s σ H x y v u Q I r1 r2 h
 obtain⟨i,j,e1,e2,q⟩:=h
 subst e1;subst e2
 obtain⟨t,rfl⟩:=r1
 obtain⟨t',rfl⟩:=r2
 exact iadd_int ⟨.int _,H,I.tok _,⟨_,rfl⟩,q⟩
end
section
variable{X:Cx}{pos:Pos}
def aey(c:TT)(tb:TS):TS:=λD σ H=>∃W:Nat->St->Hp->Prop,(∃m,W m σ H)/\∀m σ H,W m σ H->
 c σ H λb H1=>if b=aq then ∃N:St->Hp->Prop,(∀σ' H',N σ' H'->∃m',m'<m/\W m' σ' H')/\tb {D with nx:=N,ct:=N,bk:=D.nx} σ H1 else D.nx σ H1
theorem akW(hp:Ma (model X.prog X.w) X.A X.env X.xe)(hc:PT X c tc)(hb:je X body tb):PS X (.While c body [] pos) (aey tc tb):=by
 intro au s σ H D I h
 obtain⟨W,⟨m0,w0⟩,turn⟩:=h
 refine wpAny_While (codeAny_whileLoop (λn s'=>∃σ' H',Inv X au σ' H' s'/\W n σ' H') ?_ m0 ⟨σ,H,I,w0⟩);rintro n s1 ⟨σ1,H1,I1,w1⟩;refine Dw hp (bY (hc au s1 σ1 H1 _ I1 (turn n σ1 H1 w1)) λb s2 aY=>?_)
 obtain⟨H2,I2,q2⟩:=aY
 cases b with
 |true=>
  obtain⟨N,hN,q2⟩:=q2
  rw[bG rfl];refine Dw hp (bY (hb au s2 σ1 H2 _ I2 q2) λf s3 q3=>?_);cases f with
  |next=>
   obtain⟨σ3,H3,I3,n3⟩:=q3
   obtain⟨m',hm,w3⟩:=hN σ3 H3 n3
   exact⟨m',hm,σ3,H3,I3,w3⟩
  |cont=>
   obtain⟨σ3,H3,I3,n3⟩:=q3
   obtain⟨m',hm,w3⟩:=hN σ3 H3 n3
   exact⟨m',hm,σ3,H3,I3,w3⟩
  |brk=>exact q3
  |ret v=>exact q3
 |false=>
  rw[bH jm];exact Rq ⟨σ1,H2,I2,q2⟩
end
structure It where
 go:Nat->Hp->Prop
 JP:Nat->Hp->V->Hp->Prop
 stop:Nat->Hp->Prop
def kO(X:Cx)(au:List (aC×Obj))(H:Hp)(b:aC):Prop:=
 H b=aj/\b≠X.env.locals/\b∉X.fs/\(b∈X.ex\/X.s₀.heap.objs.size<=b)/\(∀x c,X.env.cells.lookup x=aa c->c≠b)/\∀p∈X.pn++au,p.1≠b
theorem Inv.wO{X:Cx}{σ:St}{b:aC}(I:Inv X au σ H s)(hb:s.heap.objs.size<=b)(hn:H' b=aj):kO X au H' b:=by
 refine⟨hn,vK (pU I.lt hb),I.aqz hb,.inr (mq I.sz hb),λx c e z=>?_,λp hp z=>?_⟩
 .obtain⟨v,q⟩:=I.cell x c e
  exact absurd (pU q.lt (by rw[z];exact hb)) (xK _)
 .exact absurd (pU (cG (I.pin p hp).1) (by rw[z];exact hb)) (xK _)
structure Turn(P:fj)(w:c7)(K:aZ)(tg:Expr)(J:It)(fp:List aC)(it:aC)(tn:Nat->cg->Prop):Prop where
 mem:it∈fp
 obj:∀i h,tn i h->∀b∈fp,∃o,h.get? b=aa o/\∀v,o.data≠.cell v
 keep:∀i h h',tn i h->(∀b∈fp,∀o,h.get? b=aa o->h'.get? b=aa o)->tn i h'
 item:∀(X:Cx),X.prog=P->X.w=w->X.K=K->X.calm=aq->∀(i:Nat)(au:List (aC×Obj))(s:bh)(σ:St)(H:Hp)(E:aN->bh->Prop),Inv X au σ H s->(∀b∈fp,kO X au H b)->tn i s.heap->J.go i H->
  aW (model P w) X.A (j6 (.ref it)) (λr s1=>∃u,r=aa u/\
   aW (model P w) X.A (Bb tg (.ref it) u) (λ_ s2=>∃x H',Inv X au σ H' s2/\RelV x u/\J.JP i H x H'/\tn (i+1) s2.heap/\∀b∈fp,H' b=aj) E s1) E s
 done:∀(X:Cx),X.prog=P->X.w=w->X.K=K->X.calm=aq->∀(i:Nat)(au:List (aC×Obj))(s:bh)(σ:St)(H:Hp)(E:aN->bh->Prop),Inv X au σ H s->(∀b∈fp,kO X au H b)->tn i s.heap->J.stop i H->
  aW (model P w) X.A (j6 (.ref it)) (λr s1=>r=aj/\Inv X au σ H s1) E s
 self:∀(A:gV)(i:Nat)(s:bh)(Q:aN->bh->Prop)(E:aN->bh->Prop),tn i s.heap->Q (.ref it) s->aW (model P w) A (Ez (.ref it)) Q E s
abbrev TI:=St->Hp->(It->Hp->Prop)->Prop
def PIE(X:Cx)(au:List (aC×Obj))(σ:St)(tg:Expr)(R:It->Hp->Prop)(itv:aN)(s2:bh):Prop:=
 ∃(it:aC)(fp:List aC)(tn:Nat->cg->Prop)(J:It)(H':Hp),itv=.ref it/\Inv X au σ H' s2/\Turn X.prog X.w X.K tg J fp it tn/\tn 0 s2.heap/\(∀b∈fp,kO X au H' b)/\R J H'
def PI(X:Cx)(tg iter:Expr)(wi:TI):Prop:=
 ∀(au:List (aC×Obj))(s:bh)(σ:St)(H:Hp)(R:It->Hp->Prop),Inv X au σ H s->wi σ H R->
  aW (model X.prog X.w) X.A (eval iter X.env) (λv s1=>aW (model X.prog X.w) X.A (Ez v) (PIE X au σ tg R) X.xe s1) X.xe s
theorem Pk(ho:s.heap.get? it=aa o)(hc:o.cls=.type n)(hd:o.data=.fields vs)
  (hn:["enumerate","zip","dict_itemiterator","dict_reverseitemiterator","odict_iterator","itertools.zip_longest","itertools.pairwise"].contains n=aM)(hQ:Q () s):aW M A (Bb tg (.ref it) u) Q E s:=by
 unfold Bb;cases tg<;>first
  |exact bA hQ
  |(cases u<;>first
    |exact bA hQ
    |(refine aF (Ln ho ?_)
      rw[hc,hd];show aW M A (if(["enumerate","zip","dict_itemiterator","dict_reverseitemiterator","odict_iterator","itertools.zip_longest","itertools.pairwise"].contains n&&vs[0]?==aa (jo _))=aq then _ else _) Q E s;rw[bH (by intro h;rw[hn,aar] at h;cases h)];exact bA hQ))
def Yw(K:aZ)(a:aC):It:=
 ⟨λi H=>∃xs x,cj K H a xs/\xs[i]?=aa x,λi H x H'=>H'=H/\∀xs,cj K H a xs->xs[i]?=aa x,λi H=>∃xs,cj K H a xs/\xs.length<=i⟩
def Yx(K:aZ)(a:aC):It:=
 ⟨λi H=>∃xs x,cU K H a xs/\xs[i]?=aa x,λi H x H'=>H'=H/\∀xs,cU K H a xs->xs[i]?=aa x,λi H=>∃xs,cU K H a xs/\xs.length<=i⟩
def Qs(lo:Int)(n:Nat):It:=⟨λi _=>i<n,λi H x H'=>H'=H/\x=.int (lo+i),λi _=>n<=i⟩
theorem ajX{P:fj}{w:c7}{K:aZ}{tg:Expr}(a it:aC):Turn P w K tg (Yw K a) [it] it (λi h=>h.IsListIter it a i) where
 mem:=bI
 obj:=λi h st b hb=>by
  have e:b=it:=by simpa using hb
  subst e
  obtain⟨o,e,c,d⟩:=st
  exact⟨o,e,λv z=>by rw[d] at z;cases z⟩
 keep:=λi h h' st k=>st.at λo e=>k it bI o e
 item:=by
  intro X hP hw hK hc i au s σ H E I hf st hg;subst hP hw hK
  obtain⟨xs,x,hq,hx⟩:=hg
  obtain⟨aK,rv,p,hz⟩:=I.list hq
  obtain⟨u,hu,ru⟩:=rv.get hx
  obtain⟨f0,f1,f2,f3,f4,f5⟩:=hf it bI
  refine wpAny_pyNext_list_item st p.isList (x:=u) (by simpa using hu) λh' st' sb=>?_
  have I1:Inv X au σ H {s with heap:=h'}:=I.turned (t':=s.toks) (λb o hb e=>(sb.2 b hb).trans e) f0 f1 f3 f4 f5
  obtain⟨o,e,c,d⟩:=id st'
  exact⟨u,rfl,Pk (s:={s with heap:=h'}) e c d aR ⟨x,H,I1,ru,⟨rfl,λys hy=>by rw[I.Uh hy hq];exact hx⟩,st',λb hb=>(hf b hb).1⟩⟩
 done:=by
  intro X hP hw hK hc i au s σ H E I hf st hg;subst hP hw hK
  obtain⟨xs,hq,hx⟩:=hg
  obtain⟨aK,rv,p,hz⟩:=I.list hq
  obtain⟨f0,f1,f2,f3,f4,f5⟩:=hf it bI
  have hl:=rv.length;exact wpAny_pyNext_list_end (I.ok.hd hc) st p.isList (by simp;lia) λh' eb=>⟨rfl,I.turned (t':=s.toks) (λb o hb e=>eb b o hb e) f0 f1 f3 f4 f5⟩
 self:=λ_ _ _ _ _ st h=>wpAny_pyIter_listiter st h
theorem ajg{P:fj}{w:c7}{K:aZ}{tg:Expr}(a it:aC):Turn P w K tg (Yx K a) [it] it (λi h=>h.IsTupleIter it a i) where
 mem:=bI
 obj:=λi h st b hb=>by
  have e:b=it:=by simpa using hb
  subst e
  obtain⟨o,e,c,d⟩:=st
  exact⟨o,e,λv z=>by rw[d] at z;cases z⟩
 keep:=λi h h' st k=>st.at λo e=>k it bI o e
 item:=by
  intro X hP hw hK hc i au s σ H E I hf st hg;subst hP hw hK
  obtain⟨xs,x,hq,hx⟩:=hg
  obtain⟨aK,rv,p,hz⟩:=I.tuple hq
  obtain⟨u,hu,ru⟩:=rv.get hx
  obtain⟨f0,f1,f2,f3,f4,f5⟩:=hf it bI
  refine wpAny_pyNext_tuple_item st (show s.heap.IsTuple a aK.toArray from p) (x:=u) (by simpa using hu) λh' st' sb=>?_
  have I1:Inv X au σ H {s with heap:=h'}:=I.turned (t':=s.toks) (λb o hb e=>(sb.2 b hb).trans e) f0 f1 f3 f4 f5
  obtain⟨o,e,c,d⟩:=id st'
  exact⟨u,rfl,Pk (s:={s with heap:=h'}) e c d aR ⟨x,H,I1,ru,⟨rfl,λys hy=>by rw[I.Tn hy hq];exact hx⟩,st',λb hb=>(hf b hb).1⟩⟩
 done:=by
  intro X hP hw hK hc i au s σ H E I hf st hg;subst hP hw hK
  obtain⟨xs,hq,hx⟩:=hg
  obtain⟨aK,rv,p,hz⟩:=I.tuple hq
  obtain⟨f0,f1,f2,f3,f4,f5⟩:=hf it bI
  have hl:=rv.length;exact wpAny_pyNext_tuple_end (I.ok.hd hc) st (show s.heap.IsTuple a aK.toArray from p) (by simp;lia) λh' eb=>⟨rfl,I.turned (t':=s.toks) (λb o hb e=>eb b o hb e) f0 f1 f3 f4 f5⟩
 self:=λ_ _ _ _ _ st h=>wpAny_pyIter_tupleiter st h
theorem ajh{P:fj}{w:c7}{K:aZ}{tg:Expr}(it:aC)(lo:Int)(n:Nat):Turn P w K tg (Qs lo n) [it] it (λi h=>IsRangeIter h it (lo+(i:Nat)*1) ((n:Int)-(i:Nat)) 1) where
 mem:=bI
 obj:=λi h st b hb=>by
  have e:b=it:=by simpa using hb
  subst e
  exact⟨_,st,λv z=>by
   have z':Data.fields _=Data.cell v:=z;cases z'⟩
 keep:=λi h h' st k=>k it bI _ st
 item:=by
  intro X hP hw hK hc i au s σ H E I hf st hg;subst hP hw hK
  obtain⟨f0,f1,f2,f3,f4,f5⟩:=hf it bI
  have W:=Walks.range (prog:=X.prog) (w:=X.w) (I.ok.hd hc) it lo 1 n;refine W.item i s _ _ hg st λv h' tk hv st' kk=>?_
  obtain⟨t,rfl⟩:=hv
  have I1:Inv X au σ H {s with heap:=h',toks:=tk}:=I.turned (λb o hb e=>kk b o (by simpa using hb) e) f0 f1 f3 f4 f5
  refine⟨_,rfl,Pk (s:={s with heap:=h',toks:=tk}) (n:="range_iterator") st' rfl rfl aR ⟨.int (lo+i),H,I1,⟨t,?_⟩,⟨rfl,rfl⟩,st',λb hb=>(hf b hb).1⟩⟩
  rw[Int.mul_one]
 done:=by
  intro X hP hw hK hc i au s σ H E I hf st hg;subst hP hw hK
  obtain⟨f0,f1,f2,f3,f4,f5⟩:=hf it bI
  exact wpAny_pyNext_range_end (I.ok.hd hc) st (by have:n<=i:=hg;lia) λh' eb=>⟨rfl,I.turned (t':=s.toks) (λb o hb e=>eb b o hb e) f0 f1 f3 f4 f5⟩
 self:=λ_ _ _ _ _ st h=>wpAny_pyIter_rangeiter st h
def apx(K:aZ)(tl:TE):TI:=λσ H R=>tl σ H λx H1=>∃a,x=.ref a/\(∃xs,cj K H1 a xs)/\R (Yw K a) H1
def aqH(K:aZ)(tl:TE):TI:=λσ H R=>tl σ H λx H1=>∃a,x=.ref a/\(∃xs,cU K H1 a xs)/\R (Yx K a) H1
theorem Vv(hl:PE X l tl):PI X tg l (apx X.K tl):=by
 intro au s σ H R I h;refine bY (hl au s σ H _ I h) λv s1 aY=>?_
 obtain⟨x,H1,I1,r1,q1⟩:=aY
 obtain⟨a,e,⟨xs,hq⟩,q⟩:=q1
 subst e;cases r1
 obtain⟨aK,rv,p,hz⟩:=I1.list hq
 refine Ks p.isList ?_
 refine⟨s1.heap.objs.size,[s1.heap.objs.size],_,_,H1,rfl,I1.kept (t':=s1.toks) λb o e=>cD _ e,ajX a _,⟨_,gj _ rfl,rfl,rfl⟩,λb hb=>?_,q⟩
 have e:b=s1.heap.objs.size:=by simpa using hb
 subst e;exact I1.wO (cz _) (I1.hok.fresh (cz _))
theorem WR(hl:PE X l tl):PI X tg l (aqH X.K tl):=by
 intro au s σ H R I h;refine bY (hl au s σ H _ I h) λv s1 aY=>?_
 obtain⟨x,H1,I1,r1,q1⟩:=aY
 obtain⟨a,e,⟨xs,hq⟩,q⟩:=q1
 subst e;cases r1
 obtain⟨aK,rv,p,hz⟩:=I1.tuple hq
 refine ZM (show s1.heap.IsTuple a aK.toArray from p) ?_
 refine⟨s1.heap.objs.size,[s1.heap.objs.size],_,_,H1,rfl,I1.kept (t':=s1.toks) λb o e=>cD _ e,ajg a _,⟨_,gj _ rfl,rfl,rfl⟩,λb hb=>?_,q⟩
 have e:b=s1.heap.objs.size:=by simpa using hb
 subst e;exact I1.wO (cz _) (I1.hok.fresh (cz _))
theorem akX{σ:St}{H:Hp}{s:bh}{lo hi:Int}{t u v:Tok}{tk:Nat}(I:Inv X au σ H s)(h1:-(2^62)<=lo)(h2:lo<2^62)(h3:-(2^62)<=hi)(h4:hi<2^62)
  (q:R (Qs lo (hi-lo).toNat) H):aW (model X.prog X.w) X.A (Ez (.ref s.heap.objs.size)) (PIE X au σ tg R) E {s with heap:=s.heap.push {cls:=.type "range",data:=.fields #[.int lo t,.int hi u,.int 1 v]},toks:=tk}:=by
 refine wpAny_pyIter_range (IsRange.new ..) (small_one h1 h2 h3 h4) ?_;have I1:Inv X au σ H {s with heap:=s.heap.push {cls:=.type "range",data:=.fields #[.int lo t,.int hi u,.int 1 v]},toks:=tk}:=I.kept λb o e=>cD _ e
 refine⟨(s.heap.push {cls:=.type "range",data:=.fields #[.int lo t,.int hi u,.int 1 v]}).objs.size,[(s.heap.push {cls:=.type "range",data:=.fields #[.int lo t,.int hi u,.int 1 v]}).objs.size],_,_,H,rfl,
  I1.kept (t':=tk) λb o e=>cD _ e,ajh _ lo (hi-lo).toNat,?_,λb hb=>?_,q⟩
 .have e1:lo+((0:Nat):Int)*1=lo:=bI;have e2:(((hi-lo).toNat:Nat):Int)-((0:Nat):Int)=atY lo hi 1:=by rw[rangeSize_one];split<;>lia
  show IsRangeIter _ _ (lo+((0:Nat):Int)*1) ((((hi-lo).toNat:Nat):Int)-((0:Nat):Int)) 1;rw[e1,e2];exact gj _ rfl
 .have e:b=(s.heap.push {cls:=.type "range",data:=.fields #[.int lo t,.int hi u,.int 1 v]}).objs.size:=by simpa using hb
  subst e;exact I1.wO (cz _) (I1.hok.fresh (cz _))
def ae9(ta:TA):TI:=λσ H R=>ta σ H λvs H1=>∃j:Int,vs=[.int j]/\-(2^62)<=j/\j<2^62/\R (Qs 0 j.toNat) H1
theorem abG(hg:Gl X "range")(hm:X.mg "range"=aj)(ha:PA X [a] ta)(hs:bR [a] X.env=[(aM,eval a X.env)]:=by rfl):PI X tg (.Call (.Name "range" p) [a] [] pos) (ae9 ta):=by
 intro au s σ H R I h;refine Call_ (zH I hg hm boot_range (Q0 (bY (ha pos au s σ H _ I h) λus s1 aY=>?_) hs rfl))
 obtain⟨vs,H1,I1,r1,q1⟩:=aY
 obtain⟨j,e,q1,q2,q⟩:=q1
 subst e;cases r1 with
 |cons r rr=>
  cases rr
  obtain⟨t,rfl⟩:=r
  exact call_range_1 (akX I1 az az q1 q2 (by simpa using q))
def X6(wi:TI)(g:TG)(tb:TS):TS:=λD σ H=>wi σ H λJ H1=>∃W:Nat->Nat->St->Hp->Prop,(∃m,W 0 m σ H1)/\∀i m σ H,W i m σ H->
 (J.stop i H/\D.nx σ H)\/(J.go i H/\∃N:St->Hp->Prop,(∀σ' H',N σ' H'->∃m',m'<m/\W (i+1) m' σ' H')/\∀x H',J.JP i H x H'->g x σ H' λσ2 H2=>tb {D with nx:=N,ct:=N,bk:=D.nx} σ2 H2)
def Iv(fp:List aC)(h:cg):List (aC×Obj):=fp.filterMap λb=>(h.get? b).map λo=>(b,o)
theorem Lp(hb:b∈fp)(e:h.get? b=aa o):(b,o)∈Iv fp h:=ZP.mpr ⟨b,hb,by rw[e];rfl⟩
theorem ajY(hp:p∈Iv fp h):p.1∈fp/\h.get? p.1=aa p.2:=by
 obtain⟨b,hb,e⟩:=ZP.mp hp
 cases q:h.get? b with
 |none=>rw[q] at e;cases e
 |some o=>
  rw[q] at e;have e':(b,o)=p:=jy e;subst e'
  exact⟨hb,q⟩
theorem Inv.pinned{σ:St}{H:Hp}(I:Inv X au σ H s)(hf:∀b∈fp,kO X au H b)(ho:∀b∈fp,∃o,s.heap.get? b=aa o/\∀v,o.data≠.cell v):Inv X (au++Iv fp s.heap) σ H s:=
 I.adn λp hp=>(cY.mp hp).elim (λz=>I.pin p (eF _ z)) λz=>by
  obtain⟨hb,e⟩:=ajY z
  obtain⟨f0,f1,f2,_⟩:=hf p.1 hb
  obtain⟨o,e',d⟩:=ho p.1 hb
  rw[e] at e';cases e'
  exact⟨e,f0,f1,f2,d⟩
theorem Inv.Ms{σ:St}{H:Hp}(I:Inv X (au++pl) σ H s):Inv X au σ H s:=I.adn λp hp=>I.pin p (eF _ (fM _ hp))
theorem aez(hp:Ma (model X.prog X.w) X.A X.env X.xe)(hc:X.calm=aq)(hi:PI X tg iter wi)(hg:PG X tg g)(hb:je X body tb)
  (hs:∀x,vD iter X.env x=pure x:=by intro _;rfl):PS X (.For tg iter body [] pos) (X6 wi g tb):=by
 intro au s σ H D I h;refine wpAny_For (bY (hi au s σ H _ I h) λv s1 h1=>bY h1 λitv s2 h2=>?_) hs
 obtain⟨it,fp,tn,J,H2,e,I2,T,st2,f2,W,⟨m0,w0⟩,turn⟩:=h2
 subst e;have stat:∀{H':Hp},(∀b∈fp,H' b=aj)->∀b∈fp,kO X au H' b:=λhn b hb=>⟨hn b hb,(f2 b hb).2⟩
 refine codeAny_forLoop_any (λn s'=>∃i σ' H',Inv X au σ' H' s'/\tn i s'.heap/\(∀b∈fp,H' b=aj)/\W i n σ' H') ?_ m0 ⟨0,σ,H2,I2,st2,λb hb=>(f2 b hb).1,w0⟩;rintro n s3 ⟨i,σ3,H3,I3,st3,JQ,w3⟩;rcases turn i n σ3 H3 w3 with⟨stop,qn⟩|⟨go,N,hN,step⟩
 .refine Dw hp (bY (T.done X rfl rfl rfl hc i au s3 σ3 H3 X.xe I3 (stat JQ) st3 stop) λr s4 aY=>?_)
  obtain⟨hr,I4⟩:=aY
  subst hr;exact Rq ⟨σ3,H3,I4,qn⟩
 .refine Dw hp (bY (T.item X rfl rfl rfl hc i au s3 σ3 H3 X.xe I3 (stat JQ) st3 go) λr s4 aY=>?_)
  obtain⟨u,hr,h4⟩:=aY
  subst hr;refine Dw hp (bY h4 λ_ s5 aY=>?_)
  obtain⟨x,H5,I5,r5,y5,De,Yy⟩:=aY
  have Yz:=I5.pinned (stat Yy) (T.obj _ _ De);refine Dw hp (bY (hg _ s5 σ3 H5 x u _ Yz r5 (step x H5 y5)) λ_ s6 aY=>?_)
  obtain⟨σ6,H6,I6,q6⟩:=aY
  refine Dw hp (bY (hb _ s6 σ6 H6 _ I6 q6) λf s7 q7=>?_);have again:∀{σ7:St}{H7:Hp},Inv X (au++Iv fp s5.heap) σ7 H7 s7->N σ7 H7->∃m,m<n/\∃i σ' H',Inv X au σ' H' s7/\tn i s7.heap/\(∀b∈fp,H' b=aj)/\W i m σ' H':=λ{σ7 H7} I7 n7=>by
   obtain⟨m',hm,w7⟩:=hN σ7 H7 n7
   refine⟨m',hm,i+1,σ7,H7,I7.Ms,T.keep _ _ _ De λb hb o e=>(I7.pin (b,o) (eF _ (eF _ (Lp hb e)))).1,λb hb=>?_,w7⟩
   obtain⟨o,e,d⟩:=T.obj _ _ De b hb
   exact(I7.pin (b,o) (eF _ (eF _ (Lp hb e)))).2.1
  cases f with
  |next=>obtain⟨σ7,H7,I7,n7⟩:=q7;exact again I7 n7
  |cont=>obtain⟨σ7,H7,I7,n7⟩:=q7;exact again I7 n7
  |brk=>obtain⟨σ7,H7,I7,q7⟩:=q7;exact⟨σ7,H7,I7.Ms,q7⟩
  |ret v=>obtain⟨x7,σ7,H7,I7,r7,q7⟩:=q7;exact⟨x7,σ7,H7,I7.Ms,r7,q7⟩
abbrev R2:=V->V->Hp->VK->Prop
def dU(X:Cx)(f:aN->aN->Sem aN)(r:R2):Prop:=
 ∀(au:List (aC×Obj))(s:bh)(σ:St)(H:Hp)(x y:V)(v u:aN)(Q:VK),Inv X au σ H s->RelV x v->RelV y u->r x y H Q->
  aW (model X.prog X.w) X.A (f v u) (EP X au σ Q) X.xe s
def YB(X:Cx)(f:aN->Sem aN)(r:V->Hp->VK->Prop):Prop:=
 ∀(au:List (aC×Obj))(s:bh)(σ:St)(H:Hp)(x:V)(v:aN)(Q:VK),Inv X au σ H s->RelV x v->r x H Q->
  aW (model X.prog X.w) X.A (f v) (EP X au σ Q) X.xe s
def iY(X:Cx)(f:aN)(r:List V->Hp->VK->Prop):Prop:=
 ∀(au:List (aC×Obj))(s:bh)(σ:St)(H:Hp)(xs:List V)(us:List aN)(Q:VK),Inv X au σ H s->Vals xs us->r xs H Q->
  aW (model X.prog X.w) X.A (call f us) (EP X au σ Q) X.xe s
def aqI(X:Cx)(r:V->Hp->(Bool->Hp->Prop)->Prop):Prop:=
 ∀(au:List (aC×Obj))(s:bh)(σ:St)(H:Hp)(x:V)(v:aN)(Q:Bool->Hp->Prop),Inv X au σ H s->RelV x v->r x H Q->
  aW (model X.prog X.w) X.A (truthy v) (TP X au σ Q) X.xe s
def JR(r:R2)(ta tb:TE):TE:=λσ H Q=>ta σ H λx H1=>tb σ H1 λy H2=>r x y H2 Q
def tUn(r:V->Hp->VK->Prop)(ta:TE):TE:=λσ H Q=>ta σ H λx H1=>r x H1 Q
def rI(C:Int->Int->Prop)(g:Int->Int->V):R2:=λx y H Q=>∃i j,x=.int i/\y=.int j/\C i j/\Q (g i j) H
def sE(g:Int->Int->V):R2:=λx y H Q=>∃i j,x=.int i/\y=.int j/\Q (g i j) H
def rU(g:Int->V):V->Hp->VK->Prop:=λx H Q=>∃i,x=.int i/\Q (g i) H
theorem X7(ha:PE X a ta)(hb:PE X b tb){s:bh}{σ:St}{H:Hp}{R:V->V->Hp->Prop}(I:Inv X au σ H s)
  (h:ta σ H λx H1=>tb σ H1 λy H2=>R x y H2){f:aN->aN->Sem aN}
  (hf:∀v u s2 x y H2,Inv X au σ H2 s2->RelV x v->RelV y u->R x y H2->aW (model X.prog X.w) X.A (f v u) Q X.xe s2):
  aW (model X.prog X.w) X.A (eval a X.env) (λv s₁=>aW (model X.prog X.w) X.A (eval b X.env) (λu s₂=>aW (model X.prog X.w) X.A (f v u) Q X.xe s₂) X.xe s₁) X.xe s:=by
 refine bY (ha au s σ H _ I h) λv s1 aY=>?_
 obtain⟨x,H1,I1,r1,q1⟩:=aY
 refine bY (hb au s1 σ H1 _ I1 q1) λu s2 aY=>?_
 obtain⟨y,H2,I2,r2,q2⟩:=aY
 exact hf v u s2 x y H2 I2 r1 r2 q2
theorem apy(ho:dU X (pZ op) r)(ha:PE X a ta)(hb:PE X b tb):PE X (.BinOp a op b pos) (JR r ta tb):=by
 intro au s σ H Q I h;exact wpAny_BinOp (X7 ha hb I h λv u s2 x y H2 I2 rx ry q=>ho au s2 σ H2 x y v u Q I2 rx ry q)
theorem apz(ho:YB X (unaryOp op) r)(ha:PE X a ta):PE X (.UnaryOp op a pos) (tUn r ta):=by
 intro au s σ H Q I h;exact UnaryOp_ (bY (ha au s σ H _ I h) λv s1 ⟨x,H1,I1,r1,q1⟩=>ho au s1 σ H1 x v Q I1 r1 q1)
theorem Qt{g:Int->Int->Int}
  (rule:∀(i j:Int)(t u:Tok)(s:bh)(Q:aN->bh->Prop)(E:aN->bh->Prop),C i j->Q (.int (g i j) s.toks) {s with toks:=s.toks+1}->aW (model X.prog X.w) X.A (f (.int i t) (.int j u)) Q E s):
  dU X f (rI C λi j=>.int (g i j)):=by
 intro au s σ H x y v u Q I rx ry h
 obtain⟨i,j,rfl,rfl,hc,q⟩:=h
 obtain⟨t,rfl⟩:=rx
 obtain⟨t',rfl⟩:=ry
 exact rule i j t t' s _ _ hc ⟨.int (g i j),H,I.tok _,⟨_,rfl⟩,q⟩
theorem afz{g:Int->Int->Int}
  (rule:∀(i j:Int)(t u:Tok)(s:bh)(Q:aN->bh->Prop)(E:aN->bh->Prop),Q (.int (g i j) s.toks) {s with toks:=s.toks+1}->aW (model X.prog X.w) X.A (f (.int i t) (.int j u)) Q E s):
  dU X f (sE λi j=>.int (g i j)):=by
 intro au s σ H x y v u Q I rx ry h
 obtain⟨i,j,rfl,rfl,q⟩:=h
 obtain⟨t,rfl⟩:=rx
 obtain⟨t',rfl⟩:=ry
 exact rule i j t t' s _ _ ⟨.int (g i j),H,I.tok _,⟨_,rfl⟩,q⟩
theorem X8{g:Int->Int->Bool}
  (rule:∀(i j:Int)(t u:Tok)(s:bh)(Q:aN->bh->Prop)(E:aN->bh->Prop),Q (.bool (g i j)) s->aW (model X.prog X.w) X.A (f (.int i t) (.int j u)) Q E s):
  dU X f (sE λi j=>.bl (g i j)):=by
 intro au s σ H x y v u Q I rx ry h
 obtain⟨i,j,rfl,rfl,q⟩:=h
 obtain⟨t,rfl⟩:=rx
 obtain⟨t',rfl⟩:=ry
 exact rule i j t t' s _ _ ⟨.bl (g i j),H,I,rfl,q⟩
def afA(i j:Int):Prop:=0<j/\j<1073741824
def afB(i j:Int):Prop:=0<=j/\j<=1000000/\i.natAbs<2^64
def Ju(i j:Int):Prop:=(-(2^64)<i/\i<2^64)\/(-(2^64)<j/\j<2^64)
theorem Ju.ok(h:Ju i j):IntMulOk i j:=by
 rcases h with⟨h1,h2⟩|⟨h1,h2⟩
 .exact .of_left (intBits_le_64 h1 h2)
 .exact .of_right (intBits_le_64 h1 h2)
theorem aoi:dU X (pZ .Add) (sE λi j=>.int (i+j)):=afz λ_ _ _ _ _ _ _ q=>add_int q
theorem aoj:dU X (pZ .Sub) (sE λi j=>.int (i-j)):=afz λ_ _ _ _ _ _ _ q=>sub_int q
theorem rK:dU X (pZ .Mult) (rI Ju λi j=>.int (i*j)):=Qt λ_ _ _ _ _ _ _ hc q=>mul_int q hc.ok
theorem Vw:dU X (pZ .FloorDiv) (rI afA λi j=>.int (i / j)):=Qt λi j _ _ _ _ _ hc q=>by
 have h1:(0:Int)<j:=hc.1;have h2:j<1073741824:=hc.2;exact floordiv_int az (by rw[Int.fdiv_eq_ediv_of_nonneg i az];exact q) (.inl (PyProof.noPylong_small az))
theorem vZ:dU X (pZ .Mod) (rI (λ_ j=>0<j) λi j=>.int (i%j)):=Qt λi j _ _ _ _ _ hc q=>by
 have h1:(0:Int)<j:=hc;exact mod_int' az (by rw[Int.fmod_eq_emod_of_nonneg i az];exact q)
theorem Ol:dU X (pZ .Pow) (rI afB λi j=>.int (i^j.toNat)):=Qt λ_ _ _ _ _ _ _ hc q=>pow_int_small hc.1 hc.2.1 hc.2.2 q
theorem unI{g:Int->Int}
  (rule:∀(i:Int)(t:Tok)(s:bh)(Q:aN->bh->Prop)(E:aN->bh->Prop),Q (.int (g i) s.toks) {s with toks:=s.toks+1}->aW (model X.prog X.w) X.A (f (.int i t)) Q E s):
  YB X f (rU λi=>.int (g i)):=by
 intro au s σ H x v Q I rx h
 obtain⟨i,rfl,q⟩:=h
 obtain⟨t,rfl⟩:=rx
 exact rule i t s _ _ ⟨.int (g i),H,I.tok _,⟨_,rfl⟩,q⟩
theorem aok:YB X (unaryOp .USub) (rU λi=>.int (-i)):=unI λ_ _ _ _ _ q=>neg_int q
def Yb:V->V->Bool
 |.non,.non=>aq|.non,.int _=>aq|.int _,.non=>aq|.non,.bl _=>aq|.bl _,.non=>aq|.non,.str _=>aq|.str _,.non=>aq
 |.int _,.int _=>aq|.bl _,.bl _=>aq|.str _,.str _=>aq|.sy _,.sy _=>aq
 |.int _,.str _=>aq|.str _,.int _=>aq|.bl _,.str _=>aq|.str _,.bl _=>aq
 |_,_=>aM
def rEq:R2:=λx y H Q=>Yb x y=aq/\Q (.bl (decide (x=y))) H
def rNe:R2:=λx y H Q=>Yb x y=aq/\Q (.bl (!decide (x=y))) H
theorem Vx:decide (V.int i=V.int j)=(i==j):=by
 rw[uh];simp
theorem WT:decide (V.bl i=V.bl j)=(i==j):=by
 rw[uh];simp
theorem Vy:decide (V.str i=V.str j)=(i==j):=by
 rw[uh];simp
theorem adt:decide (V.sy i=V.sy j)=(i.toList==j.toList):=by
 rw[uh];cases i;cases j;simp
section
variable{X:Cx}{a b c:Expr}{ta tb tc:TE}{pos:Pos}
theorem iI{σ:St}{H:Hp}{Q:VK}(I:Inv X au σ H s)(q:Q (.bl k) H)(e:k=k'):EP X au σ Q (.bool k') s:=by
 subst e
 exact⟨.bl k,H,I,rfl,q⟩
theorem apA:dU X (iG .Eq) rEq:=by
 intro au s σ H x y v u Q I rx ry h
 obtain⟨hs,q⟩:=h
 cases x with
 |non=>
  cases rx;cases y with
  |non=>cases ry;exact ato (iI I q bI)
  |bl j=>cases ry;exact atp (iI I q bI)
  |int j=>obtain⟨t',rfl⟩:=ry;exact atD (iI I q bI)
  |str j=>obtain⟨t',rfl⟩:=ry;exact atE (iI I q bI)
  |_=>exact absurd (show aM=aq from hs) jm
 |bl i=>
  cases rx;cases y with
  |non=>cases ry;exact atq (iI I q bI)
  |bl j=>cases ry;exact eq_bool (iI I q WT)
  |str j=>obtain⟨t',rfl⟩:=ry;exact atr (iI I q bI)
  |_=>exact absurd (show aM=aq from hs) jm
 |int i=>
  obtain⟨t,rfl⟩:=rx
  cases y with
  |non=>cases ry;exact atF (iI I q bI)
  |int j=>obtain⟨t',rfl⟩:=ry;exact eq_int (iI I q Vx)
  |str j=>obtain⟨t',rfl⟩:=ry;exact atG (iI I q bI)
  |_=>exact absurd (show aM=aq from hs) jm
 |str i=>
  obtain⟨t,rfl⟩:=rx
  cases y with
  |non=>cases ry;exact atH (iI I q bI)
  |bl j=>cases ry;exact atu (iI I q bI)
  |int j=>obtain⟨t',rfl⟩:=ry;exact atJ (iI I q bI)
  |str j=>obtain⟨t',rfl⟩:=ry;exact eq_str (iI I q Vy)
  |_=>exact absurd (show aM=aq from hs) jm
 |sy i=>
  obtain⟨t,rfl⟩:=rx
  cases y with
  |sy j=>obtain⟨t',rfl⟩:=ry;exact PySem.W.eq_bytes (iI I q adt)
  |_=>exact absurd (show aM=aq from hs) jm
 |_=>cases y<;>exact absurd (show aM=aq from hs) jm
theorem apB:dU X (iG .NotEq) rNe:=by
 intro au s σ H x y v u Q I rx ry h
 obtain⟨hs,q⟩:=h
 cases x with
 |non=>
  cases rx;cases y with
  |non=>cases ry;exact atv (iI I q bI)
  |bl j=>cases ry;exact atw (iI I q bI)
  |int j=>obtain⟨t',rfl⟩:=ry;exact atL (iI I q bI)
  |str j=>obtain⟨t',rfl⟩:=ry;exact atM (iI I q bI)
  |_=>exact absurd (show aM=aq from hs) jm
 |bl i=>
  cases rx;cases y with
  |non=>cases ry;exact atx (iI I q bI)
  |bl j=>cases ry;exact ne_bool (iI I q (congrArg not WT))
  |str j=>obtain⟨t',rfl⟩:=ry;exact aty (iI I q bI)
  |_=>exact absurd (show aM=aq from hs) jm
 |int i=>
  obtain⟨t,rfl⟩:=rx
  cases y with
  |non=>cases ry;exact atN (iI I q bI)
  |int j=>obtain⟨t',rfl⟩:=ry;exact ne_int (iI I q (congrArg not Vx))
  |str j=>obtain⟨t',rfl⟩:=ry;exact atO (iI I q bI)
  |_=>exact absurd (show aM=aq from hs) jm
 |str i=>
  obtain⟨t,rfl⟩:=rx
  cases y with
  |non=>cases ry;exact atP (iI I q bI)
  |bl j=>cases ry;exact atz (iI I q bI)
  |int j=>obtain⟨t',rfl⟩:=ry;exact atQ (iI I q bI)
  |str j=>obtain⟨t',rfl⟩:=ry;exact ne_str (iI I q (congrArg not Vy))
  |_=>exact absurd (show aM=aq from hs) jm
 |sy i=>
  obtain⟨t,rfl⟩:=rx
  cases y with
  |sy j=>obtain⟨t',rfl⟩:=ry;exact PySem.W.ne_bytes (iI I q (congrArg not adt))
  |_=>exact absurd (show aM=aq from hs) jm
 |_=>cases y<;>exact absurd (show aM=aq from hs) jm
theorem apC:dU X (iG .LtE) (sE λi j=>.bl (decide (i<=j))):=X8 λ_ _ _ _ _ _ _ q=>le_int q
theorem apD:dU X (iG .Gt) (sE λi j=>.bl (decide (j<i))):=X8 λ_ _ _ _ _ _ _ q=>gt_int q
theorem apE:dU X (iG .GtE) (sE λi j=>.bl (decide (j<=i))):=X8 λ_ _ _ _ _ _ _ q=>ge_int q
theorem aol:dU X (iG .Is) (λx y H Q=>y=.non/\Q (.bl (decide (x=.non))) H):=by
 intro au s σ H x y v u Q I rx ry h
 obtain⟨rfl,q⟩:=h
 cases ry;refine is_none_gen (iI I q ?_);cases x<;>first
  |(cases rx;rfl)
  |(obtain⟨t,rfl⟩:=rx;rfl)
theorem amv:dU X (iG .IsNot) (λx y H Q=>y=.non/\Q (.bl (!decide (x=.non))) H):=by
 intro au s σ H x y v u Q I rx ry h
 obtain⟨rfl,q⟩:=h
 cases ry;refine isnot_none_gen (iI I q ?_);cases x<;>first
  |(cases rx;rfl)
  |(obtain⟨t,rfl⟩:=rx;rfl)
theorem dU.or(h:dU X f r)(h':dU X f r'):dU X f (λx y H Q=>r x y H Q\/r' x y H Q):=by
 intro au s σ H x y v u Q I rx ry q;rcases q with q|q
 .exact h au s σ H x y v u Q I rx ry q
 .exact h' au s σ H x y v u Q I rx ry q
theorem gH(b:Expr)(h:op≠.In:=by decide)(h2:op≠.NotIn:=by decide):G4 op b=aM:=by
 have e1:(op==CmpOp.In)=aM:=by cases op<;>first|rfl|exact absurd rfl h
 have e2:(op==CmpOp.NotIn)=aM:=by cases op<;>first|rfl|exact absurd rfl h2
 cases b<;>simp[G4,e1,e2]
theorem amw(ho:dU X (iG op) r)(ha:PE X a ta)(hb:PE X b tb)(hm:G4 op b=aM):PE X (.Compare a [op] [b] pos) (JR r ta tb):=by
 intro au s σ H Q I h;exact wpAny_Compare1 (X7 ha hb I h λv u s2 x y H2 I2 rx ry q=>ho au s2 σ H2 x y v u Q I2 rx ry q) hm
def Xr(t:TE):TT:=λσ H Q=>t σ H λx H'=>∃k,x=.bl k/\Q k H'
theorem amx(ho:dU X (iG op) r)(ha:PE X a ta)(hb:PE X b tb)(hm:G4 op b=aM):PT X (.Compare a [op] [b] pos) (Xr (JR r ta tb)):=by
 intro au s σ H Q I h;refine wpAny_isTrue_Compare1 (bY (ha au s σ H _ I h) λv s1 ⟨x,H1,I1,r1,q1⟩=>bY (hb au s1 σ H1 _ I1 q1) λu s2 ⟨y,H2,I2,r2,q2⟩=>
  bY (ho au s2 σ H2 x y v u _ I2 r1 r2 q2) λc s3 ⟨z,H3,I3,r3,k,e,q3⟩=>?_) hm
 subst e;cases r3;exact yV ⟨H3,I3,q3⟩
def aeA(r r':R2)(ta tb tc:TE):TE:=λσ H Q=>ta σ H λx H1=>tb σ H1 λy H2=>r x y H2 λz H3=>∃k,z=.bl k/\
 (if k=aq then tc σ H3 λw' H4=>r' y w' H4 Q else Q (.bl aM) H3)
theorem akY(ho:dU X (iG op) r)(ho':dU X (iG op') r')(ha:PE X a ta)(hb:PE X b tb)(hc:PE X c tc)
  (hm:lastMarks [op,op'] [b,c]=aM:=by with_unfolding_all rfl):PT X (.Compare a [op,op'] [b,c] pos) (Xr (aeA r r' ta tb tc)):=by
 intro au s σ H Q I h;refine isTrue_chain (bY (ha au s σ H _ I h) λv s1 ⟨x,H1,I1,r1,q1⟩=>test_link (bY (hb au s1 σ H1 _ I1 q1) λu s2 ⟨y,H2,I2,r2,q2⟩=>
  bY (ho au s2 σ H2 x y v u _ I2 r1 r2 q2) λd s3 ⟨z,H3,I3,r3,k,e,q3⟩=>?_)) hm
 subst e;cases r3;refine yV ?_;cases k with
 |false=>
  obtain⟨k',e',q'⟩:=q3
  cases e';exact ite_ff ⟨H3,I3,q'⟩
 |true=>
  refine ite_tt (test_last (bY (hc au s3 σ H3 _ I3 q3) λw' s4 ⟨z',H4,I4,r4,q4⟩=>bY (ho' au s4 σ H4 y z' u w' _ I4 r2 r4 q4) λd' s5 aY=>?_))
  obtain⟨z2,H5,I5,r5,k2,e2,q5⟩:=aY
  subst e2;cases r5;exact yV ⟨H5,I5,q5⟩
def Yc(K:aZ)(x:V)(H:Hp)(k:Bool):Prop:=
 match x with
 |.non=>k=aM
 |.bl b=>k=b
 |.int i=>k=(i != 0)
 |.str y=>y.length<=cJ/\k=((y.length:Int) != 0)
 |.sy y=>y.size<=cJ/\k=((y.size:Int) != 0)
 |.ref p=>(∃xs,cj K H p xs/\k=!xs.isEmpty)\/(∃xs,cU K H p xs/\k=!xs.isEmpty)\/∃aA ep,H p=aa (.dK aA ep)/\k=!aA.isEmpty
 |_=>False
theorem aji{aA:List (κ×V)}{vs:List (κ×aN)}(r:KV aA vs):(!vs.isEmpty)=!aA.isEmpty:=by
 cases r<;>rfl
theorem abe(r:Vals xs aK):(!aK.toArray.isEmpty)=!xs.isEmpty:=by
 cases r<;>simp
theorem BZ:(cJ:Nat)<2^63:=by rw[jQ];decide
theorem aom:aqI X (λx H Q=>∃k,Yc X.K x H k/\Q k H):=by
 intro au s σ H x v Q I rx h
 obtain⟨k,e,q⟩:=h
 have hl:=BZ;have hs:cJ=16777216:=jQ;cases x with
 |non=>
  cases rx;have e':k=aM:=e;subst e';exact truthy_none ⟨H,I,q⟩
 |bl b=>
  cases rx;have e':k=b:=e;subst e';exact yV ⟨H,I,q⟩
 |int i=>
  obtain⟨t,rfl⟩:=rx
  have e':k=(i != 0):=e;subst e';exact PySem.P.truthy_int ⟨H,I,q⟩
 |str y=>
  obtain⟨t,rfl⟩:=rx
  obtain⟨hy,e'⟩:y.length<=cJ/\k=((y.length:Int) != 0):=e
  subst e';exact PySem.P.truthy_str az ⟨H,I.tok _,q⟩
 |sy y=>
  obtain⟨t,rfl⟩:=rx
  obtain⟨hy,e'⟩:y.size<=cJ/\k=((y.size:Int) != 0):=e
  subst e';exact PySem.W.truthy_bytes az ⟨H,I.tok _,q⟩
 |ref p=>
  cases rx;have e':(∃xs,cj X.K H p xs/\k=!xs.isEmpty)\/(∃xs,cU X.K H p xs/\k=!xs.isEmpty)\/∃aA ep,H p=aa (.dK aA ep)/\k=!aA.isEmpty:=e;rcases e' with⟨xs,hx,e'⟩|⟨xs,hx,e'⟩|⟨aA,ep,hx,e'⟩
  .subst e'
   obtain⟨aK,r,pl,hz⟩:=I.list hx
   have hlen:=r.length;exact wpAny_truthy_list pl.isList (by simp only[gZ];lia) ⟨H,I.tok _,by rw[abe r];exact q⟩
  .subst e'
   obtain⟨aK,r,pl,hz⟩:=I.tuple hx
   have hlen:=r.length;exact truthy_tuple pl (by simp only[gZ];lia) ⟨H,I.tok _,by rw[abe r];exact q⟩
  .subst e'
   obtain⟨hz,hS,vs,r,m⟩:aA.length<=cJ/\(p==sJ)=aM/\∃vs,KV aA vs/\s.heap.DictAt (nu X.prog X.w) p vs ep:=I.hok p _ hx
   have hlen:aA.length=vs.length:=Paired.length r;exact wpAny_truthy_dict hS m.dictOf az ⟨H,I.tok _,by rw[aji r];exact q⟩
 |_=>exact(show False from e).elim
theorem akZ(ha:PE X a ta)(he:∀whole,isTrue a X.env whole=(do let v <-whole;tD a.pos;nA [v] (truthy v))):
  PT X a (λσ H Q=>ta σ H λx H'=>∃k,Yc X.K x H' k/\Q k H'):=by
 intro au s σ H Q I h;exact isTrue_plain (bY (ha au s σ H _ I h) λv s1 ⟨x,H1,I1,r1,q1⟩=>aom au s1 σ H1 x v Q I1 r1 q1) (he _)
theorem ajj:dU X (pZ .Add) (λx y H Q=>∃i j,x=.str i/\y=.str j/\i.length+j.length<=cJ/\Q (.str (i++j)) H):=by
 intro au s σ H x y v u Q I rx ry h
 obtain⟨i,j,rfl,rfl,hz,q⟩:=h
 obtain⟨t,rfl⟩:=rx
 obtain⟨t',rfl⟩:=ry
 exact add_str (λt' tk=>⟨.str (i++j),H,I.tok _,⟨_,rfl⟩,q⟩) hz
theorem vals1(r:Vals [x] us):∃u,us=[u]/\RelV x u:=by
 cases r with
 |cons r1 r2=>cases r2;exact⟨_,rfl,r1⟩
theorem vals2(r:Vals [x,y] us):∃u w',us=[u,w']/\RelV x u/\RelV y w':=by
 cases r with
 |cons r1 r2=>
  cases r2 with
  |cons r3 r4=>cases r4;exact⟨_,_,rfl,r1,r3⟩
theorem aco:iY X (.builtin "abs") (λxs H Q=>∃i,xs=[.int i]/\Q (.int (if i<0 then -i else i)) H):=by
 intro au s σ H xs us Q I r h
 obtain⟨i,rfl,q⟩:=h
 obtain⟨u,rfl,t,rfl⟩:=vals1 r
 exact call_abs_int λu tk=>⟨.int (if i<0 then -i else i),H,I.tok _,⟨_,rfl⟩,q⟩
theorem abH(hc:X.calm=aq):iY X (.builtin "max") (λxs H Q=>∃i j,xs=[.int i,.int j]/\Q (.int (if j>i then j else i)) H):=by
 intro au s σ H xs us Q I r h
 obtain⟨i,j,rfl,q⟩:=h
 obtain⟨u,w',rfl,⟨t,rfl⟩,⟨t',rfl⟩⟩:=vals2 r
 refine max_two_ints (I.ok.hd hc) λh' tk k=>⟨_,H,I.kept k,?_,q⟩
 by_cases hj:j>i
 .rw[bG hj,bG hj];exact⟨_,rfl⟩
 .rw[bH hj,bH hj];exact⟨_,rfl⟩
theorem abI(hc:X.calm=aq):iY X (.builtin "min") (λxs H Q=>∃i j,xs=[.int i,.int j]/\Q (.int (if j<i then j else i)) H):=by
 intro au s σ H xs us Q I r h
 obtain⟨i,j,rfl,q⟩:=h
 obtain⟨u,w',rfl,⟨t,rfl⟩,⟨t',rfl⟩⟩:=vals2 r
 refine min_two_ints (I.ok.hd hc) λh' tk k=>⟨_,H,I.kept k,?_,q⟩
 by_cases hj:j<i
 .rw[bG hj,bG hj];exact⟨_,rfl⟩
 .rw[bH hj,bH hj];exact⟨_,rfl⟩
theorem Bu:iY X (.type "int") (λxs H Q=>(∃i,xs=[.int i]/\Q (.int i) H)\/∃k,xs=[.bl k]/\Q (.int (if k then 1 else 0)) H):=by
 intro au s σ H xs us Q I r h;rcases h with⟨i,rfl,q⟩|⟨k,rfl,q⟩
 .obtain⟨u,rfl,t,rfl⟩:=vals1 r
  exact call_int_int ⟨.int i,H,I,⟨_,rfl⟩,q⟩
 .obtain⟨u,rfl,r1⟩:=vals1 r
  cases r1;exact call_int_bool ⟨.int (if k then 1 else 0),H,I.tok _,⟨_,rfl⟩,q⟩
end
structure Yd(h:cg)(x dx C:aC)(mA:Str->Option aN):Prop where
 obj:h.get? x=aa (aae C dx)
 ns:h.Ns1 dx mA
 ne:dx≠x
theorem ajZ{h:cg}(n:h.Ns1 dx mA):∃od,h.get? dx=aa od/\∀name,aas name od=aa (mA name):=by
 obtain⟨o,es,ep,ho,hd,hk,_,hm⟩:=n
 refine⟨o,ho,λname=>?_⟩
 have e:=hm name;unfold nsFind findBy at e;rw[<-Array.find?_toList] at e;unfold aas;rw[hd];dsimp only;split
 .rename_i y q;rw[q] at e;exact congrArg aa e
 .rename_i q;rw[q] at e;have a:es.toList.any (·.refKey)=aM:=by
   rw[ahI];intro y hy
   obtain⟨z,t,hkey⟩:=hk y (Array.mem_toList_iff.mp hy)
   simp[DictEntry.refKey,hkey]
  have a':¬es.toList.any (·.refKey)=aq:=by rw[a];exact jm
  rw[bH a'];exact congrArg aa e
theorem Yd.look(I:Yd h x dx C mA):∃od,PySem.W.InstAt h x (aae C dx) C (aa od)/\∀name,aas name od=aa (mA name):=
 let ⟨od,ho,hl⟩:=ajZ I.ns
 ⟨od,⟨I.obj,rfl,rfl,ho⟩,hl⟩
theorem uU.some_of(r:uU (aa v) o):∃u,o=aa u/\RelV v u:=by
 cases o with
 |none=>exact(show False from r).elim
 |some u=>exact⟨u,rfl,r⟩
theorem adu(hok:jt P w H h)(e:H a=aa (.ins C dx fs)):∃mA,Yd h a dx C mA/\(∀f,uU (fs.lookup f) (mA f))/\aiL mA (fs.map (·.1))/\fs.length<=1000/\H dx=aa (.own a):=by
 obtain⟨d,z,ne,ob,mA,n,r,q⟩:=(show f9 P w H h a (.ins C dx fs) from hok a _ e)
 exact⟨mA,⟨ob,n,ne⟩,r,q,z,d⟩
structure YC(K:aZ)(C:aC):Prop where
 pg:ahX K C Str.empty=aq
 hd:PySem.W.hasDictIn K C=aq
 po:PySem.W.plainOver K C=aq
 sa:aio K (.ref C) "__setattr__"=aa (aa (.builtin "object.__setattr__"))
theorem YC.get{K:aZ}(c:YC K C)(f:Str):ahX K C f=aq:=c.pg
section
variable{X:Cx}{au:List (aC×Obj)}{σ:St}{H:Hp}{s:bh}{A:gV}{E:aN->bh->Prop}{Q:aN->bh->Prop}{c:aN}{b:Bool}
inductive oV(K:aZ)(H:Hp):V->aN->Prop where
 |non:oV K H .non (.type "NoneType")
 |bl (x:Bool):oV K H (.bl x) (.type "bool")
 |int (i:Int):oV K H (.int i) (.type "int")
 |str (x:Str):oV K H (.str x) (.type "str")
 |flt (x:UInt64):oV K H (.flt x) (.type "float")
 |lst {a:aC} {xs:List V} (e:H a=aa (.lst xs)):oV K H (.ref a) (.type "list")
 |pM {a:aC} {o:Obj} {xs:List V} (e:H a=aa (.pM o (.lst xs))):oV K H (.ref a) (.type "list")
 |tup {a:aC} {xs:List V} (e:H a=aa (.tup xs)):oV K H (.ref a) (.type "tuple")
 |dK {a:aC} {aA:List (Key×V)} {ep:Nat} (e:H a=aa (.dK aA ep)):oV K H (.ref a) (.type "dict")
 |dT {a:aC} {aA:List (List Key×V)} {ep:Nat} (e:H a=aa (.dT aA ep)):oV K H (.ref a) (.type "dict")
 |ins {a C dx:aC} {fs:List (Str×V)} (e:H a=aa (.ins C dx fs)) (cl:YC K C) (ha:aio K (.ref C) "__class__"=aa (aa (.builtin "object.__class__")))
   (hn:PySem.W.specialIn K (.builtin "object.__class__") "__get__"=aa (aa (.builtin "getset_descriptor.__get__"))) (htk:PySem.W.takesIn K (.builtin "object.__class__")=aa aq)
   (hm:PySem.W.mroIn K C (.type "object")=aa aq):oV K H (.ref a) (.ref C)
theorem aj0(I:Inv X au σ H s)(rx:RelV x u)(ty:oV X.K H x t)(e:Dz X.K t c=aa b)(h:∀tk,Q (.bool b) {s with toks:=tk}):
  aW (model X.prog X.w) A (call (.builtin "isinstance") [u,c]) Q E s:=by
 cases ty with
 |non=>cases(show u=j4 from rx);exact vH ahJ I.jL oH e (λz=>nomatch z) h
 |bl y=>cases(show u=vM y from rx);exact vH ahK I.jL oH e (λz=>nomatch z) h
 |int i=>obtain⟨t,q⟩:=(show ∃t,u=Bt i t from rx);cases q;exact vH ahY I.jL oH e (λz=>nomatch z) h
 |str y=>obtain⟨t,q⟩:=(show ∃t,u=LQ y t from rx);cases q;exact vH ahZ I.jL oH e (λz=>nomatch z) h
 |flt y=>obtain⟨t,q⟩:=(show ∃t,u=aa3 y t from rx);cases q;exact vH ahB I.jL oH e (λz=>nomatch z) h
 |@lst a xs ea=>
  cases(show u=dF a from rx)
  obtain⟨_,_,n,_,h1⟩:=(show f9 X.prog X.w H s.heap a (.lst xs) from I.hok a _ ea)
  exact vH Rg I.jL ⟨_,h1,rfl⟩ e (λz=>nomatch z) h
 |@pM a ob xs ea=>
  cases(show u=dF a from rx)
  obtain⟨_,_,_,n,_,h1⟩:=(show f9 X.prog X.w H s.heap a (.pM ob (.lst xs)) from I.hok a _ ea)
  exact vH Rg I.jL ⟨_,h1,rfl⟩ e (λz=>nomatch z) h
 |@tup a xs ea=>
  cases(show u=dF a from rx)
  obtain⟨_,_,_,p⟩:=(show f9 X.prog X.w H s.heap a (.tup xs) from I.hok a _ ea)
  obtain⟨o,h1,h2,_⟩:=p
  exact vH ahC I.jL ⟨o,h1,h2⟩ e (λz=>nomatch z) h
 |@dK a aA epo ea=>
  cases(show u=dF a from rx)
  obtain⟨_,_,vs,_,p⟩:=(show f9 X.prog X.w H s.heap a (.dK aA epo) from I.hok a _ ea)
  obtain⟨o,es,h1,h2,_⟩:=p
  exact vH Rh I.jL ⟨o,h1,h2.1⟩ e (λz=>nomatch z) h
 |@dT a aA epo ea=>
  cases(show u=dF a from rx)
  obtain⟨_,_,xs,_,o,es,h1,h2,_⟩:=(show f9 X.prog X.w H s.heap a (.dT aA epo) from I.hok a _ ea)
  exact vH Rh I.jL ⟨o,h1,h2.1⟩ e (λz=>nomatch z) h
 |@ins a C dx fs ea cl ha hn htk hm=>
  cases(show u=dF a from rx)
  obtain⟨mA,O,_⟩:=adu I.hok ea
  obtain⟨od,J,_⟩:=O.look
  exact vH (ah0 (cl.get _) cl.hd ha hn htk hm) I.jL J e (λz=>nomatch z) h
end
structure jZ(k:Nat)(A:gV):Prop where
 hd:A.handled=aj
 dp:A.depth+3*k+5<recursionLimit
 un:A.units+16*k+200<iM
 gd:A.guards=aa []
theorem jZ.mono(r:jZ k A)(h:j<=k):jZ j A:=⟨r.hd,by have:=r.dp;lia,by have:=r.un;lia,r.gd⟩
theorem jZ.deeper(r:jZ (k+1) A)(ao:Env):jZ k (A.deeper ao):=
 ⟨r.hd,by have:=r.dp;show A.depth+1+3*k+5<_;lia,by have:=r.un;show A.units+3+16*k+200<_;lia,r.gd⟩
theorem jZ.depth(r:jZ k A):A.depth<recursionLimit:=by have:=r.dp;lia
theorem jZ.units(r:jZ k A):A.units+64<iM:=by have:=r.un;lia
theorem jZ.EY(r:jZ k A):A.units<iM:=by have:=r.un;lia
def aqJ:TA:=λ_ H Q=>Q [] H
def apF(ta:TE)(tr:TA):TA:=λσ H Q=>ta σ H λx H1=>tr σ H1 λxs H2=>Q (x::xs) H2
theorem wg:PA X [] aqJ:=λ_ _ _ _ H Q I h=>ZW ⟨[],H,I,.nil,h⟩
theorem rG(ha:PE X e te)(hr:PA X es t)(hs:bR (e::es) X.env=(aM,eval e X.env)::bR es X.env:=by rfl):PA X (e::es) (apF te t):=by
 intro pos au s σ H Q I h;rw[hs];show aW _ _ (Nb ((aM,eval e X.env)::jA pos (bR es X.env))) _ _ s;refine ZQ (bY (ha au s σ H _ I h) λu s1 aY=>?_)
 obtain⟨x,H1,I1,r1,q1⟩:=aY
 exact bY (hr pos au s1 σ H1 _ I1 q1) λus s2 ⟨xs,H2,I2,r2,q2⟩=>⟨x::xs,H2,I2,.cons r1 r2,q2⟩
def aqK(t:TA):TE:=λσ H Q=>t σ H λxs H1=>xs.length<=cJ/\∀p,H1 p=aj->Q (.ref p) (upd H1 p (.tup xs))
def aqL(t:TA):TE:=λσ H Q=>t σ H λxs H1=>xs.length<=cJ/\∀p,H1 p=aj->Q (.ref p) (upd H1 p (.lst xs))
theorem WW{x1}(h:PA X es t):PE X (.Tuple es x1 pos) (aqK t):=by
 intro au s σ H Q I hq;refine wpAny_Tuple_spliced (bY (h pos au s σ H _ I hq) λus s1 ⟨xs,H1,I1,r,z,q⟩=>⟨by rw[<-r.length];exact z,?_⟩);have hf:H1 s1.heap.objs.size=aj:=I1.hok.fresh (cz _)
 refine⟨.ref s1.heap.objs.size,upd H1 s1.heap.objs.size (.tup xs),I1.laid (t':=s1.toks) (λb u e=>cD _ e) (cz _) ?_,rfl,q _ hf⟩
 exact⟨z,us,r,⟨_,gj _ rfl,rfl,_,rfl⟩⟩
theorem aon(h:PA X es t):PE X (.List es pos) (aqL t):=by
 intro au s σ H Q I hq;refine wpAny_List_spliced (bY (h pos au s σ H _ I hq) λus s1 ⟨xs,H1,I1,r,z,q⟩=>⟨by rw[<-r.length];exact z,?_⟩);have hf:H1 s1.heap.objs.size=aj:=I1.hok.fresh (cz _)
 refine⟨.ref s1.heap.objs.size,upd H1 s1.heap.objs.size (.lst xs),I1.laid (t':=s1.toks) (λb u e=>cD _ e) (cz _) ?_,rfl,q _ hf⟩
 exact⟨z,us,0,r,gj _ rfl⟩
abbrev Sp:=List V->Hp->VK->XK->Prop
abbrev wV:=List Env->Hp->bh->XK->aN->bh->Prop
structure Qc(P:fj)(w:c7)(K:aZ)(mg:Str->Option aN)(base:cg)(A:gV)(outer:List Env)(s:bh)(H:Hp):Prop where
 frames:A.frames=aa outer
 mod:Mod K mg base
 bs:∀b o,base.get? b=aa o->s.heap.get? b=aa o/\H b=aj
 Ag:base.objs.size<=s.heap.objs.size
 uV:s.heap.FunFrames base outer
 Gk:∀b∈frs outer,H b=aj
 hok:jt P w H s.heap
 bare:AllBare s.gens
def CE(outer:List Env)(P:fj)(w:c7)(H:Hp)(s:bh)(Q:VK)(u:aN)(s':bh):Prop:=
 ∃v H',s'.os=s.os/\AllBare s'.gens/\Un (frs outer) [] H H' s.heap s'.heap/\jt P w H' s'.heap/\RelV v u/\Q v H'
def CR(CX:wV)(outer:List Env)(P:fj)(w:c7)(H:Hp)(s:bh)(Q:VK)(E:XK)(r:zK)(s':bh):Prop:=
 match r with
 |.ok (.ret u)=>CE outer P w H s Q u s'
 |.ok _=>False
 |.error e=>CX outer H s E e s'
structure fK(P:fj)(w:c7)(K:aZ)(mg:Str->Option aN)(base:cg)(CX:wV)(k:Nat)(f:aC)(fd:vR)(ps:List Str)(sp:Sp):Prop where
 len:∀vs H Q E,sp vs H Q E->vs.length=ps.length
 run:∀(A:gV)(outer:List Env)(s:bh)(H:Hp)(args:Args)(us:List aN)(vs:List V)(Q:VK)(E:XK),jZ k A->Qc P w K mg base A outer s H->Em s fd args (ps.zip us)->Vals vs us->sp vs H Q E->
  lQ (model P w) A (.call (.ref f) args) (CR CX outer P w H s Q E) s
section
variable{X:Cx}{au:List (aC×Obj)}{σ:St}{H:Hp}{s s':bh}
theorem Inv.env0(I:Inv X au σ H s):Qc X.prog X.w X.K X.mg X.base X.A X.stack s H:=
 ⟨I.ok.frames,I.ok.mod,I.bs,mq I.ok.Ag I.sz,I.stack,I.adm,I.hok,I.bare⟩
theorem Inv.after(I:Inv X au σ H s)(h:CE X.stack X.prog X.w H s Q u s'):EP X au σ Q u s':=by
 obtain⟨v,H',os,bare,un,hok,r,q⟩:=h
 obtain⟨hh,g,d,t,os'⟩:=s'
 obtain rfl:os'=s.os:=os
 exact⟨v,H',I.call (h':=hh) (g':=g) (d':=d) (t':=t) (ch:=[]) un hok bare (λb z=>absurd z bI),r,q⟩
end
def Xu(sp:Sp)(Ah:List V)(E:XK)(t:TA):TE:=λσ H Q=>t σ H λvs H1=>sp (vs++Ah) H1 Q E
def Binds(K:aZ)(fd:vR)(ps:List Str)(ds:List aN):Prop:=
 ∀(s:bh)(us:List aN),K.In s.heap->(us++ds).length=ps.length->Em s fd ⟨us,[]⟩ (ps.zip (us++ds))
theorem Binds.all{K:aZ}(h:∀us:List aN,us.length=ps.length->bindArgs fd ⟨us,[]⟩=pure (ps.zip us)):Binds K fd ps []:=λs us _ hl=>by
 rw[mj] at hl⊢;exact .of_eq (h us hl)
def Passes(CX:wV)(X:Cx)(E:XK):Prop:=∀(au:List (aC×Obj))(σ:St)(H:Hp)(s:bh)(e:aN)(s':bh),Inv X au σ H s->CX X.stack H s E e s'->X.xe e s'
section
variable{X:Cx}{CX:wV}{k:Nat}{f C:aC}{fd:vR}{ps:List Str}{sp:Sp}{Ah:List V}{ds:List aN}{E:XK}{x m:Str}{p pos apos:Pos}{e o:Expr}{es:List Expr}{ta:TE}{t:TA}
theorem aoo{σ:St}{H:Hp}{s:bh}{Q:VK}(F:fK X.prog X.w X.K X.mg X.base CX k f fd ps sp)(hr:jZ k X.A)(hb:Binds X.K fd ps ds)(hd:Vals Ah ds)(hx:Passes CX X E)
  (I:Inv X au σ H s)(r:Vals vs us)(h:sp (vs++Ah) H Q E):aW (model X.prog X.w) X.A (call (.ref f) us) (EP X au σ Q) X.xe s:=by
 have r2:Vals (vs++Ah) (us++ds):=r.append hd;have hl:(us++ds).length=ps.length:=by rw[<-r2.length];exact F.len _ _ _ _ h
 refine wpAny_call (KZ (F.run X.A X.stack s H ⟨us,[]⟩ (us++ds) (vs++Ah) Q E hr I.env0 (hb s us I.jL hl) r2 h) λr s' hq=>?_);cases r with
 |error e=>exact hx au σ H s e s' I hq
 |ok fl=>
  cases fl with
  |ret u=>exact I.after hq
  |next=>exact xR hq
  |brk=>exact xR hq
  |cont=>exact xR hq
theorem amy(F:fK X.prog X.w X.K X.mg X.base CX k f fd ps sp)(hr:jZ k X.A)(hg:Gl X x)(hm:X.mg x=aa (.ref f))(hk:DG X.K (.ref f)=aq)(hb:Binds X.K fd ps ds)(hd:Vals Ah ds)(hx:Passes CX X E)
  (ha:PA X (e::es) t)(hdb:(x==("__debug__":Str))=aM:=by decide)(he:bR (e::es) X.env=(aM,eval e X.env)::bR es X.env:=by rfl)(hpl:(jA pos (bR es X.env)).any (·.1)=aM:=by rfl):
  PE X (.Call (.Name x p) (e::es) [] pos) (Xu sp Ah E t):=by
 intro au s σ H Q I h;refine Ko (amt I hg hm ?_ hdb);refine PySem.W.callWith_K (h₀:=X.base) I.ok.mod.Yt hk (bY (ha pos au s σ H _ I h) λus s1 ⟨vs,H1,I1,r,q⟩=>⟨I1.jL,?_⟩) he hpl;exact aoo F hr hb hd hx I1 r q
end
structure iK(N P:List Str)(sc:kJ):Prop where
 kind:sc.kind=.function
 co:sc.isCoroutine=aM
 gen:sc.isGenerator=aM
 nd:N.Nodup
 pre:N.take P.length=P
 par:∀x∈P,sc.names.lookup x=aa .local\/sc.names.lookup x=aa .cell
 aop:∀y∈sc.names,y.2≠.free
theorem abJ{kindOf:Str->Option Ei}:∀{binds:List (Str×aN)}{m:Str->Option aN},(∀v,(x,v)∉binds)->Cr kindOf binds m x=m x
 |[],_,_=>rfl
 |(n,v)::r,m,h=>by
  unfold Cr;rw[abJ λw hw=>h w (dM _ hw)];split
  .have:x≠n:=by rintro rfl;exact h v cX
   simp[this]
  .rfl
theorem abK{kindOf:Str->Option Ei}:∀{binds:List (Str×aN)}{m:Str->Option aN},(∀v,(x,v)∉binds)->Cu kindOf binds m x=m x
 |[],_,_=>rfl
 |(n,v)::r,m,h=>by
  unfold Cu;rw[abK λw hw=>h w (dM _ hw)];split
  .rfl
  .have:x≠n:=by rintro rfl;exact h v cX
   simp[this]
theorem abL{kindOf:Str->Option Ei}:∀{P:List Str}{vs:List aN}{i:Nat}{m:Str->Option aN},P.Nodup->P[i]?=aa x->vs[i]?=aa v->kindOf x=aa .local->
  Cr kindOf (P.zip vs) m x=aa v
 |[],_,_,_,_,h,_,_=>by simp at h
 |_::_,[],_,_,_,_,h,_=>by simp at h
 |p::P,w::vs,0,m,nd,h1,h2,hk=>by
  simp at h1 h2;subst h1;subst h2;show Cr kindOf ((p,w)::P.zip vs) m p=_;unfold Cr;rw[abJ λv hv=>(ie.mp nd).1 (Rr hv).1,bG hk];simp
 |p::P,w::vs,i+1,m,nd,h1,h2,hk=>by
  show Cr kindOf ((p,w)::P.zip vs) m x=_;unfold Cr;exact abL (i:=i) (ie.mp nd).2 (by simpa using h1) (by simpa using h2) hk
theorem abM{kindOf:Str->Option Ei}:∀{P:List Str}{vs:List aN}{i:Nat}{m:Str->Option aN},P.Nodup->P[i]?=aa x->vs[i]?=aa v->kindOf x≠aa .local->
  Cu kindOf (P.zip vs) m x=aa v
 |[],_,_,_,_,h,_,_=>by simp at h
 |_::_,[],_,_,_,_,h,_=>by simp at h
 |p::P,w::vs,0,m,nd,h1,h2,hk=>by
  simp at h1 h2;subst h1;subst h2;show Cu kindOf ((p,w)::P.zip vs) m p=_;unfold Cu;rw[abK λv hv=>(ie.mp nd).1 (Rr hv).1,bH hk];simp
 |p::P,w::vs,i+1,m,nd,h1,h2,hk=>by
  show Cu kindOf ((p,w)::P.zip vs) m x=_;unfold Cu;exact abM (i:=i) (ie.mp nd).2 (by simpa using h1) (by simpa using h2) hk
def start(N:List Str)(vs:List V):St:=vs.map aa++fP (N.length-vs.length) aj
def CQ(CX:wV)(P:fj)(w:c7)(K:aZ)(mg:Str->Option aN)(base:cg)(N:List Str)(qual:Str)(scope:kJ)(f:aC)(cd:aN)(A:gV)(outer:List Env)(s:bh)(H:Hp)(E:XK):Cx where
 prog:=P
 w:=w
 K:=K
 mg:=mg
 base:=base
 A:=A.deeper (envOfC qual scope s.heap.objs.size f cd)
 N:=N
 s₀:=s
 H₀:=H
 env:=envOfC qual scope s.heap.objs.size f cd
 outer:=outer
 stack:=envOfC qual scope s.heap.objs.size f cd::outer
 ex:=[]
 calm:=aq
 fn:=λ_=>aq
 pn:=[]
 xe:=λe s'=>aW (model P w) (A.deeper (envOfC qual scope s.heap.objs.size f cd)) (leaving (envOfC qual scope s.heap.objs.size f cd) e) (λ_ s''=>CX outer H s E e s'') (λe' s''=>CX outer H s E e' s'') s'
theorem acp{sc:kJ}(h:sc.names.lookup x=aa .cell):∃c,(cellsFrom n sc.names []).lookup x=aa c:=by
 have q:=ag9 sc.names n [] (.inl h);exact xg.mp q
theorem aj1{CX:wV}{P:fj}{w:c7}{K:aZ}{base:cg}{N ps:List Str}{qual:Str}{scope:kJ}{f:aC}{cd:aN}{A:gV}{s s1:bh}{H:Hp}{E:XK}{us:List aN}{vs:List V}
  (S:iK N ps scope)(hd:A.handled=aj)(e0:Qc P w K mg base A outer s H)(hl:vs.length=ps.length)(r:Vals vs us)
  (x:InCallC s s.heap.objs.size (Cr (envOfC qual scope s.heap.objs.size f cd).kindOf (ps.zip us) λ_=>aj) (cellsFrom (s.heap.objs.size+1) scope.names []) (Cu (envOfC qual scope s.heap.objs.size f cd).kindOf (ps.zip us) λ_=>aj) s1):
  Inv (CQ CX P w K mg base N qual scope f cd A outer s H E) [] (start N vs) H s1:=by
 have hpl:ps.length<=N.length:=by have:=congrArg zf S.pre;rw[Az] at this;lia
 obtain⟨h1,tk,rfl,hk⟩:=x.done
 have JS:∀b:aC,b∉(CQ CX P w K mg base N qual scope f cd A outer s H E).ex:=λb z=>absurd (show b∈([]:List aC) from z) bI
 refine⟨⟨e0.mod,S.kind,rfl,rfl,cz _,λy z c h1 h2=>?_,λy hy=>?_,λy c _ h=>?_,λ_=>hd,Around.frames_deeper e0.frames,.inr ⟨rfl,rfl⟩,λb z=>absurd z (JS b),e0.bs,e0.Ag,λb _ _=>JS b,λb z=>absurd z (JS b),e0.uV,e0.Gk⟩,
  rfl,e0.bare,Un.kept hk,⟨_,x.toInCall.ns,λi y v h1 h2 h3=>?_⟩,λy c h=>⟨_,x.cell y c h⟩,e0.hok.fresh (cz _),λy c h=>?_,λp hp=>absurd (show p∈([]:List (aC×Obj)) from hp) bI,e0.hok.kept hk,?_⟩
 .exact name_of_addr x.apart (yS h1) (yS h2)
 .have hy:scope.names.lookup y=aa .cell\/scope.names.lookup y=aa .free:=hy;rcases hy with hy|hy
  .exact acp hy
  .exact absurd rfl (S.aop _ (yS hy))
 .exact DN (x.above y c (yS h))
 .have hi:i<vs.length:=by
   unfold start at h2;by_cases hi:i<vs.length
   .exact hi
   .rw[qx (by simpa using hi)] at h2;rw[Zu] at h2;split at h2<;>cases h2
  have ha:vs[i]?=aa v:=by
   unfold start at h2;rw[pB (by simpa using hi),jw] at h2;cases e:vs[i]? with
   |none=>rw[e] at h2;cases h2
   |some a=>rw[e] at h2;cases h2;rfl
  obtain⟨u,hu,rv⟩:=r.get ha
  have hp:ps[i]?=aa y:=by
   rw[<-S.pre,List.getElem?_take_of_lt az];exact h1
  have ndP:ps.Nodup:=by rw[<-S.pre];exact S.nd.sublist (ZX _ _)
  refine⟨u,rv,?_⟩
  rcases S.par y (lY hp) with k|k
  .exact .inl ⟨k,abL ndP hp hu k⟩
  .obtain⟨c,e⟩:=acp (n:=s.heap.objs.size+1) k
   refine .inr ⟨.inl k,c,e,?_⟩;have q:=x.cell y c e;rw[abM ndP hp hu (by show scope.names.lookup y≠_;rw[k];decide)] at q;exact q
 .exact e0.hok.fresh (DN (x.above y c (yS h)))
 .unfold start;show _=N.length;rw[fO,bJ,ahd];lia
theorem apG{CX:wV}{P:fj}{w:c7}{K:aZ}{base:cg}{k:Nat}{f:aC}{name qual:Str}{params:Arguments}{body:List dI}{scope:kJ}{dV kV doc pm cdv ct oc:aN}{an od:Option aC}
 {N ps:List Str}{sp:Sp}(lk:K.lookup f=aa ⟨oc,od,.func (Bj name qual params body scope dV kV doc pm an cdv ct),osl⟩)(hcd:Rx K cdv qual=aq)(S:iK N ps scope)
  (len:∀vs H Q E,sp vs H Q E->vs.length=ps.length)
  (hbody:∀(A:gV)(outer:List Env)(s:bh)(H:Hp)(vs:List V)(Q:VK)(E:XK),jZ k (A.deeper (envOfC qual scope s.heap.objs.size f cdv))->sp vs H Q E->
   ∃t,je (CQ CX P w K mg base N qual scope f cdv A outer s H E) body t/\t {nx:=λ_ H'=>Q .non H',rt:=Q} (start N vs) H):
  fK P w K mg base CX (k+1) f (Bj name qual params body scope dV kV doc pm an cdv ct) ps sp:=by
 refine⟨len,λA outer s H args us vs Q E hr e0 hb r hsp=>?_⟩
 have hl:=len _ _ _ _ hsp;have KX:K.In s.heap:=e0.mod.Yt.keeps λb o e=>(e0.bs b o e).1
 have lim:s.heap.NoLimit:=e0.mod.nolimit.keeps λb o e=>(e0.bs b o e).1
 have hkind:∀y∈ps.zip us,scope.names.lookup y.1=aa .local\/(scope.names.lookup y.1=aa .cell/\((cellsFrom (s.heap.objs.size+1) scope.names []).lookup y.1).isSome=aq):=λ⟨n,v⟩ hy=>by
  rcases S.par n (Rr hy).1 with q|q
  .exact .inl q
  .exact .inr ⟨q,ag9 _ _ _ (.inl q)⟩
 refine codeAny_call_function hr.depth (KX _ _ lk) rfl S.co S.gen rfl (PySem.W.codeRec_of KX hcd) (hb _ _ _ _ ?_);refine wpAny_newFunctionEnv_cells S.kind hkind λao he s1 x=>?_
 subst he
 refine⟨lim.keeps x.toInCall.keep,codeAny_func ?_⟩
 obtain⟨t,ht,hq⟩:=hbody A outer s H vs Q E (hr.deeper _) hsp
 have I:Inv (CQ CX P w K mg base N qual scope f cdv A outer s H E) [] (start N vs) H s1:=aj1 S hr.hd e0 hl r x;refine sO (ht [] s1 (start N vs) H _ I hq) (λfl s' hs=>?_) λe s' hs=>hs
 have fin:∀{σ':St}{H':Hp}{v:V}{u:aN},Inv (CQ CX P w K mg base N qual scope f cdv A outer s H E) [] σ' H' s'->RelV v u->Q v H'->CE outer P w H s Q u s':=
  λ{σ' H' v u} J rv q=>⟨v,H',J.os,J.bare,J.base,J.hok,rv,q⟩
 cases fl with
 |ret u=>
  obtain⟨v,σ',H',J,rv,q⟩:=hs
  exact fin J rv q
 |next=>
  obtain⟨σ',H',J,q⟩:=hs
  exact fin (v:=V.non) (u:=j4) J rfl q
 |brk=>
  obtain⟨_,_,_,q⟩:=hs
  exact xR q
 |cont=>
  obtain⟨_,_,_,q⟩:=hs
  exact xR q
section
variable{X:Cx}{x:Str}{p pos:Pos}{e:Expr}{t:TA}{id T:String}
def YD(r:List V->Hp->VK->Prop)(t:TA):TE:=λσ H Q=>t σ H λvs H1=>r vs H1 Q
theorem Mt(hc:iY X (.builtin id) r)(hg:Gl X x)(hm:X.mg x=aj)(hv:ur x=aa (.builtin id))(ha:PA X (e::es) t)(hn:x≠"__name__":=by decide)(hdb:(x==("__debug__":Str))=aM:=by decide)
  (he:bR (e::es) X.env=(aM,eval e X.env)::bR es X.env:=by rfl)(hpl:(jA pos (bR es X.env)).any (·.1)=aM:=by rfl):PE X (.Call (.Name x p) (e::es) [] pos) (YD r t):=by
 intro au s σ H Q I h;refine Ko (zH I hg hm hv ?_ hn hdb);exact agT (bY (ha pos au s σ H _ I h) λus s1 ⟨vs,H1,I1,r1,q1⟩=>hc au s1 σ H1 vs us Q I1 r1 q1) he hpl
theorem aj2(hc:iY X (.type T) r)(hg:Gl X x)(hm:X.mg x=aj)(hv:ur x=aa (.type T))(ha:PA X (e::es) t)(hn:x≠"__name__":=by decide)(hdb:(x==("__debug__":Str))=aM:=by decide)
  (he:bR (e::es) X.env=(aM,eval e X.env)::bR es X.env:=by rfl)(hpl:(jA pos (bR es X.env)).any (·.1)=aM:=by rfl):PE X (.Call (.Name x p) (e::es) [] pos) (YD r t):=by
 intro au s σ H Q I h;refine Ko (zH I hg hm hv ?_ hn hdb);exact Q0 (bY (ha pos au s σ H _ I h) λus s1 ⟨vs,H1,I1,r1,q1⟩=>hc au s1 σ H1 vs us Q I1 r1 q1) he hpl
end
end L2
namespace HT
open PySem PyProof.Rows
section
open PySem.SeqAt
open PySem.AutoSeq1 (wpAny_loadPart')
open PySem.MeetsSeq PySem.MeetsSeq2 PySem.MeetsSeq3
end
section
variable{prog:fj}{w:c7}{A:gV}{E:aN->bh->Prop}{s:bh}
theorem amz(ht:IsTup s.heap t vs.toArray)(hb:IsTup s.heap b ws.toArray)(hv:vs≠[])
  (h1:ws=[]->Q (.ref t) s)(h2:ws≠[]->Q (.ref s.heap.objs.size) {s with heap:=s.heap.push {cls:=.type "tuple",data:=.seq (vs++ws).toArray}})
  (hsz:vs.length+ws.length<=cJ):aW (model prog w) A (pZ .Add (.ref t) (.ref b)) Q E s:=by
 obtain⟨⟨cls,dd,data,sl⟩,ho,hc,n,hd⟩:=id ht
 obtain⟨⟨cls2,dd2,data2,sl2⟩,ho2,hc2,n2,hd2⟩:=id hb
 simp only at hc hd hc2 hd2;subst hc hd hc2 hd2;have e:vs.toArray++ws.toArray=(vs++ws).toArray:=bI;by_cases hw:ws=[]
 .exact aaP ⟨_,ho,rfl⟩ ⟨_,ho2,rfl⟩ Z8 aaC Zw Zv (Zq _ _)
   (tuple_addW1 t b vs.toArray ws.toArray n n2 dd dd2 sl sl2 (by simpa using hv) (by simp[hw])) ⟨ho,ho2,h1 hw⟩
 .refine aaP ⟨_,ho,rfl⟩ ⟨_,ho2,rfl⟩ Z8 aaC Zw Zv (Zq _ _)
   (tuple_addW2 t b vs.toArray ws.toArray n n2 dd dd2 sl sl2 (by simpa using hv) (by simpa using hw) (by rw[gZ,gZ];exact hsz)) ⟨ho,ho2,?_⟩
  rw[e];exact h2 hw
def cV(n d:Nat):Option Int->Nat
 |none=>d
 |some v=>if v<0 then(v+(n:Int)).toNat else min v.toNat n
theorem Vz(n d k:Nat):cV n d (aa (k:Int))=min k n:=by
 show(if(k:Int)<0 then((k:Int)+(n:Int)).toNat else min (k:Int).toNat n)=min k n
 rw[bH az,yW]
theorem aoq(n d:Nat)(hd:d<=n)(o:Option Int):cV n d o<=n:=by
 cases o with
 |none=>exact hd
 |some v=>
  show(if v<0 then(v+(n:Int)).toNat else min v.toNat n)<=n
  by_cases hv:v<0
  .rw[bG hv];lia
  .rw[bH hv];exact Nat.min_le_right _ _
theorem adw(v:Int)(n d:Nat):(if v<0 then max (v+(n:Int)) 0 else min v (n:Int))=((cV n d (aa v):Nat):Int):=by
 show(if v<0 then max (v+(n:Int)) 0 else min v (n:Int))=(((if v<0 then(v+(n:Int)).toNat else min v.toNat n):Nat):Int)
 by_cases hv:v<0
 .simp only[bG hv];lia
 .simp only[bH hv];lia
theorem ajk(lo hi:Option Int)(n:Nat):Zm lo hi 1 (n:Int)=(((cV n 0 lo:Nat):Int),((cV n n hi:Nat):Int)):=by
 have h1:¬((1:Int)<0):=az;unfold Zm;simp only[h1,if_false];refine Prod.ext ?_ ?_
 .cases lo with
  |none=>rfl
  |some v=>exact adw v n 0
 .cases hi with
  |none=>rfl
  |some v=>exact adw v n n
theorem ajl(i j:Nat):Q6 (i:Int) (j:Int) 1=j-i:=by
 unfold Q6;have h1:(1:Int)>0:=az;simp only[h1,if_true,Int.ediv_one];split<;>lia
theorem abf(p:wj v o)(h:Q o s):aW (model prog w) A (atl v) Q E s:=by
 cases p with
 |none=>exact slicePart_none h
 |int i t=>exact slicePart_int h
theorem Z9{sl:aC}{lo hi:Option Int}{n:Nat}(hs:s.heap.IsSliceOf sl vl vu .none)(pl:wj vl lo)(pu:wj vu hi)
  (h:Q (((cV n 0 lo:Nat):Int),1,cV n n hi-cV n 0 lo) s):aW (model prog w) A (ag2 (.ref sl) (pure (n:Int))) Q E s:=by
 obtain⟨os,hos,hcs,hds⟩:=id hs
 unfold ag2 atA;refine aF (aF (qD hos hds (x:=vl) rfl (aF (qD hos hds (x:=vu) rfl (aF (qD hos hds (x:=.none) rfl (bA ?_)))))));refine aF (slicePart_none ?_);show aW _ _ (if((1:Int)==0)=aq then _ else _) _ _ s;rw[bH aR];refine aF (abf pl (aF (abf pu (aF (bA ?_)))));show aW _ _ (match Zm lo hi 1 (n:Int) with|(lo,hi)=>pure (lo,(1:Int),Q6 lo hi 1)) _ _ s;rw[ajk lo hi n];show aW _ _ (pure (((cV n 0 lo:Nat):Int),(1:Int),Q6 ((cV n 0 lo:Nat):Int) ((cV n n hi:Nat):Int) 1)) _ _ s;rw[ajl];exact bA h
theorem ak0(xs:Array aN)(i k:Nat):((gG k).filterMap λ(m:Nat)=>xs[((i:Int)+(m:Int)*1).toNat]?).toArray=((xs.toList.drop i).take k).toArray:=by
 have e:(λ(m:Nat)=>xs[((i:Int)+(m:Int)*1).toNat]?)=λm=>xs[i+m]?:=by
  funext m;have:((i:Int)+(m:Int)*1).toNat=i+m:=az;rw[this]
 rw[e];have:=pick_run xs i k;rw[List.filterMap_map] at this;have e2:((λx=>xs[x]?) ∘ λx=>i+x)=λm=>xs[i+m]?:=rfl
 rw[e2] at this;rw[this]
theorem ahL{t sl:aC}{vl vu:aN}{lo hi:Option Int}(ht:IsTup s.heap t items)(hs:s.heap.IsSliceOf sl vl vu .none)(pl:wj vl lo)(pu:wj vu hi)
  (hw:¬(cV items.size 0 lo=0/\cV items.size items.size hi=items.size))
  (h:Q (.ref s.heap.objs.size) {s with heap:=s.heap.push {cls:=.type "tuple",data:=.seq ((items.toList.drop (cV items.size 0 lo)).take (cV items.size items.size hi-cV items.size 0 lo)).toArray}})
  (hsz:items.size<=cJ):aW (model prog w) A (zB (.ref t) (.ref sl)) Q E s:=by
 have Pn:sizeOk (.seq ((items.toList.drop (cV items.size 0 lo)).take (cV items.size items.size hi-cV items.size 0 lo)).toArray):=by
  show((items.toList.drop (cV items.size 0 lo)).take (cV items.size items.size hi-cV items.size 0 lo)).toArray.size<=cJ
  rw[gZ,Az,aaa,m9];lia
 have hj:cV items.size items.size hi<=items.size:=aoq _ _ (cz _) hi
 obtain⟨os,hos,hcs,hds⟩:=id hs
 have hTs:s.TypeIs (.ref sl) "slice":=⟨os,hos,hcs⟩
 unfold zB
 try with_reducible refine nj ?_
 first|refine aF (bA ?_)|skip
 refine aF (ahM ht.typeIs aR ?_);refine aF (uf (name:=bz "__getitem__") ht.typeIs QW
  (nQ QW ht.typeIs entry_tuple_getitem ?_ (args_tuple_getitem _ _)))
 show aW _ _ (ag3 (.ref t) >>= _) _ _ s;refine aF (tupleItemsOf_ ht ?_);refine aF (K1 hTs ?_);rw[bG aR];refine aF (Z9 hs pl pu ?_);have hno:¬((((cV items.size 0 lo:Nat):Int)==0&&(1:Int)==1&&(cV items.size items.size hi-cV items.size 0 lo)==items.size)=aq):=by
  intro q;rw[jP,jP] at q;have q1:((cV items.size 0 lo:Nat):Int)=0:=eq_of_beq q.1.1;have q2:cV items.size items.size hi-cV items.size 0 lo=items.size:=eq_of_beq q.2;exact hw ⟨az,az⟩
 show aW _ _ (if(((cV items.size 0 lo:Nat):Int)==0&&(1:Int)==1&&(cV items.size items.size hi-cV items.size 0 lo)==items.size)=aq then _ else _) _ _ s;rw[bH hno,ak0]
 first
  |exact aF (m:=Q9 _) (lZ (bA ⟨_,rfl,bA h⟩) Pn)
  |exact aF (m:=Q9 _) (lZ (aF (bA (bA ⟨_,rfl,bA h⟩))) Pn)
  |exact aF (aF (m:=Q9 _) (lZ (bA (bA ⟨_,rfl,bA h⟩)) Pn))
  |exact aF (aF (m:=Q9 _) (lZ (bA ⟨_,rfl,bA h⟩) Pn))
end
end HT
namespace L2
open PySem PySem.Spec PyProof.Rows
abbrev TO:=St->Hp->(Option Int->Hp->Prop)->Prop
def PO(X:Cx)(e:Option Expr)(t:TO):Prop:=
 ∀(au:List (aC×Obj))(s:bh)(σ:St)(H:Hp)(Q:Option Int->Hp->Prop),Inv X au σ H s->t σ H Q->
  aW (model X.prog X.w) X.A (evalPart e X.env) (λu s'=>∃o H',Inv X au σ H' s'/\wj u o/\Q o H') X.xe s
def amA:TO:=λ_ H Q=>Q aj H
def apH(t:TE):TO:=λσ H Q=>t σ H λx H1=>∃i,x=.int i/\Q (aa i) H1
theorem intsAre_of:∀{us:List aN},Vals (ns.map V.int) us->IntsAre us ns:=by
 induction ns with
 |nil=>intro us r;rw[uv] at r;cases r;exact .nil
 |cons n ns ih=>
  intro us r;rw[dN] at r;cases r with
  |cons r1 r2=>
   obtain⟨t,e⟩:=r1
   subst e;exact .cons n t (ih r2)
section
variable{X:Cx}{e:Expr}{te:TE}{lo hi:Option Expr}
theorem amB:PO X aj amA:=by
 intro au s σ H Q I h;rw[evalPart_none];exact bA ⟨aj,H,I,.none,h⟩
theorem amC(h:PE X e te):PO X (aa e) (apH te):=by
 intro au s σ H Q I hw;rw[evalPart_some];refine bY (h au s σ H _ I hw) λu s1 aY=>?_
 obtain⟨x,H1,I1,r1,q1⟩:=aY
 obtain⟨i,rfl,q⟩:=q1
 obtain⟨t,rfl⟩:=r1
 exact⟨aa i,H1,I1,.int i t,q⟩
def yK(X:Cx)(r:V->Option Int->Option Int->Hp->VK->Prop):Prop:=
 ∀(au:List (aC×Obj))(s:bh)(σ:St)(H:Hp)(x:V)(v vl vu:aN)(lo hi:Option Int)(sl:aC)(Q:VK),Inv X au σ H s->RelV x v->s.heap.IsSliceOf sl vl vu .none->wj vl lo->wj vu hi->r x lo hi H Q->
  ∃T id,typeLookup (.type T) "__getitem__"=pure (aa (.builtin id))/\s.TypeIs v T/\aW (model X.prog X.w) X.A (zB v (.ref sl)) (EP X au σ Q) X.xe s
theorem yK.or(h:yK X r)(h':yK X r'):yK X (λx lo hi H Q=>r x lo hi H Q\/r' x lo hi H Q):=by
 intro au s σ H x v vl vu lo hi sl Q I rx hs pl pu q;rcases q with q|q
 .exact h au s σ H x v vl vu lo hi sl Q I rx hs pl pu q
 .exact h' au s σ H x v vl vu lo hi sl Q I rx hs pl pu q
def tSl(r:V->Option Int->Option Int->Hp->VK->Prop)(te:TE)(tl th:TO):TE:=λσ H Q=>te σ H λx H1=>tl σ H1 λl H2=>th σ H2 λu H3=>r x l u H3 Q
theorem ak1{r:V->Option Int->Option Int->Hp->VK->Prop}(hr:yK X r)(he:PE X e te)(hl:PO X lo tl)(hu:PO X hi th):PE X (.Subscript e (.Slice lo hi aj p2) pos) (tSl r te tl th):=by
 intro au s σ H Q I h;refine Subscript_ (bY (he au s σ H _ I h) λv s1 aY=>?_)
 obtain⟨x,H1,I1,r1,q1⟩:=aY
 refine wpAny_Slice (bY (hl au s1 σ H1 _ I1 q1) λvl s2 ⟨l,H2,I2,pl,q2⟩=>bY (hu au s2 σ H2 _ I2 q2) λvu s3 aY=>?_)
 obtain⟨u,H3,I3,pu,q3⟩:=aY
 rw[evalPart_none];refine bA ?_;have I4:Inv X au σ H3 {s3 with heap:=s3.heap.push {cls:=.type "slice",data:=.fields #[vl,vu,.none]}}:=I3.kept (t':=s3.toks) λb ob q=>cD _ q
 obtain⟨T,id,hT,ht,hg⟩:=hr au {s3 with heap:=s3.heap.push {cls:=.type "slice",data:=.fields #[vl,vu,.none]}} σ H3 x v vl vu l u s3.heap.objs.size Q I4 r1 (at6 ..) pl pu q3
 show aW (model X.prog X.w) X.A (subscriptTail e (.Slice lo hi aj p2) v (.ref s3.heap.objs.size)) (EP X au σ Q) X.xe {s3 with heap:=s3.heap.push {cls:=.type "slice",data:=.fields #[vl,vu,.none]}};exact tail_any (ops:=[.ref s3.heap.objs.size,v]) ht hT hg (by with_unfolding_all rfl)
def uW(xs:List V)(lo hi:Option Int):List V:=(xs.drop (HT.cV xs.length 0 lo)).take (HT.cV xs.length xs.length hi-HT.cV xs.length 0 lo)
theorem aa4(xs:List V)(lo hi:Option Int):(uW xs lo hi).length<=xs.length:=by
 unfold uW;rw[Az,aaa];lia
def aqM(K:aZ):V->Option Int->Option Int->Hp->VK->Prop:=λx lo hi H Q=>∃a xs,x=.ref a/\cU K H a xs/\
 ¬(HT.cV xs.length 0 lo=0/\HT.cV xs.length xs.length hi=xs.length)/\∀p,H p=aj->Q (.ref p) (upd H p (.tup (uW xs lo hi)))
theorem aor:yK X (aqM X.K):=by
 intro au s σ H x v vl vu lo hi sl Q I rx hs pl pu h
 obtain⟨a,xs,rfl,hx,hw,q⟩:=h
 cases rx
 obtain⟨aK,r,ht,hz⟩:=I.tuple hx
 have hlen:aK.toArray.size=xs.length:=by rw[gZ];exact r.length.symm
 refine⟨"tuple",_,PyProof.Rows.slot_tuple_getitem.lookup,ht.typeIs,?_⟩
 refine HT.ahL ht hs pl pu (by rw[hlen];exact hw) ?_ (by rw[hlen];exact hz);rw[hlen]
 refine⟨.ref s.heap.objs.size,_,I.laid (t':=s.toks) (o:=.tup (uW xs lo hi)) (λb ob q=>cD _ q) (cz _) ?_,rfl,q _ (I.hok.fresh (cz _))⟩
 exact⟨mq (aa4 xs lo hi) hz,_,(r.drop (HT.cV xs.length 0 lo)).take (HT.cV xs.length xs.length hi-HT.cV xs.length 0 lo),IsTup.new _ _⟩
def afa(K:aZ):R2:=λx y H Q=>∃a b xs ys,x=.ref a/\y=.ref b/\cU K H a xs/\cU K H b ys/\xs≠[]/\xs.length+ys.length<=cJ/\
 (ys=[]->Q (.ref a) H)/\(ys≠[]->∀p,H p=aj->Q (.ref p) (upd H p (.tup (xs++ys))))
theorem Vals.VB(r:Vals xs us):us=[]↔xs=[]:=by
 cases r with
 |nil=>simp
 |cons _ _=>simp
theorem amD:dU X (pZ .Add) (afa X.K):=by
 intro au s σ H x y v u Q I rx ry h
 obtain⟨a,b,xs,ys,rfl,rfl,ha,hb,hx,hz,q1,q2⟩:=h
 cases rx;cases ry
 obtain⟨aK,r1,p1,_⟩:=I.tuple ha
 obtain⟨its2,r2,p2,_⟩:=I.tuple hb
 refine HT.amz p1 p2 (λz=>hx (r1.VB.mp z)) (λz=>⟨.ref a,H,I,rfl,q1 (r2.VB.mp z)⟩) (λz=>?_) (by rw[<-r1.length,<-r2.length];exact hz)
 refine⟨.ref s.heap.objs.size,_,I.laid (t':=s.toks) (o:=.tup (xs++ys)) (λb ob q=>cD _ q) (cz _) ?_,rfl,q2 (λw=>z (r2.VB.mpr w)) _ (I.hok.fresh (cz _))⟩
 exact⟨by rw[fO];exact hz,_,r1.append r2,IsTup.new _ _⟩
end
noncomputable def pN (n:Nat) (i:Int):Option Nat:=if 0<=i then(if i<n then aa i.toNat else aj) else if -(n:Int)<=i then aa (i+n).toNat else aj
noncomputable def fL {α:Type} (xs:List α) (i:Int):Option α:=(pN xs.length i).bind λj=>xs[j]?
theorem adx(h:pN n i=aa j):seqIndex? i n=aa j/\j<n/\-(n:Int)<=i/\i<n:=by
 unfold pN at h;by_cases h0:0<=i
 .rw[bG h0] at h;by_cases h1:i<n
  .rw[bG h1] at h;have e:i.toNat=j:=jy h
   exact⟨by rw[aa5 h0 h1,e],az,az,h1⟩
  .rw[bH h1] at h;cases h
 .rw[bH h0] at h;by_cases h1:-(n:Int)<=i
  .rw[bG h1] at h;have e:(i+n).toNat=j:=jy h
   exact⟨by rw[aaQ az h1,e],az,h1,az⟩
  .rw[bH h1] at h;cases h
theorem VD{xs:List α}{v:α}(h:fL xs i=aa v):∃j,seqIndex? i xs.length=aa j/\xs[j]?=aa v/\j<xs.length/\-(xs.length:Int)<=i/\i<xs.length:=by
 unfold fL at h;cases e:pN xs.length i with
 |none=>rw[e] at h;cases h
 |some j=>
  rw[e] at h
  obtain⟨h1,h2,h3,h4⟩:=adx e
  exact⟨j,h1,h,h2,h3,h4⟩
theorem xU{xs:List α}{j:Nat}{v:α}(h:xs[j]?=aa v):fL xs (j:Int)=aa v:=by
 have hj:j<xs.length:=(jO.mp h).1;have e:pN xs.length (j:Int)=aa j:=by
  unfold pN;rw[bG az,bG az];simp
 unfold fL;rw[e];exact h
def BK(b:Expr):Prop:=∀o i,aa6 b aM o i=operate [o,i] (zB o i)
def t7(X:Cx)(r:R2):Prop:=
 ∀(value slice:Expr)(au:List (aC×Obj))(s:bh)(σ:St)(H:Hp)(x y:V)(v u:aN)(Q:VK),Inv X au σ H s->RelV x v->RelV y u->r x y H Q->
  aa6 slice aM v u=operate [v,u] (zB v u)->aW (model X.prog X.w) X.A (subscriptTail value slice v u) (EP X au σ Q) X.xe s
def MtR(X:Cx)(id:String)(r:V->List V->Hp->VK->Prop):Prop:=
 ∀(au:List (aC×Obj))(s:bh)(σ:St)(H:Hp)(x:V)(xs:List V)(v:aN)(us:List aN)(Q:VK),Inv X au σ H s->RelV x v->Vals xs us->r x xs H Q->
  aW (model X.prog X.w) X.A (call (.builtin id) (v::us)) (EP X au σ Q) X.xe s
section
variable{X:Cx}{a b:Expr}{ta tb:TE}{pos:Pos}
theorem t7.or(h:t7 X r)(h':t7 X r'):t7 X (λx y H Q=>r x y H Q\/r' x y H Q):=by
 intro value slice au s σ H x y v u Q I rx ry q hs;rcases q with q|q
 .exact h value slice au s σ H x y v u Q I rx ry q hs
 .exact h' value slice au s σ H x y v u Q I rx ry q hs
theorem Jj(hr:t7 X r)(ha:PE X a ta)(hb:PE X b tb)(hs:BK b):PE X (.Subscript a b pos) (JR r ta tb):=by
 intro au s σ H Q I h;exact Subscript_ (X7 ha hb I h λv u s2 x y H2 I2 rx ry q=>hr a b au s2 σ H2 x y v u Q I2 rx ry q (hs _ _))
def afC(K:aZ):R2:=λx y H Q=>∃p xs i v,x=.ref p/\y=.int i/\cj K H p xs/\fL xs i=aa v/\Q v H
def afD(K:aZ):R2:=λx y H Q=>∃p xs i v,x=.ref p/\y=.int i/\cU K H p xs/\fL xs i=aa v/\Q v H
def afE:R2:=λx y H Q=>∃z i c,x=.str z/\y=.int i/\z.length<=cJ/\fL z.cps.toList i=aa c/\Q (.str ⟨#[c]⟩) H
theorem VF:t7 X (afC X.K):=by
 intro value slice au s σ H x y v u Q I rx ry h hs
 obtain⟨p,xs,i,z,rfl,rfl,hq,he,q⟩:=h
 cases rx
 obtain⟨t,rfl⟩:=ry
 obtain⟨aK,r,pl,hz⟩:=I.list hq
 obtain⟨j,h1,h2,h3,h4,h5⟩:=VD he
 obtain⟨w,ew,rw'⟩:=r.get h2
 have hl:=r.length;have hn:=BZ;have fin:EP X au σ Q w s:=⟨z,H,I,rw',q⟩
 by_cases h0:0<=i
 .have hj:i.toNat=j:=by
   rw[aa5 h0 h5] at h1;exact jy h1
  exact item_listR pl.isList h0 az (by rw[hj];simpa using ew) fin hs
 .have hj:(i+(aK.toArray.size:Int)).toNat=j:=by
   rw[aaQ az h4] at h1;rw[gZ,<-hl];exact jy h1
  exact subscriptTail_builtinR (x:=w) pl.isList.typeIs slot_list_getitem.lookup
   (wpAny_getItem_list_neg (Q:=λr s'=>r=w/\EP X au σ Q r s') pl.isList az (by rw[gZ]<;>lia) az (by rw[hj];simpa using ew) ⟨rfl,fin⟩) hs
theorem aos:t7 X (afD X.K):=by
 intro value slice au s σ H x y v u Q I rx ry h hs
 obtain⟨p,xs,i,z,rfl,rfl,hq,he,q⟩:=h
 cases rx
 obtain⟨t,rfl⟩:=ry
 obtain⟨aK,r,pl,hz⟩:=I.tuple hq
 obtain⟨j,h1,h2,h3,h4,h5⟩:=VD he
 obtain⟨w,ew,rw'⟩:=r.get h2
 have hl:=r.length;have hn:=BZ;have fin:EP X au σ Q w s:=⟨z,H,I,rw',q⟩
 exact subscriptTail_builtinR (x:=w) pl.typeIs slot_tuple_getitem.lookup
  (getItem_tuple (j:=j) (Q:=λr s'=>r=w/\EP X au σ Q r s') pl az az (by rw[gZ,<-hl];exact h1) (by simpa using ew) ⟨rfl,fin⟩) hs
theorem aot:t7 X afE:=by
 intro value slice au s σ H x y v u Q I rx ry h hs
 obtain⟨z,i,c,rfl,rfl,hz,he,q⟩:=h
 obtain⟨t,rfl⟩:=rx
 obtain⟨t',rfl⟩:=ry
 obtain⟨j,h1,h2,h3,h4,h5⟩:=VD he
 have hl:z.cps.toList.length=z.length:=by simp[Str.length]
 rw[hl] at h1 h4 h5;have hn:=BZ;exact tail_any (abg s z t) slot_str_getitem.lookup (getItem_str (c:=c) (by
  have e1:decide (i< -(2^63:Int))=aM:=iR az;have e2:decide (i>=2^63)=aM:=iR az;rw[e1,e2,Bool.or_false]) (by rw[h1];simpa using h2) ⟨.str ⟨#[c]⟩,H,I.tok _,⟨_,rfl⟩,q⟩) hs
def rIx(K:aZ):R2:=λx y H Q=>afC K x y H Q\/afD K x y H Q\/afE x y H Q
theorem aou:t7 X (rIx X.K):=VF.or (aos.or aot)
theorem ajm(aK:List aN)(n j:Nat)(u:aN):oJ (·.setIfInBounds j u) {cls:=.type "list",data:=.seq aK.toArray n}={cls:=.type "list",data:=.seq (aK.set j u).toArray n}:=by
 simp[oJ]
theorem Inv.lst{au:List (aC×Obj)}{σ:St}{H:Hp}{s:bh}{p:aC}{xs:List V}(I:Inv X au σ H s)(h:H p=aa (.lst xs)):
  ∃(aK:List aN)(n:Nat),Vals xs aK/\s.heap.get? p=aa {cls:=.type "list",data:=.seq aK.toArray n}/\xs.length<=cJ:=by
 obtain⟨z,aK,n,r,e⟩:=I.hok p _ h
 exact⟨aK,n,r,e,z⟩
theorem Inv.aov{σ:St}{H:Hp}{s:bh}{p:aC}{aK its':List aN}{n n':Nat}{f:Obj->Obj}(I:Inv X au σ H s)(h:H p=aa (.lst xs))
  (ho:s.heap.get? p=aa {cls:=.type "list",data:=.seq aK.toArray n})(hf:f {cls:=.type "list",data:=.seq aK.toArray n}={cls:=.type "list",data:=.seq its'.toArray n'})(r:Vals ys its')(hz:ys.length<=cJ)(t:Nat):
  Inv X au σ (upd H p (.lst ys)) {s with heap:=s.heap.update p f,toks:=t}:=by
 have e:(s.heap.update p f).get? p=aa {cls:=.type "list",data:=.seq its'.toArray n'}:=by
  rw[vA f ho (by rw[hf]<;>rfl),hf]
 refine I.write (x:=p) (e:=p) (by rw[h];trivial) (.inl rfl) (λb u hb q=>(pR _ _ (j5 hb)).trans q) ⟨_,e⟩ ?_
 exact⟨hz,its',n',r,e⟩
def Xv:V->V->V->Hp->(Hp->Prop)->Prop:=λo i v H Q=>∃p xs k j,o=.ref p/\i=.int k/\H p=aa (.lst xs)/\pN xs.length k=aa j/\Q (upd H p (.lst (xs.set j v)))
theorem set_list:yz X Xv:=by
 intro au s σ H o i v ov iv u Q I ro ri rv h
 obtain⟨p,xs,k,j,rfl,rfl,hp,hj,q⟩:=h
 cases ro
 obtain⟨t,rfl⟩:=ri
 obtain⟨aK,n,r,ho,hz⟩:=I.lst hp
 obtain⟨h1,h2,h3,h4⟩:=adx hj
 have hl:=r.length;have hn:=BZ;have I':Inv X au σ (upd H p (.lst (xs.set j v))) {s with heap:=s.heap.update p (oJ (·.setIfInBounds j u))}:=
  I.aov hp ho (ajm aK n j u) (r.set rv j) (by rw[Bc];exact hz) s.toks
 by_cases h0:0<=k
 .have hk:k.toNat=j:=by
   rw[aa5 h0 h4] at h1;exact jy h1
  exact PySem.W.ki_setAt ho h0 az (by rw[gZ,<-hl];exact h4) (by rw[hk];exact⟨_,I',q⟩)
 .have hk:(k+(aK.toArray.size:Int)).toNat=j:=by
   rw[aaQ az h3] at h1;rw[gZ,<-hl];exact jy h1
  exact PySem.W.ki_setBack ho az (by rw[gZ,<-hl];exact h3) az (by rw[hk];exact⟨_,I',q⟩)
theorem aiN(lo hi:Option Int)(n:Nat):(DR lo hi aj n).1=((HT.cV n 0 lo:Nat):Int)/\(DR lo hi aj n).2.1=((HT.cV n n hi:Nat):Int)/\(DR lo hi aj n).2.2=1:=by
 refine⟨?_,?_,rfl⟩
 .cases lo with
  |none=>simp[DR,HT.cV]
  |some i=>
   simp only[DR,HT.cV,ah1,show(1:Int)>0 by decide,if_true];by_cases h:i<0
   .simp only[h,if_true]<;>lia
   .simp only[h,if_false]<;>lia
 .cases hi with
  |none=>simp[DR,HT.cV]
  |some i=>
   simp only[DR,HT.cV,ah1,show(1:Int)>0 by decide,if_true];by_cases h:i<0
   .simp only[h,if_true]<;>lia
   .simp only[h,if_false]<;>lia
theorem aiy(aK:List aN)(lo hi:Option Int):slicePick aK.toArray lo hi aj=((aK.drop (HT.cV aK.length 0 lo)).take (HT.cV aK.length aK.length hi-HT.cV aK.length 0 lo)).toArray:=by
 obtain⟨h1,h2,h3⟩:=aiN lo hi aK.toArray.size
 unfold slicePick;rw[h1,h2,h3];simp only[sliceRange_one,pick_run,gZ]<;>rfl
def aqN(K:aZ):V->Option Int->Option Int->Hp->VK->Prop:=λx lo hi H Q=>∃a xs,x=.ref a/\cj K H a xs/\∀p,H p=aj->Q (.ref p) (upd H p (.lst (uW xs lo hi)))
theorem amE:yK X (aqN X.K):=by
 intro au s σ H x v vl vu lo hi sl Q I rx hs pl pu h
 obtain⟨a,xs,rfl,hx,q⟩:=h
 cases rx
 obtain⟨aK,r,ht,hz⟩:=I.list hx
 have hlen:=r.length
 refine⟨"list",_,slot_list_getitem.lookup,ht.isList.typeIs,?_⟩
 refine wpAny_getItem_list_slice ht.isList hs pl pu .none bI ?_ (by rw[gZ]<;>lia);rw[aiy,<-hlen]
 refine⟨.ref s.heap.objs.size,_,I.laid (t':=s.toks) (o:=.lst (uW xs lo hi)) (λb ob q=>cD _ q) (cz _) ?_,rfl,q _ (I.hok.fresh (cz _))⟩
 exact⟨mq (aa4 xs lo hi) hz,_,0,(r.drop (HT.cV xs.length 0 lo)).take (HT.cV xs.length xs.length hi-HT.cV xs.length 0 lo),gj _ rfl⟩
def rO:V->Bool
 |.non=>aq
 |.bl _=>aq
 |.int _=>aq
 |.str _=>aq
 |_=>aM
def u6:V->V->Bool
 |.non,.non=>aq
 |.bl a,.bl b=>a==b
 |.bl a,.int b=>(if a then 1 else 0)==b
 |.int a,.bl b=>a==(if b then 1 else 0)
 |.int a,.int b=>a==b
 |.str a,.str b=>a==b
 |_,_=>aM
theorem Om(ry:RelV y u)(rx:RelV x v)(fy:rO y=aq)(fx:rO x=aq):abh A s u v (u6 y x):=by
 cases y with
 |non=>
  cases ry;cases x with
  |non=>cases rx;exact SeqAt.EqAt.same _
  |bl b=>cases rx;exact SeqAt.EqAt.none_bool b
  |int b=>obtain⟨t,rfl⟩:=rx;exact SeqAt.EqAt.none_int b t
  |str b=>obtain⟨t,rfl⟩:=rx;exact SeqAt.EqAt.none_str b t
  |_=>exact absurd (show aM=aq from fx) jm
 |bl a=>
  cases ry;cases x with
  |non=>cases rx;exact SeqAt.EqAt.bool_none a
  |bl b=>cases rx;exact SeqAt.EqAt.bool_bool a b
  |int b=>obtain⟨t,rfl⟩:=rx;exact SeqAt.EqAt.bool_int a b t
  |str b=>obtain⟨t,rfl⟩:=rx;exact SeqAt.EqAt.bool_str a b t
  |_=>exact absurd (show aM=aq from fx) jm
 |int a=>
  obtain⟨t',rfl⟩:=ry
  cases x with
  |non=>cases rx;exact SeqAt.EqAt.int_none a t'
  |bl b=>cases rx;exact SeqAt.EqAt.int_bool a t' b
  |int b=>obtain⟨t,rfl⟩:=rx;exact SeqAt.EqAt.int_int a t' b t
  |str b=>obtain⟨t,rfl⟩:=rx;exact ahy a t' b t
  |_=>exact absurd (show aM=aq from fx) jm
 |str a=>
  obtain⟨t',rfl⟩:=ry
  cases x with
  |non=>cases rx;exact SeqAt.EqAt.str_none a t'
  |bl b=>cases rx;exact SeqAt.EqAt.str_bool a t' b
  |int b=>obtain⟨t,rfl⟩:=rx;exact ahz a t' b t
  |str b=>obtain⟨t,rfl⟩:=rx;exact SeqAt.EqAt.str_str a t' b t
  |_=>exact absurd (show aM=aq from fx) jm
 |_=>exact absurd (show aM=aq from fy) jm
def qt(x:V)(u:aN):Bool:=match u with
 |.none=>u6 .non x
 |.bool b=>u6 (.bl b) x
 |.int i _=>u6 (.int i) x
 |.str z _=>u6 (.str z) x
 |_=>aM
theorem aeB(r:RelV y u)(f:rO y=aq):qt x u=u6 y x:=by
 cases y with
 |non=>cases r;rfl
 |bl b=>cases r;rfl
 |int i=>obtain⟨t,rfl⟩:=r;rfl
 |str z=>obtain⟨t,rfl⟩:=r;rfl
 |_=>exact absurd (show aM=aq from f) jm
theorem Ih:∀{xs:List V}{us:List aN},Vals xs us->xs.all rO=aq->us.any (qt x)=xs.any λy=>u6 y x
 |_,_,.nil,_=>rfl
 |y::xs,u::us,.cons r t,f=>by
  rw[KN,jP] at f;rw[KQ,KQ,aeB r f.1,Ih t f.2]
theorem Ht(rx:RelV x v)(fx:rO x=aq):∀{xs:List V}{us:List aN},Vals xs us->xs.all rO=aq->∀u∈us,abh A s u v (qt x u)
 |_,_,.nil,_=>λu hu=>by cases hu
 |y::xs,u::us,.cons r t,f=>λu' hu=>by
  rw[KN,jP] at f;rcases bW.mp hu with rfl|hu
  .rw[aeB r f.1];exact Om r rx f.1 fx
  .exact Ht rx fx t f.2 u' hu
def inV(x:V)(xs:List V):Bool:=xs.any λy=>u6 y x
def Qu(K:aZ)(neg:Bool):R2:=λx y H Q=>∃p xs,y=.ref p/\(cj K H p xs\/cU K H p xs)/\rO x=aq/\xs.all rO=aq/\Q (.bl (if neg then !inV x xs else inV x xs)) H
theorem aj3:dU X (iG .In) (Qu X.K aM):=by
 intro au s σ H x y v u Q I rx ry h
 obtain⟨p,xs,rfl,hq,fx,fs,q⟩:=h
 cases ry;rcases hq with hq|hq
 .obtain⟨aK,r,pl,hz⟩:=I.list hq
  refine SeqAt.in_listAt (qt x) pl.isList (λw hw=>Ht rx fx r fs w (by simpa using hw)) ⟨.bl _,H,I,rfl,?_⟩;rw[show aK.toArray.any (qt x)=aK.any (qt x) by simp,Ih r fs];exact q
 .obtain⟨aK,r,pl,hz⟩:=I.tuple hq
  refine SeqAt.in_tupleAt (qt x) pl (λw hw=>Ht rx fx r fs w (by simpa using hw)) ⟨.bl _,H,I,rfl,?_⟩;rw[show aK.toArray.any (qt x)=aK.any (qt x) by simp,Ih r fs];exact q
theorem aiO:dU X (iG .NotIn) (Qu X.K aq):=by
 intro au s σ H x y v u Q I rx ry h
 obtain⟨p,xs,rfl,hq,fx,fs,q⟩:=h
 cases ry;rcases hq with hq|hq
 .obtain⟨aK,r,pl,hz⟩:=I.list hq
  refine SeqAt.notIn_listAt (qt x) pl.isList (λw hw=>Ht rx fx r fs w (by simpa using hw)) ⟨.bl _,H,I,rfl,?_⟩;rw[show aK.toArray.any (qt x)=aK.any (qt x) by simp,Ih r fs];exact q
 .obtain⟨aK,r,pl,hz⟩:=I.tuple hq
  refine SeqAt.notIn_tupleAt (qt x) pl (λw hw=>Ht rx fx r fs w (by simpa using hw)) ⟨.bl _,H,I,rfl,?_⟩;rw[show aK.toArray.any (qt x)=aK.any (qt x) by simp,Ih r fs];exact q
theorem aaR:iY X (.builtin "len") (λxs H Q=>∃p ys,xs=[.ref p]/\(cj X.K H p ys\/cU X.K H p ys)/\Q (.int ys.length) H):=by
 intro au s σ H xs us Q I r h
 obtain⟨p,ys,rfl,hq,q⟩:=h
 obtain⟨u,rfl,rx⟩:=vals1 r
 cases rx;have hn:=BZ;rcases hq with hq|hq
 .obtain⟨aK,r',pl,hz⟩:=I.list hq
  have hlen:=r'.length;exact Calls.call_len_list pl.isList (by simp only[gZ]<;>lia) ⟨.int ys.length,H,I.tok _,⟨s.toks+1,by rw[gZ,hlen]⟩,q⟩
 .obtain⟨aK,r',pl,hz⟩:=I.tuple hq
  have hlen:=r'.length;exact len_tuple pl (by simp only[gZ]<;>lia) ⟨.int ys.length,H,I.tok _,⟨s.toks+1,by rw[gZ,hlen]⟩,q⟩
theorem aiP:iY X (.builtin "len") (λxs H Q=>∃z,xs=[.str z]/\z.length<=cJ/\Q (.int z.length) H):=by
 intro au s σ H xs us Q I r h
 obtain⟨z,rfl,hz,q⟩:=h
 obtain⟨u,rfl,t,rfl⟩:=vals1 r
 have hn:=BZ;exact len_str az ⟨.int z.length,H,I.tok _,⟨_,rfl⟩,q⟩
theorem iY.or(h:iY X f r)(h':iY X f r'):iY X f (λxs H Q=>r xs H Q\/r' xs H Q):=by
 intro au s σ H xs us Q I rs q;rcases q with q|q
 .exact h au s σ H xs us Q I rs q
 .exact h' au s σ H xs us Q I rs q
theorem G5:iY X (.type "tuple") (λxs H Q=>∃p ys,xs=[.ref p]/\((cj X.K H p ys/\∀l,H l=aj->Q (.ref l) (upd H l (.tup ys)))\/(cU X.K H p ys/\Q (.ref p) H))):=by
 intro au s σ H xs us Q I r h
 obtain⟨p,ys,rfl,h⟩:=h
 obtain⟨u,rfl,rx⟩:=vals1 r
 cases rx;rcases h with⟨hq,q⟩|⟨hq,q⟩
 .obtain⟨aK,r',pl,hz⟩:=I.list hq
  have hlen:=r'.length;refine call_tuple_list pl.isList (λh' kp=>?_) (by simp only[gZ]<;>lia);have I1:Inv X au σ H {s with heap:=h'}:=I.kept (t':=s.toks) kp;have I2:Inv X au σ (upd H h'.objs.size (.tup ys)) {s with heap:=h'.push {cls:=.type "tuple",data:=.seq aK.toArray}}:=
   I1.laid (t':=s.toks) (λb o e=>cD _ e) (cz _) (show f9 X.prog X.w _ _ _ (.tup ys) from⟨hz,aK,r',IsTup.new _ _⟩)
  exact⟨.ref h'.objs.size,_,I2,rfl,q _ (I1.hok.fresh (cz _))⟩
 .obtain⟨aK,r',pl,hz⟩:=I.tuple hq
  exact call_tuple_same pl ⟨.ref p,H,I,rfl,q⟩
def tyV(K:aZ)(T:String)(x:V)(H:Hp):Prop:=match x with
 |.str _=>T="str"
 |.int _=>T="int"
 |.ref p=>(T="list"/\∃xs,cj K H p xs)\/(T="tuple"/\∃o,K.lookup p=aa o/\o.cls=.type "tuple"/\o.dict=aj)\/
   (T="dict"/\((∃aA ep,H p=aa (.dK aA ep))\/∃aA ep,H p=aa (.dT aA ep)))\/(T="set"/\∃S n,H p=aa (.set S n))
 |_=>False
theorem aow{σ:St}{H:Hp}{x:V}{v:aN}(I:Inv X au σ H s)(r:RelV x v)(ty:tyV X.K T x H):
  s.TypeIs v T/\∀a,v=.ref a->∃ob,s.heap.get? a=aa ob/\ob.dict=aj:=by
 cases x with
 |str z=>
  obtain⟨t,rfl⟩:=r
  cases(show T="str" from ty)
  exact⟨abg s z t,λ_ e=>nomatch e⟩
 |int i=>
  obtain⟨t,rfl⟩:=r
  cases(show T="int" from ty)
  exact⟨abi s i t,λ_ e=>nomatch e⟩
 |ref p=>
  cases r;rcases ty with⟨rfl,xs,hq⟩|⟨rfl,o,hk,hc,hd⟩|⟨rfl,hk⟩|⟨rfl,S,n,hk⟩
  .obtain⟨aK,_,pl,_⟩:=I.list hq
   refine⟨pl.isList.typeIs,λa e=>?_⟩
   cases e
   obtain⟨o,n,e,c,hd,_⟩:=pl
   exact⟨o,e,hd⟩
  .refine⟨⟨o,I.jL p o hk,hc⟩,λa e=>?_⟩
   cases e
   exact⟨o,I.jL _ o hk,hd⟩
  .have z:∃o,s.heap.get? p=aa o/\o.ExactDict:=by
    rcases hk with⟨aA,ep,hk⟩|⟨aA,ep,hk⟩
    .obtain⟨_,_,_,_,o,_,e,ex,_⟩:=I.hok p _ hk
     exact⟨o,e,ex⟩
    .obtain⟨_,_,_,_,o,_,e,ex,_⟩:=I.hok p _ hk
     exact⟨o,e,ex⟩
   obtain⟨o,e,ex⟩:=z
   refine⟨⟨o,e,ex.1⟩,λa e2=>?_⟩
   cases e2
   exact⟨o,e,ex.2.1⟩
  .obtain⟨o,_,_,_,e,ex,_⟩:=I.hok p _ hk
   refine⟨⟨o,e,ex.1⟩,λa e2=>?_⟩
   cases e2
   exact⟨o,e,ex.2.1⟩
 |_=>exact xR ty
def tBM(K:aZ)(T:String)(r:V->List V->Hp->VK->Prop)(to:TE)(t:TA):TE:=λσ H Q=>to σ H λx H1=>tyV K T x H1/\t σ H1 λxs H2=>r x xs H2 Q
variable{o e:Expr}{to:TE}{t:TA}{name:Str}{apos cpos:Pos}{T id:String}
theorem Xw(pa:PlainAttrs T)(slot:Slot T name id)(hty:typeOf (.builtin id)=pure (.type "method_descriptor"))(hm:MtR X id r)(ho:PE X o to)(ha:PA X (e::es) t)
  (hbase:RC o name X.env (eval o X.env)=eval o X.env:=by rfl)
  (hfew:((jA cpos (bR (e::es) X.env)).all (λx=>!x.1)&&(Uj cpos (R0 [] X.env)).all (λx=>x.1.isSome)
   &&decide ((e::es).length+([]:List BL).length+(if([]:List BL).isEmpty then 0 else 1)<30))=aq:=by rfl)
  (hline:(apos.endLine==cpos.line)=aq:=by rfl)(hs:bR (e::es) X.env=(aM,eval e X.env)::bR es X.env:=by rfl)(hplain:(jA cpos (bR es X.env)).any (·.1)=aM:=by rfl):
  PE X (.Call (.Attribute o name apos) (e::es) [] cpos) (tBM X.K T r to t):=by
 intro au s σ H Q I h;refine wpAny_Call_method_late hbase hfew hline rfl (bY (ho au s σ H _ I h) λv s1 aY=>?_)
 obtain⟨x,H1,I1,r1,ty,q1⟩:=aY
 obtain⟨h1,h2⟩:=aow I1 r1 ty
 refine⟨T,id,pa,slot,hty,h1,h2,?_⟩
 have hA:=ha cpos au s1 σ H1 _ I1 q1;rw[hs] at hA⊢;refine Calls.callWith_builtin (by show(aM||(jA cpos (bR es X.env)).any (·.1))=aM;rw[hplain]<;>rfl) (Calls.evalArgs_plain ?_);exact bY hA λus s2 ⟨vs,H2,I2,r2,q2⟩=>hm au s2 σ H2 x vs v us Q I2 r1 r2 q2
end
def Df(X:Cx)(id:String)(r:V->List V->Hp->VK->Prop):Prop:=
 ∀(au:List (aC×Obj))(s:bh)(σ:St)(H:Hp)(x:V)(xs:List V)(v:aN)(us:List aN)(Q:VK),Inv X au σ H s->RelV x v->Vals xs us->r x xs H Q->
  aW (model X.prog X.w) X.A (call (.builtin id) (v::us)) (EP X au σ Q) X.xe s
theorem Vals.one:∀{x:V}{us:List aN},Vals [x] us->∃u,us=[u]/\RelV x u
 |_,_,.cons r .nil=>⟨_,rfl,r⟩
theorem Vals.rep(h:Vals xs us):∀k:Nat,Vals (fP k xs).flatten (fP k us).flatten
 |0=>.nil
 |k+1=>by
  rw[Dt,Dt,GP,GP];exact Vals.append h (Vals.rep h k)
theorem foldl_rep(aK:List aN):∀(k:Nat)(bu:List aN),
  abj (λx1 x2=>x1++x2) bu.toArray (fP k aK.toArray)=(bu++(fP k aK).flatten).toArray
 |0,bu=>by simp
 |k+1,bu=>by
  have e:bu.toArray++aK.toArray=(bu++aK).toArray:=bI;have e2:(bu++aK)++(fP k aK).flatten=bu++(fP (k+1) aK).flatten:=by
   rw[Dt,GP,kE]
  rw[<-e2,<-foldl_rep aK k (bu++aK),<-e,Dt,Dy]
section
variable{X:Cx}{au:List (aC×Obj)}{σ:St}{H:Hp}{s:bh}{l b:aC}{xs ys zs:List V}
theorem Inv.aqO{aK its':List aN}{n:Nat}(I:Inv X au σ H s)(hH:H l=aa (.lst xs))
  (e:s.heap.get? l=aa {cls:=.type "list",data:=.seq aK.toArray n})(hf:f aK.toArray=its'.toArray)(hv:Vals ys its')(hz:ys.length<=cJ):
  Inv X au σ (upd H l (.lst ys)) {s with heap:=s.heap.update l (oJ f),toks:=t'}:=by
 have q:=PySem.IsL.update e f;rw[hf] at q;refine I.write (x:=l) (e:=l) (by rw[hH];exact trivial) (.inl rfl) (λb' u hb hu=>(pR s.heap (oJ f) (j5 hb)).trans hu) ⟨_,q⟩ ?_
 exact⟨hz,its',_,hv,q⟩
theorem Inv.afF(I:Inv X au σ H s)(hv:Vals ys aK)(hz:ys.length<=cJ):
  Inv X au σ (upd H s.heap.objs.size (.lst ys)) {s with heap:=s.heap.push {cls:=.type "list",data:=.seq aK.toArray},toks:=t'}:=
 I.laid (λ_ _ q=>cD _ q) (cz _) ⟨hz,aK,0,hv,gj _ rfl⟩
theorem Inv.fresh(I:Inv X au σ H s):H s.heap.objs.size=aj:=I.hok.fresh (cz _)
theorem Inv.Qd(I:Inv X au σ H s)(hH:H l=aa (.lst xs)):xs.length<=cJ/\∃(aK:List aN)(n:Nat),Vals xs aK/\xs.length=aK.length/\s.heap.get? l=aa {cls:=.type "list",data:=.seq aK.toArray n}:=by
 obtain⟨z,aK,n,r,e⟩:=I.hok l _ hH
 exact⟨z,aK,n,r,r.length,e⟩
theorem ak2(h:n<=cJ):Zr n=aM:=by
 unfold Zr;exact iR az
end
section
variable{X:Cx}
def amF:V->List V->Hp->VK->Prop:=λx vs H Q=>∃l xs y,x=.ref l/\vs=[y]/\H l=aa (.lst xs)/\xs.length<cJ/\Q .non (upd H l (.lst (xs++[y])))
theorem Tq:Df X "list.append" amF:=by
 intro au s σ H x vs v us Q I rx rv h
 obtain⟨l,xs,y,rfl,rfl,hH,hz,q⟩:=h
 cases rx
 obtain⟨u,rfl,ru⟩:=rv.one
 obtain⟨z,aK,n,r,hl,e⟩:=I.Qd hH
 refine abk ZR ⟨_,e,rfl⟩ F.entry_list_append (F.args_list_append_2 _ _) (PySem.list_append l aK.toArray n u (by rw[gZ];lia)) ⟨e,?_⟩
 refine⟨.non,_,I.aqO (its':=aK++[u]) hH e bI (r.append (.cons ru .nil)) ?_,rfl,q⟩
 rw[fO,List.length_singleton];lia
def afG:R2:=λx y H Q=>∃l b xs zs,x=.ref l/\y=.ref b/\H l=aa (.lst xs)/\H b=aa (.lst zs)/\xs.length+zs.length<=cJ/\∀p,H p=aj->Q (.ref p) (upd H p (.lst (xs++zs)))
theorem aox:dU X (pZ .Add) afG:=by
 intro au s σ H x y v u Q I rx ry h
 obtain⟨l,b,xs,zs,rfl,rfl,hH,hB,hz,q⟩:=h
 cases rx;cases ry
 obtain⟨z,aK,n,r,hl,e⟩:=I.Qd hH
 obtain⟨z2,its2,n2,r2,hl2,e2⟩:=I.Qd hB
 refine PySem.P.add_list e e2 ?_ (by rw[gZ,gZ];lia);have ea:aK.toArray++its2.toArray=(aK++its2).toArray:=bI;rw[ea]
 exact⟨.ref _,_,I.afF (t':=s.toks) (r.append r2) (by rw[fO];lia),rfl,q _ I.fresh⟩
def afH:R2:=λx y H Q=>∃l k xs,x=.ref l/\y=.int k/\H l=aa (.lst xs)/\-(2^63)<=k/\k<2^63/\xs.length*k.toNat<=cJ/\
 ∀p,H p=aj->Q (.ref p) (upd H p (.lst (fP k.toNat xs).flatten))
theorem len_rep{α:Type}(xs:List α)(k:Nat):(fP k xs).flatten.length=k*xs.length:=by
 induction k with
 |zero=>simp
 |succ k ih=>rw[Dt,GP,fO,ih,Nat.succ_mul,Nat.add_comm]
theorem aoy:dU X (pZ .Mult) afH:=by
 intro au s σ H x y v u Q I rx ry h
 obtain⟨l,k,xs,rfl,rfl,hH,h1,h2,hz,q⟩:=h
 cases rx
 obtain⟨t,rfl⟩:=ry
 obtain⟨z,aK,n,r,hl,e⟩:=I.Qd hH
 have hlen:aK.toArray.size*k.toNat<=cJ:=by rw[gZ,<-hl];exact hz
 have hcap:¬aK.toArray.size*k.toNat>(2^63-1) / 8:=by
  have:(cJ:Nat)<=(2^63-1) / 8:=aR;lia
 have hfit:¬(!Builtin.List.listFitsIndex k)=aq:=by
  rw[fitsIndex_both h1 h2];exact jm
 have apI:¬Zr (aK.toArray.size*k.toNat)=aq:=by
  rw[ak2 hlen];exact jm
 have hnew:abj (λx1 x2=>x1++x2) #[] (fP (if aK.toArray.isEmpty=aq then 0 else k.toNat) aK.toArray)=(fP k.toNat aK).flatten.toArray:=by
  have f0:∀m:Nat,abj (λx1 x2=>x1++x2) #[] (fP m aK.toArray)=(fP m aK).flatten.toArray:=λm=>by
   have:=foldl_rep aK m [];rw[iU] at this;exact this
  rw[f0];cases aK with
  |nil=>simp
  |cons a r'=>rw[bH bI]
 refine wpAny_binaryOp_repeat_ref (T:="list") (U:="int") aR ⟨_,e,rfl⟩ (λs'=>abi s' k t) noFill_list_mul F.fills_int_mul aid repeat_list F.slot_int_index.lookup
  (abk aid (abi s k t) F.entry_int_rmul (F.args_int_rmul_2 _ _) (int___rmul___int_list k t l aK.toArray n)
   ⟨e,rfl,⟨_,e,rfl⟩,abk F.slot_list_mul ⟨_,e,rfl⟩ F.entry_list_mul (F.args_list_mul_2 _ _) (AutoListH.list___mul___list_int_3 l aK.toArray n k t hfit hcap apI) ⟨e,?_⟩⟩)
 rw[hnew]
 exact⟨.ref _,_,I.afF (t':=s.toks) (r.rep k.toNat) (by rw[len_rep,Nat.mul_comm];exact hz),rfl,q _ I.fresh⟩
end
section
set_option maxRecDepth 100000 in
end
section
variable{κ:Type}[DecidableEq κ]
def oW(aA:List (κ×V))(k:κ):Option V:=(aA.find? λkv=>decide (kv.1=k)).map (·.2)
def putK(aA:List (κ×V))(k:κ)(v:V):List (κ×V):=
 if(aA.any λkv=>decide (kv.1=k))=aq then aA.map (λkv=>if kv.1=k then(kv.1,v) else kv) else aA++[(k,v)]
theorem Hu{k:κ}(e:p.1=k):oW (p::r) k=aa p.2:=by simp[oW,rC,e]
theorem Hv{k:κ}(e:¬p.1=k):oW (p::r) k=oW r k:=by simp[oW,rC,e]
theorem acq(k:κ):∀aA:List (κ×V),(aA.any λkv=>decide (kv.1=k))=(oW aA k).isSome
 |[]=>rfl
 |p::r=>by
  rw[KQ];by_cases e:p.1=k
  .simp only[Hu e,gr e,Bool.true_or,ZS]
  .rw[Hv e,iR e,aiz];exact acq k r
theorem K8(aA:List (κ×V))(k:κ)(v:V):(putK aA k v).length<=aA.length+1:=by
 unfold putK;split
 .rw[bJ];lia
 .rw[fO,dW,GX];lia
theorem uU.Hl(r:uU o u):o.isSome=u.isSome:=by
 cases o with
 |none=>cases u with
  |none=>rfl
  |some _=>exact(show False from r).elim
 |some _=>cases u with
  |none=>exact(show False from r).elim
  |some _=>rfl
theorem KV.val(r:KV aA vs)(k:κ):uU (oW aA k) (Eo vs k):=by
 unfold KV at r;induction r with
 |nil=>exact oH
 |@cons p q ps qs h t ih=>
  obtain⟨h1,h2⟩:=h
  by_cases e:p.1=k
  .have e':q.1=k:=h1.symm.trans e;have b:Eo (q::qs) k=aa q.2:=by simp[Eo,rC,e']
   rw[Hu e,b];exact h2
  .have e':¬q.1=k:=λz=>e (h1.trans z)
   have b:Eo (q::qs) k=Eo qs k:=by simp[Eo,rC,e']
   rw[Hv e,b];exact ih
theorem KV.any(r:KV aA vs)(k:κ):(aA.any λkv=>decide (kv.1=k))=vs.any λkv=>decide (kv.1=k):=by
 unfold KV at r;induction r with
 |nil=>rfl
 |cons h t ih=>rw[KQ,KQ,ih,h.1]
theorem KV.repl(r:KV aA vs)(k:κ)(ry:RelV y u):
  KV (aA.map λkv=>if kv.1=k then(kv.1,y) else kv) (vs.map λkv=>if kv.1=k then(kv.1,u) else kv):=by
 unfold KV at r⊢;induction r with
 |nil=>exact .nil
 |@cons p q ps qs h t ih=>
  rw[dN,dN];refine .cons ?_ ih
  obtain⟨h1,h2⟩:=h
  by_cases e:p.1=k
  .rw[bG e,bG (h1.symm.trans e)];exact⟨h1,ry⟩
  .rw[bH e,bH (λz=>e (h1.trans z))];exact⟨h1,h2⟩
theorem KV.put(r:KV aA vs)(k:κ)(ry:RelV y u):KV (putK aA k y) (stored vs k u):=by
 unfold putK stored;rw[r.any k];by_cases e:(vs.any λkv=>decide (kv.1=k))=aq
 .rw[bG e,bG e];exact r.repl k ry
 .rw[bH e,bH e];exact Paired.snoc r ⟨rfl,ry⟩
theorem KV.length{aA:List (κ×V)}(r:KV aA vs):aA.length=vs.length:=Paired.length r
end
theorem Cv(r:RelV (kV k) u):(nu P w).is k u=aq:=by
 cases k with
 |inl i=>obtain⟨t,e⟩:=(show ∃t,u=Bt i t from r);subst e;exact ai2 P w i t
 |inr x=>obtain⟨t,e⟩:=(show ∃t,u=LQ x t from r);subst e;exact ai3 P w x t
theorem abN:∀{ks:List Key}{us:List aN},Vals (ks.map kV) us->ItemsAre (nu P w) ks us
 |[],_,r=>by rw[uv] at r;cases r;exact .nil
 |k::ks,_,r=>by
  rw[dN] at r;cases r with
  |cons h t=>exact .cons (Cv h) (abN t)
abbrev KT(H:Hp):List (List Key×V)->List (List Key×aC×aN)->Prop:=Paired λp q=>p.1=q.1/\H q.2.1=aa (.tup (p.1.map kV))/\RelV p.2 q.2.2
theorem KT.val(r:KT H aA xs)(k:List Key):uU (oW aA k) ((zQ xs k).map (·.2)):=by
 induction r with
 |nil=>exact oH
 |@cons p q ps qs h t ih=>
  obtain⟨h1,_,h2⟩:=h
  by_cases e:p.1=k
  .have e':q.1=k:=h1.symm.trans e;have b:zQ (q::qs) k=aa q.2:=by simp[zQ,rC,e']
   rw[Hu e,b];exact h2
  .have e':¬q.1=k:=λz=>e (h1.trans z)
   have b:zQ (q::qs) k=zQ qs k:=by simp[zQ,rC,e']
   rw[Hv e,b];exact ih
theorem KT.repl(r:KT H aA xs)(k:List Key)(ry:RelV y u):
  KT H (aA.map λkv=>if kv.1=k then(kv.1,y) else kv) (xs.map (putAt k u)):=by
 induction r with
 |nil=>exact .nil
 |@cons p q ps qs h t ih=>
  rw[dN,dN];refine .cons ?_ ih
  obtain⟨h1,h2,h3⟩:=h
  unfold putAt;by_cases e:p.1=k
  .rw[bG e,bG (h1.symm.trans e)];exact⟨h1,h2,ry⟩
  .rw[bH e,bH (λz=>e (h1.trans z))];exact⟨h1,h2,h3⟩
theorem KT.put(r:KT H aA xs)(k:List Key)(hb:H b=aa (.tup (k.map kV)))(ry:RelV y u):
  KT H (putK aA k y) (storedH xs k b u):=by
 have e:(aA.any λkv=>decide (kv.1=k))=(zQ xs k).isSome:=by
  rw[acq,(r.val k).Hl,ZZ]
 unfold putK storedH;rw[e];by_cases q:(zQ xs k).isSome=aq
 .rw[bG q,bG q];exact r.repl k ry
 .rw[bH q,bH q];exact Paired.snoc r ⟨rfl,hb,ry⟩
theorem KT.keeps(r:KT H aA xs)(ht:∀b ys,H b=aa (.tup ys)->H' b=aa (.tup ys)):KT H' aA xs:=
 Paired.XX r λ_ _ z=>⟨z.1,ht _ _ z.2.1,z.2.2⟩
theorem afb(ok:jt P w H h)(e:Rd H a u):f9 P w H h a u:=e.ok ok
def Ai(H:Hp)(a:aC)(aA:List (Key×V)):Prop:=∃ep,Rd H a (.dK aA ep)
def Gm(H:Hp)(a:aC)(aA:List (List Key×V)):Prop:=∃ep,Rd H a (.dT aA ep)
theorem Cw(ok:jt P w H h)(e:Ai H a aA):aA.length<=cJ/\(a==sJ)=aM/\∃vs,KV aA vs/\h.DictOf (nu P w) a vs:=
 let ⟨ep,e⟩:=e;let ⟨z,y,vs,r,p⟩:=(show f9 P w H h a (.dK aA ep) from afb ok e);⟨z,y,vs,r,p.dictOf⟩
theorem Xx(ok:jt P w H h)(e:H a=aa (.dK aA ep)):aA.length<=cJ/\(a==sJ)=aM/\∃vs,KV aA vs/\h.DictOf (nu P w) a vs:=Cw ok ⟨ep,.inl e⟩
theorem Iw(ok:jt P w H h)(e:H a=aa (.tup (ks.map kV))):(LR (nu P w)).is h ks a:=by
 obtain⟨_,aK,r,o,h1,h2,n,h3⟩:=(show f9 P w H h a (.tup (ks.map kV)) from ok a _ e)
 exact⟨o,aK.toArray,n,h1,h2,h3,by simpa using abN r⟩
theorem Fp(ok:jt P w H h)(e:Gm H a aA):aA.length<=cJ/\(a==sJ)=aM/\
  ∃xs,KT H aA xs/\h.DictOfH (LR (nu P w)) a xs:=by
 obtain⟨ep,e⟩:=e
 obtain⟨z,y,xs,r,o,es,h1,h2,h3,h4,h5⟩:=(show f9 P w H h a (.dT aA ep) from afb ok e)
 refine⟨z,y,xs,r,o,es,ep,h1,h2,h3,h4,λx hx=>?_,h5⟩
 have all:∀{l:List (List Key×V)}{m:List (List Key×aC×aN)},KT H l m->∀x∈m,(LR (nu P w)).is h x.1 x.2.1:=by
  intro l m q;induction q with
  |nil=>intro x hx;exact nomatch hx
  |@cons p q ps qs hq t ih=>
   intro x hx;rcases bW.mp hx with e|hx
   .subst e;exact Iw ok (by rw[<-hq.1];exact hq.2.1)
   .exact ih x hx
 exact all r x hx
theorem apJ(ok:jt P w H h)(e:H a=aa (.dT aA ep)):aA.length<=cJ/\(a==sJ)=aM/\
  ∃xs,KT H aA xs/\h.DictOfH (LR (nu P w)) a xs:=Fp ok ⟨ep,.inl e⟩
def n6(H:Hp)(a:aC)(y:V)(r:Option V):Prop:=
 (∃aA k,Ai H a aA/\y=kV k/\r=oW aA k)\/∃aA k b,Gm H a aA/\y=.ref b/\H b=aa (.tup (k.map kV))/\r=oW aA k
def qN(H:Hp)(a:aC)(y v:V)(H':Nat->Hp):Prop:=
 (∃aA k,(∃ep,H a=aa (.dK aA ep))/\y=kV k/\aA.length<cJ/\H'=λe=>upd H a (.dK (putK aA k v) e))\/
 ∃aA k b,(∃ep,H a=aa (.dT aA ep))/\y=.ref b/\H b=aa (.tup (k.map kV))/\aA.length<cJ/\H'=λe=>upd H a (.dT (putK aA k v) e)
theorem n6.k{H:Hp}{k:Key}(e:H a=aa (.dK aA ep)):n6 H a (kV k) (oW aA k):=.inl ⟨aA,k,⟨ep,.inl e⟩,rfl,rfl⟩
theorem n6.t{H:Hp}{k:List Key}{ep:Nat}(e:H a=aa (.dT aA ep))(eb:H b=aa (.tup (k.map kV))):n6 H a (.ref b) (oW aA k):=.inr ⟨aA,k,b,⟨ep,.inl e⟩,rfl,eb,rfl⟩
theorem qN.k{H:Hp}{k:Key}{v:V}(e:H a=aa (.dK aA ep))(hl:aA.length<cJ):qN H a (kV k) v (λe=>upd H a (.dK (putK aA k v) e)):=.inl ⟨aA,k,⟨ep,e⟩,rfl,hl,rfl⟩
theorem qN.t{H:Hp}{k:List Key}{v:V}{ep:Nat}(e:H a=aa (.dT aA ep))(eb:H b=aa (.tup (k.map kV)))(hl:aA.length<cJ):
  qN H a (.ref b) v (λe=>upd H a (.dT (putK aA k v) e)):=.inr ⟨aA,k,b,⟨ep,e⟩,rfl,eb,hl,rfl⟩
section
variable{X:Cx}{σ:St}{H:Hp}{s:bh}{a:aC}{y v:V}{u r:aN}{A:gV}
theorem Inv.big(I:Inv X au σ H s):sJ<s.heap.objs.size:=by
 have h:jz<s.heap.objs.size:=(I.mod.glob.keeps I.bk).lt;exact RK aR h
theorem aj4(hu:A.units+1<iM)(I:Inv X au σ H s)(g:n6 H a y (aa v))(ry:RelV y u)(h:∀w' s',Inv X au σ H s'->RelV v w'->Q w' s'):
  aW (model X.prog X.w) A (zB (.ref a) u) Q E s:=by
 rcases g with⟨aA,k,e,ey,l⟩|⟨aA,k,b,e,ey,eb,l⟩
 .subst ey
  obtain⟨z,hd,vs,rel,dd⟩:=Cw I.hok e
  obtain⟨w',hw,rw'⟩:=uU.some_of (v:=v) (o:=Eo vs k) (by rw[l];exact rel.val k)
  exact wpAny_getItem_of (Cv ry) dd.mapOf hw (h w' _ (I.tok _) rw')
 .subst ey
  cases(show u=dF b from ry)
  obtain⟨z,hd,xs,rel,dd⟩:=Fp I.hok e
  obtain⟨w',hw,rw'⟩:=uU.some_of (v:=v) (o:=(zQ xs k).map (·.2)) (by rw[l];exact rel.val k)
  obtain⟨p,hp,hp2⟩:=xj.mp hw
  refine wpAny_getItem_heap (Rf hu) (Iw I.hok eb) dd hp ?_;rw[hp2];exact h w' _ (I.tok _) rw'
theorem afI(hu:A.units+1<iM)(I:Inv X au σ H s)(g:n6 H a y o)(ry:RelV y u)(h:∀s',Inv X au σ H s'->Q (.bool o.isSome) s'):
  aW (model X.prog X.w) A (iG .In u (.ref a)) Q E s:=by
 rcases g with⟨aA,k,e,ey,l⟩|⟨aA,k,b,e,ey,eb,l⟩
 .subst ey
  obtain⟨z,hd,vs,rel,dd⟩:=Cw I.hok e
  refine wpAny_in_of (Cv ry) hd dd.mapOf ?_;rw[<-(rel.val k).Hl,<-l];exact h _ (I.tok _)
 .subst ey
  cases(show u=dF b from ry)
  obtain⟨z,hd,xs,rel,dd⟩:=Fp I.hok e
  refine wpAny_in_heap (Rf hu) (Iw I.hok eb) hd dd ?_;have q:=(rel.val k).Hl;rw[ZZ] at q;rw[<-q,<-l];exact h _ (I.tok _)
theorem ady(hu:A.units+1<iM)(I:Inv X au σ H s)(g:n6 H a y o)(ry:RelV y u)(h:∀s',Inv X au σ H s'->Q (.bool (!o.isSome)) s'):
  aW (model X.prog X.w) A (iG .NotIn u (.ref a)) Q E s:=by
 rcases g with⟨aA,k,e,ey,l⟩|⟨aA,k,b,e,ey,eb,l⟩
 .subst ey
  obtain⟨z,hd,vs,rel,dd⟩:=Cw I.hok e
  refine wpAny_notIn_of (Cv ry) hd dd.mapOf ?_;rw[<-(rel.val k).Hl,<-l];exact h _ (I.tok _)
 .subst ey
  cases(show u=dF b from ry)
  obtain⟨z,hd,xs,rel,dd⟩:=Fp I.hok e
  refine wpAny_notIn_heap (Rf hu) (Iw I.hok eb) hd dd ?_;have q:=(rel.val k).Hl;rw[ZZ] at q;rw[<-q,<-l];exact h _ (I.tok _)
theorem BP(I:Inv X au σ H s)(mu:JK (H a))(hs:zb a s.heap h')(he:∃q,h'.get? a=aa q)(new:f9 X.prog X.w (upd H a ob) h' a ob):
  Inv X au σ (upd H a ob) {s with heap:=h',toks:=t'}:=
 I.write (x:=a) (e:=a) mu (.inl rfl) (λb q hb z=>(hs.2 b hb).trans z) he new
theorem Oo(z:aA.length<=cJ)(hd:(a==sJ)=aM)(rel:KV aA vs)(dd:h'.DictAt (nu P w) a vs ep):
  f9 P w H' h' a (.dK aA ep):=⟨z,hd,vs,rel,dd⟩
theorem abO(hu:A.units+1<iM)(I:Inv X au σ H s)(g:qN H a y v H')(ry:RelV y u)(rv:RelV v r)(h:∀e s',Inv X au σ (H' e) s'->Q () s'):
  aW (model X.prog X.w) A (Ie (.ref a) u r) Q E s:=by
 rcases g with⟨aA,k,⟨ep,e⟩,ey,l,eH⟩|⟨aA,k,b,⟨ep,e⟩,ey,eb,l,eH⟩
 .subst ey eH
  obtain⟨z,hd,vs,rel,dd⟩:=Xx I.hok e
  have hz:vs.length<=cJ:=by rw[<-rel.length];exact z
  have hl:(putK aA k v).length<=cJ:=by have:=K8 aA k v;lia
  refine wpAny_setItem_pairs (hsz:=hz) (Cv ry) dd λh' wW hs=>?_
  obtain⟨ep',dd2⟩:=wW.dictAt
  refine h ep' _ ?_;have he:∃q,h'.get? a=aa q:=let ⟨q,_,_,hq,_⟩:=wW;⟨q,hq⟩
  exact BP I (by rw[e];exact oH) hs he (Oo hl hd (rel.put k rv) dd2)
 .subst ey eH
  cases(show u=dF b from ry)
  obtain⟨z,hd,xs,rel,dd⟩:=apJ I.hok e
  have hz:xs.length<=cJ:=by rw[<-Paired.length rel];exact z
  have hl:(putK aA k v).length<=cJ:=by have:=K8 aA k v;lia
  refine wpAny_setItem_heap (hsz:=hz) (Rf hu) (Iw I.hok eb) dd λh' wW hs=>?_
  obtain⟨q,es,ep2,hq,h2,h3,h4,_,h5⟩:=wW
  refine h ep2 _ ?_;refine BP I (by rw[e];exact oH) hs ⟨q,hq⟩ ⟨hl,hd,_,(rel.put k eb rv).keeps λc ys ec=>?_,q,es,hq,h2,h3,h4,h5⟩;rw[cP (Xp ec e (λz=>nomatch z))];exact ec
end
section
variable{X:Cx}{au:List (aC×Obj)}{σ:St}{H:Hp}{s:bh}{a:aC}{aA:List (Key×V)}{k:Key}{u:aN}{A:gV}{E:aN->bh->Prop}
theorem apK(I:Inv X au σ H s)(e:Ai H a aA)(h:∀t s',Inv X au σ H s'->Q (.int aA.length t) s'):aW (model X.prog X.w) A (call (.builtin "len") [.ref a]) Q E s:=by
 obtain⟨z,hd,vs,rel,dd⟩:=Cw I.hok e
 refine call_len_dict hd dd (by rw[<-rel.length];rw[jQ] at z;lia) ?_;rw[<-rel.length];exact h _ _ (I.tok _)
end
theorem ai4{X:Cx}{σ:St}{H:Hp}{a:aC}{y:V}(I:Inv X au σ H s)(g:n6 H a y o):s.TypeIs (.ref a) "dict":=by
 rcases g with⟨aA,k,e,_,_⟩|⟨aA,k,b,e,_,_,_⟩
 .obtain⟨_,_,vs,_,dd⟩:=Cw I.hok e
  exact dd.typeIs
 .obtain⟨_,_,xs,_,dd⟩:=Fp I.hok e
  exact dd.typeIs
theorem Uk(h:cg)(hb:sJ<h.objs.size):f9 P w H (h.push {cls:=.type "dict",data:=.dict #[]}) h.objs.size (.dK [] 0):=
 ⟨lC _,beq_eq_false_iff_ne.mpr (j5 (fQ hb)),[],.nil,_,#[],gj _ rfl,⟨rfl,rfl,rfl⟩,rfl,λi hi=>absurd hi bI,.nil,lO⟩
def aoz:TE:=λ_ H Q=>∀p,H p=aj->Q (.ref p) (upd H p (.dK [] 0))
theorem ak3:PE X (.Dict [] [] pos) aoz:=λau s σ H Q I h=>
 wpAny_Dict_empty ⟨.ref s.heap.objs.size,_,I.laid (a:=s.heap.objs.size) (o:=.dK [] 0) (t':=s.toks) (λ_ _ q=>cD _ q) (cz _) (Uk s.heap I.big),rfl,h _ (I.hok.fresh (cz _))⟩
def Oq:List (TE×TE)->St->Hp->(List (V×V)->Hp->Prop)->Prop
 |[],_,H,Q=>Q [] H
 |(tk,tv)::r,σ,H,Q=>tk σ H λx H1=>tv σ H1 λy H2=>Oq r σ H2 λps H3=>Q ((x,y)::ps) H3
abbrev VV:List (V×V)->List (aN×aN)->Prop:=Paired λp q=>RelV p.1 q.1/\RelV p.2 q.2
def JT(X:Cx)(pos:Pos)(keys:List (Option Expr))(values:List Expr)(oE:List (TE×TE)):Prop:=
 ∀(au:List (aC×Obj))(s:bh)(σ:St)(H:Hp)(Q:List (V×V)->Hp->Prop),Inv X au σ H s->Oq oE σ H Q->
  aW (model X.prog X.w) X.A (evalPairs (pairTrees keys values X.env pos)) (λvs s'=>∃ps H',Inv X au σ H' s'/\VV ps vs/\Q ps H') X.xe s
theorem adz:JT X pos [] [] []:=λau s σ H Q I h=>pairTrees_nil_walk ⟨[],H,I,.nil,h⟩
theorem acr(hk:PE X k tk)(hv:PE X v tv)(hr:JT X pos ks vs oE):
  JT X pos (aa k::ks) (v::vs) ((tk,tv)::oE):=λau s σ H Q I h=>
 pairTrees_cons_walk (bY (hk au s σ H _ I h) λu s1 ⟨x,H1,I1,rx,q1⟩=>bY (hv au s1 σ H1 _ I1 q1) λw2 s2 ⟨y,H2,I2,ry,q2⟩=>
  bY (hr au s2 σ H2 _ I2 q2) λws s3 ⟨ps,H3,I3,rel,q3⟩=>⟨(x,y)::ps,H3,I3,.cons ⟨rx,ry⟩ rel,q3⟩)
def zM(aA more:List (Key×V)):List (Key×V):=more.foldl (λbu kv=>putK bu kv.1 kv.2) aA
theorem KV.merge:∀{more:List (Key×V)}{rs:List (Key×aN)}{aA:List (Key×V)}{vs:List (Key×aN)},KV more rs->KV aA vs->KV (zM aA more) (merged vs rs):=by
 intro more rs aA vs r;unfold KV at r;induction r generalizing aA vs with
 |nil=>intro q;exact q
 |@cons p q ps qs h t ih=>
  intro r0;have e:KV (putK aA p.1 p.2) (stored vs q.1 q.2):=by
   have:=r0.put p.1 h.2;rw[<-h.1];exact this
  exact ih e
theorem aaD:∀(more aA:List (Key×V)),(zM aA more).length<=aA.length+more.length
 |[],aA=>by show aA.length<=aA.length+0;lia
 |p::r,aA=>by
  have h1:=aaD r (putK aA p.1 p.2);have h2:=K8 aA p.1 p.2
  show(zM (putK aA p.1 p.2) r).length<=_
  rw[dW];lia
theorem abl:∀{aA:List (Key×V)}{ws:List (aN×aN)},VV (aA.map λkv=>(kV kv.1,kv.2)) ws->∃rs,Carries (nu P w) ws rs/\KV aA rs
 |[],_,r=>by rw[uv] at r;cases r;exact⟨[],oH,.nil⟩
 |p::aA,_,r=>by
  rw[dN] at r;cases r with
  |@cons a b as bs h t=>
   obtain⟨rs,c,q⟩:=abl (P:=P) (w:=w) t
   obtain⟨b1,b2⟩:=b
   exact⟨(p.1,b2)::rs,⟨Cv h.1,rfl,c⟩,.cons ⟨rfl,h.2⟩ q⟩
def apL(oE:List (TE×TE)):TE:=λσ H Q=>∀p,H p=aj->Oq oE σ (upd H p (.dK [] 0)) λps H2=>H2 p=aa (.dK [] 0)/\∃aA:List (Key×V),ps=aA.map (λkv=>(kV kv.1,kv.2))/\aA.length<=15/\∀e,Q (.ref p) (upd H2 p (.dK (zM [] aA) e))
theorem adA(h:JT X pos keys values oE)(hall:keys.all (·.isSome)=aq)(hl:keys.length=values.length)(h0:keys≠[])
  (h15:keys.length<=15):PE X (.Dict keys values pos) (apL oE):=by
 intro au s σ H Q I q;have hn:=I.hok.fresh (cz s.heap.objs.size);have I1:=I.laid (a:=s.heap.objs.size) (o:=.dK [] 0) (h':=s.heap.push {cls:=.type "dict",data:=.dict #[]}) (t':=s.toks) (λ_ _ q=>cD _ q) (cz _) (Uk s.heap I.big);refine wpAny_Dict_walk (knd:=nu X.prog X.w) hall hl h0 h15 (bY (h au _ σ _ _ I1 (q _ hn)) λws s2 aY=>?_)
 obtain⟨ps,H2,I2,rel,e,aA,ep,lk,q2⟩:=aY
 subst ep
 obtain⟨rs,c,rk⟩:=abl (P:=X.prog) (w:=X.w) rel
 obtain⟨z,hd,vs0,r0,dd⟩:=Xx I2.hok e
 cases r0
 refine⟨rs,c,dd,λh' wW hs=>?_⟩
 obtain⟨ep',dd2⟩:=wW.dictAt
 refine⟨.ref s.heap.objs.size,_,?_,rfl,q2 ep'⟩
 have hz:(zM [] aA).length<=cJ:=by
  have h1:=aaD aA [];rw[GX] at h1;rw[jQ];lia
 have he:∃q,h'.get? s.heap.objs.size=aa q:=let ⟨q,_,_,hq,_⟩:=wW;⟨q,hq⟩
 exact BP I2 (by rw[e];exact oH) hs he (Oo hz hd (rk.merge .nil) dd2)
end L2
namespace Att
open PySem PySem.W PySem.Calls PyProof.Rows
theorem aie:∀(ns:List Int)(vs:List aN),WellAll P h vs (ns.map WData.int)->IntsAre vs ns:=by
 intro ns;induction ns with
 |nil=>
  intro vs w;rw[uv] at w;cases w;exact .nil
 |cons n ns ih=>
  intro vs w;rw[dN] at w;cases w with
  |cons a b=>
   cases a;exact .cons _ _ (ih _ b)
theorem aj5{l:OpenLaw}{n:Nat}(hn:l.most=aa n){P:Params}{h:cg}
  (hpre:l.row.toRowW.claim.pre args=aq)(hwl:WellAll P h vals args):
  ∃a vs ns,vals=[dF a]/\args=[WData.list (ns.map WData.int)]/\h.get? a=aa {cls:=.type "list",data:=.seq vs.toArray}/\IntsAre vs ns/\ns.length<=n:=by
 have hsh:WShape.hasAll [] args [.list .int]=aq:=(pre_splitW hpre).1;have hc:l.pre.holds [] {args:=args}=aq:=(pre_splitW hpre).2
 obtain⟨d,r,rfl,h1,h2⟩:=hasAllW_cons hsh
 obtain rfl:=hasAllW_nil h2
 obtain⟨xs,rfl,h3⟩:=hasW_list h1
 obtain⟨ns,rfl⟩:=items_int h3
 have hlen:ns.length<=n:=by
  unfold OpenLaw.pre at hc;have h4:(WTm.not (.lt (.lit (.int (n:Int))) (.len (.arg 0)))).holds [] {args:=[.list (ns.map .int)]}=aq:=by
   have h4:=(holds_andW hc).1;rw[hn] at h4;exact h4
  have h5:=condW_of h4 (w_not (w_lt w_lit (w_len_list (w_arg rfl))));rw[bJ] at h5;refine Nat.le_of_not_lt λq=>?_
  have q':(n:Int)<((ns.length:Nat):Int):=az
  first
   |(rw[gr q'] at h5;exact absurd h5 aR)
   |(simp at h5;lia)
 cases hwl with
 |cons w1 w2=>
  cases w2;cases w1 with
  |list ho hall=>exact⟨_,_,ns,rfl,rfl,ho,aie ns _ hall,hlen⟩
theorem aj6(l:OpenLaw)(args:List WData):l.row.toRowW.claim.post args (.bool aq) args=aq:=
 postW_of (r:=l.row.toRowW) (X:=(aq==aq))
  (show WShape.has [] (.bool aq) .bool=aq by first|rfl|decide|simp[WShape.has,WShape.arms,WShape.armsAll])
  (show(WTm.eq .res (.lit (.bool aq))).value [] {args:=args,res:=aa (.bool aq),after:=args}=aa (.bool (aq==aq)) from w_eq_bool (w_res rfl) w_lit) rfl
theorem ai5{l:OpenLaw}{n:Nat}{q:fj}{d:DefRec}
  (hn:l.most=aa n)(hdf:d.params.defaults=[])
  (call:∀(w:c7)(s₀ s₁:bh)(mg mb:Str->Option aN)(fa:aC)(o:Obj)(pm cd doc:aN)(a:aC)(vs:List aN)(ns:List Int),
   Ground q loose [] XP w s₀ mg mb s₁.heap->YP w s₁.heap->
   s₁.heap.get? fa=aa o->o.data=.func (docDef d.name d.params d.body d.scope pm cd doc)->s₁.heap.CodeRec cd d.name->mg d.name=aa (.ref fa)->
   s₁.heap.get? a=aa {cls:=.type "list",data:=.seq vs.toArray}->IntsAre vs ns->ns.length<=n->s₁.gens=#[]->
   lQ (model l.prog w) Ep (.call (.ref fa) ⟨[.ref a],[]⟩) (λr s'=>r=.ok (.ret (.bool aq))/\OldK s₁.heap s'.heap/\s'.os=s₁.os/\AllBare s'.gens) s₁):
  WalkO q loose XP YP l.row.toRowW d [] (λf vs=>abm f vs):=by
 intro w s₀ s₁ mg mb G Y fa o pm cd doc dV kV ho hd hcd hD hmg hg args vals as hpre hlay hrd hwl hlo;obtain rfl:dV=.none:=Dflts.none hD hdf;obtain rfl:kV=.none:=Dflts.noKw hD
 obtain⟨a,vs,ns,rfl,rfl,hobj,hints,hlen⟩:=aj5 hn hpre hwl
 refine enter_call (KZ (call w s₀ s₁ mg mb fa o pm cd doc a vs ns G Y ho (fd_plain hd) hcd hmg hobj hints hlen hg) λr s' hq=>?_)
 obtain⟨rfl,h2,h3,h4⟩:=hq
 exact⟨.inl ⟨.bool aq,.bool aq,[],rfl,λ_=>rfl,.bool aq,aj6 l _,λ_=>⟨Ku,λ_ hm=>(nomatch hm)⟩⟩,h2,h3,h4⟩
section
variable{prog:fj}{w:c7}{A:gV}{E:aN->bh->Prop}{s:bh}{K:Frag}
def ledger(h:cg)(L d:aC):List (aC×Obj):=(gG h.objs.size).filterMap λa=>if a=L\/a=d then aj else(h.get? a).map λo=>(a,o)
end
end Att
namespace L2
open PySem PySem.Spec PyProof.Rows
theorem Tr:∀{vs:List aN}{ns:List Int},IntsAre vs ns->Vals (ns.map V.int) vs
 |_,_,.nil=>.nil
 |_,_,.cons n t h=>.cons ⟨t,rfl⟩ (Tr h)
def Only(H:Hp):Prop:=∀b,H b=aj\/∃o xs,H b=aa (.pM o (.lst xs))
theorem ak4{P:fj}{w:c7}{K:aZ}{CX:wV}{k:Nat}{fa a:aC}{fd:vR}{x:Str}{sp:Sp}{s₁:bh}{ns:List Int}
  (KX:K.In s₁.heap)(hns:s₁.heap.Ns jz mg)(hb:s₁.heap.Ns builtinsNs mb)(hbb:∀x:Str,x≠"__name__"->mb x=ur x)(hlim:s₁.heap.NoLimit)(hg:s₁.gens=#[])
  (ha:s₁.heap.get? a=aa {cls:=.type "list",data:=.seq vs.toArray})(hi:IntsAre vs ns)(hl:ns.length<=cJ)(hr:jZ k Ep)
  (F:∀base:cg,K.In base->base.Ns jz mg->fK P w K mg base CX k fa fd [x] sp)(hbind:∀(s:bh)(u:aN),Em s fd ⟨[u],[]⟩ [(x,u)])
  (hsp:∀H:Hp,Only H->cj K H a (ns.map V.int)->sp [.ref a] H (λv _=>v=.bl aq) λ_ _ _=>False)
  (YF:∀H e s',CX [] H s₁ (λ_ _ _=>False) e s'->False):
  lQ (model P w) Ep (.call (.ref fa) ⟨[.ref a],[]⟩) (λr s'=>r=.ok (.ret (.bool aq))/\OldK s₁.heap s'.heap/\s'.os=s₁.os/\AllBare s'.gens) s₁:=by
 have rv:=Tr hi;have lenV:=hi.length;have core:∀H:Hp,Only H->cj K H a (ns.map V.int)->jt P w H s₁.heap->(∀b,H b≠aj->b=a)->(H a≠aj->K.lookup a=aj)->
   lQ (model P w) Ep (.call (.ref fa) ⟨[.ref a],[]⟩) (λr s'=>r=.ok (.ret (.bool aq))/\OldK s₁.heap s'.heap/\s'.os=s₁.os/\AllBare s'.gens) s₁:=by
  intro H hO hS hok hA hK;have adB:∀{b:aC}{o:Obj},s₁.heap.get? b=aa o->H b=aj->(yx s₁.heap H).get? b=aa o:=λe n=>akU e n
  have JS:∀{b:aC}{o:Obj}{es:Array Tt}{ep:Nat},s₁.heap.get? b=aa o->o.data=.dict es ep->H b=aj:=λ{b o es ep} e d=>by
   cases q:H b with
   |none=>rfl
   |some u=>
    have e':b=a:=hA b (by rw[q];simp);subst e';rw[ha] at e;cases e;have d':Data.seq vs.toArray _=Data.dict es ep:=d;cases d'
  have Qv:∀{b:aC}{m:Str->Option aN},s₁.heap.Ns b m->(yx s₁.heap H).Ns b m:=λ{b m} ⟨o,es,ep,e,d,r⟩=>⟨o,es,ep,adB e (JS e d),d,r⟩
  have hKb:K.In (yx s₁.heap H):=λb o e=>adB (KX b o e) (by
   cases q:H b with
   |none=>rfl
   |some u=>
    have e':b=a:=hA b (by rw[q];simp);subst e';rw[hK (by rw[q];simp)] at e;cases e)
  have hM:Mod K mg (yx s₁.heap H):=⟨hKb,Qv hns,⟨mb,Qv hb,hbb⟩,let ⟨mc,h1,h2⟩:=hlim;⟨mc,Qv h1,h2⟩⟩
  have e0:Qc P w K mg (yx s₁.heap H) Ep [] s₁ H:=⟨rfl,hM,λb o e=>amr e,aiQ (ajW _ _),trivial,λb hb=>absurd (show b∈([]:List aC) from hb) bI,hok,.of_eq hg⟩
  refine KZ ((F _ hKb (Qv hns)).run Ep [] s₁ H ⟨[.ref a],[]⟩ [.ref a] [.ref a] _ _ hr e0 (hbind s₁ (.ref a)) (.cons rfl .nil) (hsp H hO hS)) λr s' h=>?_
  cases r with
  |error e=>exact(YF H e s' h).elim
  |ok fl=>
   cases fl with
   |next=>exact xR h
   |brk=>exact xR h
   |cont=>exact xR h
   |ret u=>
    obtain⟨v,H',os,bare,un,hok',r',q⟩:=h
    have q':v=.bl aq:=q;subst q';obtain rfl:u=vM aq:=r'
    refine⟨rfl,OldK.of_keep λb o e=>?_,os,bare⟩
    cases q:H b with
    |none=>exact un.keep b o e q (by intro z;exact absurd (show b∈([]:List aC) from z) bI) bI
    |some u=>
     rcases hO b with z|⟨ob,xs,z⟩
     .rw[q] at z;cases z
     .have z2:=un.yw b ob _ z
      obtain⟨e1,_⟩:=hok b _ z
      obtain⟨e2,_⟩:=hok' b _ z2
      rw[e] at e1;cases e1;exact e2
 cases hk:K.lookup a with
 |some o=>
  have e:=KX a o hk;rw[ha] at e;cases e;refine core (λ_=>aj) (λ_=>.inl rfl) (.inr ⟨_,vs.toArray,_,hk,rfl,rfl,rfl,by rw[gZ,lenV];exact hl,by simpa using rv⟩) (λb u z=>by have z':(aj:Option HO)=aa u:=z;cases z') (λb z=>absurd rfl z) λz=>absurd rfl z
 |none=>
  refine core (λb=>if b=a then aa (.pM {cls:=.type "list",data:=.seq vs.toArray} (.lst (ns.map V.int))) else aj) (λb=>?_) (.inl (.inr ⟨{cls:=.type "list",data:=.seq vs.toArray},bG rfl⟩)) (λb u z=>?_) (λb z=>?_) λ_=>hk
  .by_cases hb:b=a
   .exact .inr ⟨_,_,bG hb⟩
   .exact .inl (bH hb)
  .by_cases hb:b=a
   .have z':=(bG hb).symm.trans z;cases z';subst hb
    exact⟨ha,by rw[bJ];exact hl,vs,_,rv,ha⟩
   .have z':=(bH hb).symm.trans z;cases z'
  .by_cases hb:b=a
   .exact hb
   .exact absurd (bH hb) z
theorem amG{l:aaf}{n k:Nat}{q:fj}{loose:List Str}{d:DefRec}{K:Params->aZ}{CX:c7->wV}{sp:c7->Sp}{x:Str}
  (hn:l.most=aa n)(hn2:n<=cJ)(hdf:d.params.defaults=[])(hr:jZ k Ep)
  (hY:∀(w:c7)(h:cg),YP w h->(K w.params).In h)
  (F:∀(w:c7)(mg:Str->Option aN)(fa:aC)(h:cg),(K w.params).In h->h.Ns jz mg->mg d.name=aa (.ref fa)->
   ∃fd:vR,(∀(s:bh)(u:aN),Em s fd ⟨[u],[]⟩ [(x,u)])/\
    ∀base:cg,(K w.params).In base->base.Ns jz mg->fK l.prog w (K w.params) mg base (CX w) k fa fd [x] (sp w))
  (hsp:∀(w:c7)(H:Hp)(a:aC)(ns:List Int),ns.length<=n->Only H->cj (K w.params) H a (ns.map V.int)->sp w [.ref a] H (λv _=>v=.bl aq) λ_ _ _=>False)
  (YF:∀(w:c7)(H:Hp)(s:bh)(e:aN)(s':bh),CX w [] H s (λ_ _ _=>False) e s'->False):
  aiA q loose XP YP l.row.toRowW d [] (λf vs=>abm f vs):=by
 refine Att.ai5 hn hdf λw s₀ s₁ mg mb fa o pm cd doc a vs ns G Y ho hd hcd hmg hobj hints hlen hg=>?_
 have KX:=hY w _ Y
 obtain⟨fd,hb,hF⟩:=F w mg fa _ KX G.T.g hmg
 exact ak4 KX G.T.g G.T.b G.T.builtins G.T.nolimit hg hobj hints (mq hlen hn2) hr hF hb (λH hO hS=>hsp w H a ns hlen hO hS) λH e s'=>YF w H s₁ e s'
def Er(s:dI):Arguments:=match s with
 |.FunctionDef _ a _ _ _ _ _ _ _ _=>a
 |_=>{posonlyargs:=[],args:=[],vararg:=aj,kwonlyargs:=[],kw_defaults:=[],kwarg:=aj,defaults:=[]}
def zE(s:dI):List dI:=match s with
 |.FunctionDef _ _ b _ _ _ _ _ _ _=>b
 |_=>[]
def cZ(s:dI):kJ:=match s with
 |.FunctionDef _ _ _ _ _ _ sc _ _ _=>sc
 |_=>{kind:=.function,names:=[],isGenerator:=aM,isCoroutine:=aM}
abbrev fU:wV:=λ_ _ _ _ _ _=>False
abbrev E0:XK:=λ_ _ _=>False
theorem apM:Passes fU X E0:=λ_ _ _ _ _ _ _ h=>h.elim
structure gw(K:aZ)(x qual:Str)(st:dI)(f:aC)(fd:vR):Prop where
 ex:∃(oc:aN)(od:Option aC)(kV doc pm:aN)(an:Option aC)(cdv ct:aN)(osl:Array (Option aN)),
  fd=Bj x qual (Er st) (zE st) (cZ st) .none kV doc pm an cdv ct/\K.lookup f=aa ⟨oc,od,.func fd,osl⟩/\Rx K cdv qual=aq
 kp:DG K (.ref f)=aq
section
variable{P:fj}{w:c7}{K:aZ}{mg:Str->Option aN}{base:cg}
theorem gw.ok{st:dI}{f:aC}{k:Nat}{sp:Sp}(F:gw K x qual st f fd)(S:iK N ps (cZ st))(len:∀vs H Q E,sp vs H Q E->vs.length=ps.length)
  (hbody:∀(cdv:aN)(A:gV)(outer:List Env)(s:bh)(H:Hp)(vs:List V)(Q:VK)(E:XK),jZ k (A.deeper (envOfC qual (cZ st) s.heap.objs.size f cdv))->sp vs H Q E->
   ∃t,je (CQ fU P w K mg base N qual (cZ st) f cdv A outer s H E).JN (zE st) t/\t {nx:=λ_ H'=>Q .non H',rt:=Q} (start N vs) H):fK P w K mg base fU (k+1) f fd ps sp:=by
 obtain⟨oc,od,kV,doc,pm,an,cdv,ct,osl,rfl,lk,hcd⟩:=F.ex
 refine apG lk hcd S len λA outer s H vs Q E hr hsp=>?_
 obtain⟨t,h,q⟩:=hbody cdv A outer s H vs Q E hr hsp
 exact⟨t,h.JN,q⟩
theorem gw.binds{st:dI}{f:aC}(F:gw K x qual st f fd)
  (h:∀(kV doc pm:aN)(an:Option aC)(cdv ct:aN)(us:List aN),us.length=ps.length->bindArgs (Bj x qual (Er st) (zE st) (cZ st) .none kV doc pm an cdv ct) ⟨us,[]⟩=pure (ps.zip us)):Binds K fd ps []:=by
 obtain⟨oc,od,kV,doc,pm,an,cdv,ct,osl,rfl,lk,hcd⟩:=F.ex
 exact .all (h kV doc pm an cdv ct)
theorem WX{x qual:Str}{st:dI}{f:aC}{oc:aN}{kV doc pm cdv ct:aN}(l:K.lookup f=aa ⟨oc,od,.func (Bj x qual (Er st) (zE st) (cZ st) .none kV doc pm an cdv ct),osl⟩)
  (c:Rx K cdv qual=aq)(k:DG K (.ref f)=aq):gw K x qual st f (Bj x qual (Er st) (zE st) (cZ st) .none kV doc pm an cdv ct):=⟨⟨oc,od,kV,doc,pm,an,cdv,ct,osl,rfl,l,c⟩,k⟩
end
section
variable{X:Cx}
theorem pv(i:Nat){pos:Pos}(hN:X.N[i]?=aa x:=by rfl)(hv:Gj X.env.scope x:=by first|exact qb rfl|exact xZ (qb rfl)|exact xZ (xZ rfl))(hd:(x==("__debug__":Str))=aM:=by decide)
  (hcd:(x==("__classdict__":Str))=aM:=by decide):PE X (.Name x pos) (qj i):=WM hN hv hd hcd
end
theorem z9{A B:Prop}(h:B):if aM=aq then A else B:=by
 rw[bH jm];exact h
theorem Aa{A B:Prop}(h:A):if aq=aq then A else B:=by
 rw[bG rfl];exact h
def cH(H H':Hp):Prop:=∀b o,H b=aa o->H' b=aa o
theorem cH.refl(H:Hp):cH H H:=λ_ _ h=>h
theorem cH.trans(a:cH H H1)(b:cH H1 H2):cH H H2:=λc o h=>b c o (a c o h)
theorem cH.seq{K:aZ}{a:aC}(e:cH H H')(h:cj K H a xs):cj K H' a xs:=by
 rcases h with(h|⟨o,h⟩)|h
 .exact .inl (.inl (e _ _ h))
 .exact .inl (.inr ⟨o,e _ _ h⟩)
 .exact .inr h
section
variable{X:Cx}
theorem aj7:iY X (.builtin "len") (λxs H Q=>∃a aA,xs=[V.ref a]/\Ai H a aA/\Q (.int aA.length) H):=by
 intro au s σ H xs us Q I r h
 obtain⟨a,aA,rfl,ha,q⟩:=h
 obtain⟨u,rfl,ru⟩:=vals1 r
 cases ru;exact apK I ha λt s' I'=>⟨.int aA.length,H,I',⟨t,rfl⟩,q⟩
end
section
variable{κ:Type}[DecidableEq κ]
end
def Cx.blk(X:Cx)(N:List Str)(scope:kJ)(cl:List (Str×aC))(C:aC)(s:bh)(H:Hp)(fp:List aC):Cx:=
 {X with N:=N,s₀:=s,H₀:=H,env:=Ul scope cl C X.env,outer:=X.stack,ex:=fp,fn:=λ_=>aM,pn:=[],xe:=λ_ _=>False}
theorem R3(f:Str×Ei->List (Str×aC)->Sem (ForInStep (List (Str×aC))))
  (hf:∀n k r,f (n,k) r=if k==rD then(do let c <-cellOf ao n;pure (.yield ((n,c)::r))) else pure (.yield r)):
  ∀(names:List (Str×Ei))(cs:List (Str×aC)),(∀y∈names,y.2=.free->∃c,ao.cells.lookup y.1=aa c)->(∀n c,cs.lookup n=aa c->ao.cells.lookup n=aa c)->
   ∃cl,(forIn names cs f:Sem (List (Str×aC)))=pure cl/\(∀n c,cl.lookup n=aa c->ao.cells.lookup n=aa c)/\
    ∀n,((∃c,cs.lookup n=aa c)\/∃y∈names,y.1=n/\y.2=.free)->∃c,cl.lookup n=aa c
 |[],cs,_,h2=>⟨cs,rfl,h2,λn h=>h.elim id λ⟨_,hy,_⟩=>nomatch hy⟩
 |(n,k)::r,cs,h1,h2=>by
  rw[aag,hf];by_cases hk:k=.free
  .subst hk
   obtain⟨c,hc⟩:=h1 (n,.free) cX rfl
   have hc':ao.cells.lookup n=aa c:=hc;have e:cellOf ao n=pure c:=by unfold cellOf;rw[hc']
   obtain⟨cl,q1,q2,q3⟩:=R3 f hf r ((n,c)::cs) (λy hy=>h1 y (dM _ hy)) (λm d hm=>by
    rw[Dv] at hm;by_cases hb:(m==n)=aq
    .rw[hb] at hm;have:=eq_of_beq hb;subst this;cases hm;exact hc'
    .rw[ah2] at hb;rw[hb] at hm;exact h2 m d hm)
   refine⟨cl,?_,q2,λm hm=>q3 m ?_⟩
   .rw[bG (show(rD==rD)=aq from rfl),e];simp only[pure_bind];exact q1
   .by_cases hb:m=n
    .subst hb;exact .inl ⟨c,by simp[Dv]⟩
    .rcases hm with⟨d,hm⟩|⟨y,hy,e1,e2⟩
     .refine .inl ⟨d,?_⟩;rw[Dv,beq_eq_false_iff_ne.mpr hb];exact hm
     .rcases bW.mp hy with rfl|hy
      .exact absurd e1.symm hb
      .exact .inr ⟨y,hy,e1,e2⟩
  .have hb:(k==rD)=aM:=beq_eq_false_iff_ne.mpr hk
   obtain⟨cl,q1,q2,q3⟩:=R3 f hf r cs (λy hy=>h1 y (dM _ hy)) h2
   refine⟨cl,?_,q2,λm hm=>q3 m ?_⟩
   .rw[hb];simp only[pW,if_false,pure_bind];exact q1
   .rcases hm with hm|⟨y,hy,e1,e2⟩
    .exact .inl hm
    .rcases bW.mp hy with rfl|hy
     .exact absurd e2 hk
     .exact .inr ⟨y,hy,e1,e2⟩
theorem Lq(h1:∀y∈scope.names,y.2=.free->∃c,ao.cells.lookup y.1=aa c):
  ∃cl,closureFor scope ao=pure cl/\(∀n c,cl.lookup n=aa c->ao.cells.lookup n=aa c)/\∀y∈scope.names,y.2=.free->∃c,cl.lookup y.1=aa c:=by
 unfold closureFor
 obtain⟨cl,q1,q2,q3⟩:=R3 (ao:=ao) (λx r=>if(x.2==rD)=aq then(do let c <-cellOf ao x.1;pure (.yield ((x.1,c)::r))) else pure (.yield r)) (λn k r=>rfl) scope.names [] h1 (λn c h=>by simp at h)
 have q:=congrArg (λt:Sem (List (Str×aC))=>t >>= λcs=>pure cs) q1;simp only[pure_bind] at q
 exact⟨cl,q,q2,λy hy e=>q3 y.1 (.inr ⟨y,hy,rfl,e⟩)⟩
theorem aaS{scope:kJ}{ao:Env}{x:Str}:∀{names:List (Str×Ei)},
  (names.map λ(n,k)=>if(k==rD&&ao.scope.kind==.function&&ao.kindOf n==aa .cell) then(n,RG) else(n,k)).lookup x=
   (names.lookup x).map λk=>if(k==rD&&ao.scope.kind==.function&&ao.kindOf x==aa .cell) then RG else k
 |[]=>rfl
 |(n,k)::r=>by
  have ih:=@aaS scope ao x r;show List.lookup x ((if(k==rD&&ao.scope.kind==.function&&ao.kindOf n==aa .cell)=aq then(n,RG) else(n,k))::_)=_;cases hx:x==n with
  |true=>
   have e:=eq_of_beq hx;subst e;by_cases hc:(k==rD&&ao.scope.kind==.function&&ao.kindOf x==aa .cell)=aq
   .rw[bG hc];simp only[Dv,beq_self_eq_true,oF,hc,if_true]
   .rw[bH hc];simp only[Dv,beq_self_eq_true,oF,hc,if_false];rfl
  |false=>
   by_cases hc:(k==rD&&ao.scope.kind==.function&&ao.kindOf n==aa .cell)=aq
   .rw[bG hc];simp only[Dv,hx];exact ih
   .rw[bH hc];simp only[Dv,hx];exact ih
def frees(js:List Nat)(σ:St):St:=js.map λj=>(σ[j]?).join
section
variable{X:Cx}{σ:St}{H:Hp}{s s1:bh}{js:List Nat}{scope:kJ}{fp:List aC}
structure rP(X:Cx)(NT NF:List Str)(js:List Nat)(scope:kJ):Prop where
 kind:scope.kind=.function
 names:∀y∈scope.names,y.2=.local->scope.names.lookup y.1=aa .local
 cell:∀y∈scope.names,y.2≠.cell
 free:∀y∈scope.names,y.2=.free->X.env.scope.names.lookup y.1=aa .cell\/X.env.scope.names.lookup y.1=aa .free
 len:js.length=NF.length
 fr:∀(k:Nat)(j:Nat)(x:Str),js[k]?=aa j->NF[k]?=aa x->X.N[j]?=aa x/\scope.names.lookup x=aa .free
 tg:∀x∈NT,scope.names.lookup x=aa .local
 nd:(NT++NF).Nodup
theorem Inv.blk(I:Inv X au σ H s)(B:rP X NT NF js scope)(q2:∀n c,cl.lookup n=aa c->X.env.cells.lookup n=aa c)(q3:∀y∈scope.names,y.2=.free->∃c,cl.lookup y.1=aa c)
  (hf:∀b∈fp,kO X au H b)(hlt:∀b∈fp,b<s.heap.objs.size)(hns:s1.heap.Ns s.heap.objs.size m)(keep:∀b o,s.heap.get? b=aa o->s1.heap.get? b=aa o)
  (hos:s1.os=s.os)(hg:AllBare s1.gens):
  Inv (X.blk (NT++NF) scope cl s.heap.objs.size s H fp) [] (fP NT.length aj++frees js σ) H s1:=by
 have look:∀x,(X.blk (NT++NF) scope cl s.heap.objs.size s H fp).env.kindOf x=(scope.names.lookup x).map λk=>if(k==rD&&X.env.scope.kind==.function&&X.env.kindOf x==aa .cell) then RG else k:=λx=>aaS (scope:=scope)
 have aoA:∀x,((X.blk (NT++NF) scope cl s.heap.objs.size s H fp).env.kindOf x=aa .cell\/(X.blk (NT++NF) scope cl s.heap.objs.size s H fp).env.kindOf x=aa .free)->scope.names.lookup x=aa .free:=λx h=>by
  rw[look] at h;cases e:scope.names.lookup x with
  |none=>rw[e] at h;simp at h
  |some k=>
   rw[e] at h;by_cases hk:k=.free
   .rw[hk]
   .have hb:(k==rD)=aM:=beq_eq_false_iff_ne.mpr hk;simp only[oF,hb,aar,pW,if_false,Ri] at h;rcases h with h|h
    .subst h;exact absurd rfl (B.cell _ (yS e))
    .exact absurd h hk
 have ltC:∀c x,X.env.cells.lookup x=aa c->c<s.heap.objs.size:=λc x e=>by
  obtain⟨v,q⟩:=I.cell x c e
  exact q.lt
 refine⟨⟨I.ok.mod,B.kind,I.ok.glob,I.ok.blt,cz _,λx y c h1 h2=>I.ok.inj x y c (q2 x c h1) (q2 y c h2),λx hx=>?_,λx c h _=>(nomatch(show aM=aq from h)),I.ok.hd,I.ok.frames,.inl rfl,λb hb=>⟨fQ (hlt b hb),λx c e=>(hf b hb).2.2.2.2.1 x c (q2 x c e)⟩,I.bs,mq I.ok.Ag I.sz,λb o e hb=>?_,λb hb hb2=>?_,I.stack,I.adm⟩,
  hos,hg,Un.kept keep,⟨m,hns,λi x v h1 h2 h3=>?_⟩,λx c e=>?_,I.hok.fresh (cz _),λx c e=>I.uM x c (q2 x c e),λp hp=>(nomatch(show p∈([]:List (aC×Obj)) from hp)),I.hok.kept keep,?_⟩
 .exact q3 _ (yS (aoA x hx)) rfl
 .rcases(hf b hb).2.2.2.1 with z|z
  .exact I.ok.Jt b o e z
  .exact absurd (pU (cG e) (mq I.ok.Ag z)) (xK _)
 .obtain⟨_,f1,f2,_⟩:=hf b hb
  rcases bW.mp (I.Ey b hb2) with z|z
  .exact f1 z
  .exact f2 z
 .have h1':(NT++NF)[i]?=aa x:=h1;by_cases hi:i<NT.length
  .rw[pB (by simpa using hi),Zu] at h2;split at h2<;>cases h2
  .have hi':NT.length<=i:=az;rw[qx (by simpa using hi')] at h2;rw[qx hi'] at h1';simp only[ahd] at h2;unfold frees at h2;rw[jw] at h2;cases ej:js[i-NT.length]? with
   |none=>rw[ej] at h2;cases h2
   |some j=>
    rw[ej] at h2;have h2':(σ[j]?).join=aa v:=by simpa using h2
    obtain⟨g1,g2⟩:=B.fr _ j x ej h1'
    have hj:σ[j]?=aa (aa v):=by
     cases e:σ[j]? with
     |none=>rw[e] at h2';cases h2'
     |some o=>rw[e] at h2';simp at h2';rw[h2']
    have hk:=B.free _ (yS g2) rfl;have hk':X.env.scope.names.lookup x=aa .cell\/X.env.scope.names.lookup x=aa .free:=hk
    obtain⟨m0,hn0,hl0⟩:=I.loc
    obtain⟨u,r,l⟩:=hl0 j x v g1 hj (.inr hk')
    refine⟨u,r,.inr ⟨?_,?_⟩⟩
    .rw[look,g2];by_cases hc:(rD==rD&&X.env.scope.kind==.function&&X.env.kindOf x==aa .cell)=aq
     .left;simp only[oF,hc,if_true]
     .right;simp only[oF,hc,if_false];rfl
    .rcases l with⟨k0,_⟩|⟨_,c,e,z⟩
     .have k0':X.env.scope.names.lookup x=aa .local:=k0;rcases hk' with z|z<;>rw[z] at k0'<;>cases k0'
     .obtain⟨c',hc'⟩:=q3 _ (yS g2) rfl
      have hc2:cl.lookup x=aa c':=hc';have e2:=q2 x c' hc2;rw[e] at e2;cases e2
      obtain⟨o,ho,hd⟩:=z
      exact⟨c,hc2,o,keep c o ho,hd⟩
 .obtain⟨v,o,ho,hd⟩:=I.cell x c (q2 x c e)
  exact⟨v,o,keep c o ho,hd⟩
 .show(fP NT.length aj++frees js σ).length=(NT++NF).length
  unfold frees;simp[B.len]
theorem Inv.Xy(I:Inv X au σ H s)(hf:∀b∈fp,kO X au H b)(J:Inv (X.blk N scope cl s.heap.objs.size s H fp) ae8 σ' H' s'):Inv X au σ H' s':=
 I.call' J.os J.base J.hok J.bare λb hb=>⟨(hf b hb).2.2.2.1,(hf b hb).2.1,(hf b hb).2.2.2.2.1,(hf b hb).2.2.2.2.2⟩
end
theorem amH(a:List α)(x y:α)(b:List α)(h:a.length=n):(a++x::b).set n y=a++y::b:=by
 subst h;rw[List.set_append_right _ _ (cz _),aaT];rfl
inductive kh where
 |one|many (n:Nat)
def Gn(K:aZ):kh->V->Hp->List V->Prop
 |.one,x,_,vs=>vs=[x]
 |.many n,x,H,vs=>∃a,x=.ref a/\cU K H a vs/\vs.length=n
def isNm(e:Expr)(x:Str):Prop:=∃pos,e=.Name x pos
def qO(tg:Expr)(NT:List Str):kh->Prop
 |.one=>∃x,isNm tg x/\NT=[x]
 |.many n=>∃es k pos,tg=.Tuple es k pos/\Paired isNm es NT/\NT.length=n
theorem abn:∀{es:List Expr}{NT:List Str},Paired isNm es NT->sU es ao=es.map λe=>(aM,assign e ao)
 |_,_,.nil=>rfl
 |_,_,.cons ⟨pos,e⟩ t=>by
  subst e
  show(aM,assign _ ao)::sU _ ao=_
  rw[abn t];rfl
theorem aj8(p:Paired isNm es NT):∀{pre NF:List Str}{σp fs:St}{s:bh}{vs:List V}{us:List aN}{Q:Unit->bh->Prop},
  X.N=pre++NT++NF->X.N.Nodup->(∀x∈NT,X.env.scope.names.lookup x=aa .local)->σp.length=pre.length->vs.length=NT.length->
  Inv X au (σp++(fP NT.length aj++fs)) H s->Vals vs us->(∀s',Inv X au (σp++(vs.map aa++fs)) H s'->Q () s')->
  aW (model X.prog X.w) X.A (G3 (es.map λe=>assign e X.env) us) Q E s:=by
 induction p with
 |nil=>
  intro pre NF σp fs s vs us Q hN nd hl hp hv I r q;cases vs with
  |cons _ _=>simp at hv
  |nil=>
   cases r;exact assignInOrder_nil (q s I)
 |@cons e x es NT he t ih=>
  intro pre NF σp fs s vs us Q hN nd hl hp hv I r q;cases vs with
  |nil=>simp at hv
  |cons v vs=>
   cases r with
   |cons r rr=>
    obtain⟨pos,rfl⟩:=he
    have hx:=hl x cX;have hi:X.N[pre.length]?=aa x:=by
     rw[hN,kE,qx (cz _)];simp
    refine assignInOrder_cons (Kr (vQ I nd hi (.inl hx) r (λs' I'=>?_) (.inr hx)));have e1:(σp++(fP (x::NT).length aj++fs)).set pre.length (aa v)=(σp++[aa v])++(fP NT.length aj++fs):=by
     exact(amH σp aj (aa v) (fP NT.length aj++fs) hp).trans (List.append_cons σp (aa v) (fP NT.length aj++fs))
    rw[e1] at I';refine ih (pre:=pre++[x]) (NF:=NF) (σp:=σp++[aa v]) (by rw[hN];simp) nd (λy hy=>hl y (dM _ hy)) (by simp[hp]) (by simpa using hv) I' rr λs2 I2=>q s2 ?_
    have e2:σp++[aa v]++(vs.map aa++fs)=σp++((v::vs).map aa++fs):=bI;rw[e2] at I2;exact I2
theorem aoB(tk:qO tg NT T)(hN:X.N=NT++NF)(nd:X.N.Nodup)(hc:X.calm=aq)
  (hl:∀x∈NT,X.env.scope.names.lookup x=aa .local)(I:Inv X au (fP NT.length aj++fs) H s)(r:RelV v u)(hv:Gn X.K T v H vs)
  (q:∀s',Inv X au (vs.map aa++fs) H s'->Q () s'):aW (model X.prog X.w) X.A (assign tg X.env u) Q E s:=by
 cases T with
 |one=>
  obtain⟨x,⟨pos,rfl⟩,rfl⟩:=tk
  have hv':vs=[v]:=hv;subst hv';have hx:=hl x cX;exact Kr (vQ I nd (i:=0) (by rw[hN];rfl) (.inl hx) r (λs' I'=>q s' I') (.inr hx))
 |many n=>
  obtain⟨es,k,pos,rfl,p,hn⟩:=tk
  obtain⟨a,rfl,hq,hlen⟩:=hv
  cases r
  obtain⟨aK,rv,ht,hz⟩:=I.tuple hq
  have e:=abn (ao:=X.env) p;have hpl:=p.length;refine assign_Tuple_tuple (I.ok.hd hc) ht (by rw[e];simp only[bJ,gZ];rw[<-rv.length];lia) (by rw[e];simp) λh' hx=>?_
  have I1:Inv X au (fP NT.length aj++fs) H {s with heap:=h'}:=I.kept (t':=s.toks) λb o e=>hx b o (fQ (cG e)) e
  rw[e,fD];exact aj8 p (pre:=[]) (σp:=[]) (by rw[hN];rfl) nd hl rfl az I1 (by simpa using rv) q
def turnOf(target iter:Expr)(ifs:List Expr)(it:aN)(ao:Env)(emit:Sem Unit)(more:Sem PySem.Fin):Sem PySem.Fin:=do
 tD iter.pos
 match <-j6 it with
 |none=>pure (.done .next)
 |some v=>
  Bb target it v
  assign target ao v
  let mut ok:=aq
  for c in ifs do
   if ok then ok <-isTrue c ao (eval c ao)
  if ok then emit
  more
theorem ajn(elt target iter:Expr)(ifs:List Expr)(scope:kJ)(pos:Pos)(it bu:aN)(ao:Env):
  Hw (.ListComp elt [⟨target,iter,ifs,0⟩] scope pos) 0 it bu ao=turnOf target iter ifs it ao (do let _ <-call (.builtin "list.append") [bu,<-eval elt ao]) (again (.compLoop (.ListComp elt [⟨target,iter,ifs,0⟩] scope pos) 0 it bu ao)):=by rfl
theorem ajo(kx vx target iter:Expr)(ifs:List Expr)(scope:kJ)(pos:Pos)(it:aN)(D:aC)(ao:Env):
  Hw (.DictComp kx vx [⟨target,iter,ifs,0⟩] scope pos) 0 it (.ref D) ao=turnOf target iter ifs it ao (do
      let kv <-eval kx ao
      let vv <-nA [kv] (eval vx ao)
      tD {kx.pos with endLine:=vx.pos.endLine,endCol:=vx.pos.endCol}
      nA [kv,vv] (dictSet D kv vv)) (again (.compLoop (.DictComp kx vx [⟨target,iter,ifs,0⟩] scope pos) 0 it (.ref D) ao)):=by rfl
theorem aj9(elt target iter:Expr)(ifs:List Expr)(scope:kJ)(pos:Pos)(it bu:aN)(ao:Env):
  Hw (.SetComp elt [⟨target,iter,ifs,0⟩] scope pos) 0 it bu ao=turnOf target iter ifs it ao (do let v <-eval elt ao;tD elt.pos;let _ <-call (.builtin "set.add") [bu,v]) (again (.compLoop (.SetComp elt [⟨target,iter,ifs,0⟩] scope pos) 0 it bu ao)):=by rfl
def pO(X:Cx)(ifs:List Expr)(t:TT):Prop:=
 ∀(au:List (aC×Obj))(s:bh)(σ:St)(H:Hp)(Q:Bool->Hp->Prop),Inv X au σ H s->t σ H Q->
  aW (model X.prog X.w) X.A (forIn ifs aq λc r=>if r=aq then do let ok <-isTrue c X.env (eval c X.env);pure (aif ok) else pure (aif r)) (TP X au σ Q) X.xe s
def aqP:TT:=λ_ H Q=>Q aq H
theorem amI:pO X [] aqP:=λ_ _ _ H _ I h=>wpAny_tests_nil ⟨H,I,h⟩
theorem amJ(h:PT X c t):pO X [c] t:=λau s σ H Q I q=>wpAny_tests_one (h au s σ H Q I q)
abbrev TM:=St->Hp->(Hp->Prop)->Prop
def PM(X:Cx)(emit:Sem Unit)(t:TM):Prop:=
 ∀(au:List (aC×Obj))(s:bh)(σ:St)(H:Hp)(Q:Hp->Prop),Inv X au σ H s->t σ H Q->
  aW (model X.prog X.w) X.A emit (λ_ s'=>∃H',Inv X au σ H' s'/\Q H') X.xe s
def VG(D:aC)(te:TE):TM:=λσ H Q=>te σ H λy H1=>∃xs,H1 D=aa (.lst xs)/\xs.length<cJ/\Q (upd H1 D (.lst (xs++[y])))
theorem aka(he:PE X elt te):PM X (do let _ <-call (.builtin "list.append") [.ref D,<-eval elt X.env]) (VG D te):=by
 intro au s σ H Q I h;refine aF (bY (he au s σ H _ I h) λv s1 aY=>?_)
 obtain⟨y,H1,I1,r1,xs,hD,hz,q⟩:=aY
 refine aF (bY (Tq (X:=X) au s1 σ H1 (.ref D) [y] (.ref D) [v] (λ_ H'=>Q H') I1 rfl (.cons r1 .nil) ⟨D,xs,y,rfl,rfl,hD,hz,q⟩) λ_ s2 ⟨_,H2,I2,_,q2⟩=>bA ⟨H2,I2,q2⟩)
def Ab(K:aZ)(T:kh)(ts:TT)(em:TM)(fs:St)(J:It)(H0:Hp)(done:Hp->Prop):Prop:=
 ∃W:Nat->Nat->Hp->Prop,(∃m,W 0 m H0)/\∀i m H,W i m H->
  (J.stop i H/\done H)\/(J.go i H/\∀x H',J.JP i H x H'->∃vs,Gn K T x H' vs/\
   ts (vs.map aa++fs) H' λb H2=>if b=aq then em (vs.map aa++fs) H2 λH3=>∃m',m'<m/\W (i+1) m' H3 else ∃m',m'<m/\W (i+1) m' H2)
section
variable{X:Cx}{NT NF:List Str}{ifs:List Expr}{T:kh}{ts:TT}{em:TM}{emit:Sem Unit}{bu:aN}{fp:List aC}{it:aC}{J:It}
theorem ak5{fs:St}{vs:List V}{H:Hp}(hv:vs.length=NT.length)(I:Inv X au (vs.map aa++fs) H s):Inv X au (fP NT.length aj++fs) H s:=
 I.weak (by simp[hv]) λi v h=>by
  by_cases hi:i<NT.length
  .rw[pB (by simpa using hi),Zu] at h;split at h<;>cases h
  .rw[qx (by simp;lia)] at h⊢;simpa[hv] using h
theorem Gn.len{K:aZ}{x:V}{H:Hp}(tk:qO tg NT T)(h:Gn K T x H vs):vs.length=NT.length:=by
 cases T with
 |one=>obtain⟨y,_,rfl⟩:=tk;rw[show vs=[x] from h];rfl
 |many n=>obtain⟨_,_,_,_,_,e⟩:=tk;obtain⟨_,_,_,e'⟩:=h;lia
theorem Um(hx:X.xe=λ_ _=>False)(hT:Hw e 0 (.ref it) bu X.env=turnOf tg iter ifs (.ref it) X.env emit (again (.compLoop e 0 (.ref it) bu X.env)))
  (hq:(G6 e 0 (.ref it) bu X.env).isFrame=aM)(hqu:(G6 e 0 (.ref it) bu X.env).quiet=aq)(hA:X.A.under (G6 e 0 (.ref it) bu X.env)=X.A)
  (tk:qO tg NT T)(hN:X.N=NT++NF)(nd:X.N.Nodup)(hc:X.calm=aq)(hl:∀x∈NT,X.env.scope.names.lookup x=aa .local)
  (hts:pO X ifs ts)(hem:PM X emit em)(TT:Turn X.prog X.w X.K tg J fp it tn)(hf:∀b∈fp,kO X [] H b)(I:Inv X [] (fP NT.length aj++fs) H s)(st:tn 0 s.heap)(hb:Ab X.K T ts em fs J H done)
  (hR:∀H' s' σ',Inv X [] σ' H' s'->done H'->R (.ok .next) s'):
  lQ (model X.prog X.w) X.A (.compLoop e 0 (.ref it) bu X.env) R s:=by
 obtain⟨W,⟨m0,w0⟩,turn⟩:=hb
 have stat:∀{H':Hp},(∀b∈fp,H' b=aj)->∀b∈fp,kO X [] H' b:=λhn b hb=>⟨hn b hb,(hf b hb).2⟩
 have noE:∀{α:Type}{t:Sem α}{Q:α->bh->Prop}{E:aN->bh->Prop}{s:bh},aW (model X.prog X.w) X.A t Q (λ_ _=>False) s->aW (model X.prog X.w) X.A t Q E s:=λh=>sO h (λ_ _ z=>z) λ_ _ z=>z.elim
 have noX:∀{α:Type}{t:Sem α}{Q:α->bh->Prop}{E:aN->bh->Prop}{s:bh},aW (model X.prog X.w) X.A t Q X.xe s->aW (model X.prog X.w) X.A t Q E s:=λh=>noE (by rw[hx] at h;exact h)
 refine codeAny_loop hqu (λn s'=>∃i H',Inv X [] (fP NT.length aj++fs) H' s'/\tn i s'.heap/\(∀b∈fp,H' b=aj)/\W i n H') ?_ m0 ⟨0,H,I,st,λb hb=>(hf b hb).1,w0⟩;rintro n s3 ⟨i,H3,I3,st3,JQ,w3⟩;rw[hA];show aW _ X.A (if(G6 e 0 (.ref it) bu X.env).isFrame=aq then(Hw e 0 (.ref it) bu X.env).onRaise (leaving X.env) else(Hw e 0 (.ref it) bu X.env).onRaise (λx=>do noteFrame x X.env;theTreesLotGoes x)) _ _ s3;rw[hq,bH jm];refine wpAny_noted (noE ?_);rw[hT];unfold turnOf;refine aF (xM (aF ?_));rcases turn i n H3 w3 with⟨stop,qn⟩|⟨go,step⟩
 .refine bY (TT.done X rfl rfl rfl hc i [] s3 _ H3 _ I3 (stat JQ) st3 stop) λr s4 aY=>?_
  obtain⟨hr,I4⟩:=aY
  subst hr;exact bA (hR H3 s4 _ I4 qn)
 .refine bY (TT.item X rfl rfl rfl hc i [] s3 _ H3 _ I3 (stat JQ) st3 go) λr s4 aY=>?_
  obtain⟨u,hr,h4⟩:=aY
  subst hr;refine aF (bY h4 λ_ s5 aY=>?_)
  obtain⟨x,H5,I5,r5,y5,De,Yy⟩:=aY
  have Yz:=I5.pinned (stat Yy) (TT.obj _ _ De)
  obtain⟨vs,hv,q5⟩:=step x H5 y5
  have hvl:=Gn.len tk hv;refine aF (aoB tk hN nd hc hl Yz r5 hv λs6 I6=>?_);refine aF (noX (bY (hts _ s6 _ H5 _ I6 q5) λb s7 aY=>?_))
  obtain⟨H7,I7,q7⟩:=aY
  have aeC:∀{s8:bh}{H8:Hp},Inv X ([]++Iv fp s5.heap) (vs.map aa++fs) H8 s8->(∃m',m'<n/\W (i+1) m' H8)->
    (G6 e 0 (.ref it) bu X.env=G6 e 0 (.ref it) bu X.env)/\∃m,m<n/\∃i H',Inv X [] (fP NT.length aj++fs) H' s8/\tn i s8.heap/\(∀b∈fp,H' b=aj)/\W i m H':=λ{s8 H8} I8 n8=>by
   obtain⟨m',hm,w8⟩:=n8
   refine⟨rfl,m',hm,i+1,H8,ak5 hvl I8.Ms,TT.keep _ _ _ De λb hb o e=>(I8.pin (b,o) (eF _ (eF _ (Lp hb e)))).1,λb hb=>?_,w8⟩
   obtain⟨o,e,d⟩:=TT.obj _ _ De b hb
   exact(I8.pin (b,o) (eF _ (eF _ (Lp hb e)))).2.1
  cases b with
  |false=>exact bA (aeC I7 q7)
  |true=>exact aF (noX (bY (hem _ s7 _ H7 _ I7 q7) λ_ s8 ⟨H8,I8,q8⟩=>bA (aeC I8 q8)))
end
structure Bk where
 cl:List (Str×aC)
 C:aC
 s:bh
 H:Hp
 fp:List aC
abbrev Cx.bk(X:Cx)(N:List Str)(scope:kJ)(b:Bk):Cx:=X.blk N scope b.cl b.C b.s b.H b.fp
section
variable{X:Cx}{js:List Nat}{ifs:List Expr}{T:kh}{wi:TI}{ts:Bk->TT}{te tk' tv:Bk->TE}{scope:kJ}{pos:Pos}
def YG(K:aZ)(wi:TI)(T:kh)(ts:Bk->TT)(te:Bk->TE)(js:List Nat):TE:=λσ H Q=>wi σ H λJ H1=>∀D,H1 D=aj->∀b,Ab K T (ts b) (VG D (te b)) (frees js σ) J (upd H1 D (.lst [])) (Q (.ref D))
theorem aeD{σ:St}{s2:bh}{H2:Hp}{cl:List (Str×aC)}{it:aC}{fp:List aC}{tn:Nat->cg->Prop}{J:It}{Q:Hp->Prop}{RR:aN->aC->zK->bh->Prop}{E:aN->bh->Prop}
  (B:rP X NT NF js scope)(tk:qO tg NT T)(hc:X.calm=aq)
  (hin:∀b,pO (X.bk (NT++NF) scope b) ifs (ts b)/\PE (X.bk (NT++NF) scope b) elt (te b))
  (q2:∀n c,cl.lookup n=aa c->X.env.cells.lookup n=aa c)(q3:∀y∈scope.names,y.2=.free->∃c,cl.lookup y.1=aa c)
  (I2:Inv X au σ H2 s2)(TT:Turn X.prog X.w X.K tg J fp it tn)(st2:tn 0 s2.heap)(f2:∀b∈fp,kO X au H2 b)
  (q:∀b,Ab X.K T (ts b) (VG s2.heap.objs.size (te b)) (frees js σ) J (upd H2 s2.heap.objs.size (.lst [])) Q)
  (hR:∀C H' s' m,Inv X au σ H' s'->kO X au H' C->s'.heap.Ns C m->Q H'->RR (.ref s2.heap.objs.size) C (.ok .next) s'):
  aW (model X.prog X.w) X.A (newList []) (λbu s₃=>aW (model X.prog X.w) X.A (aat scope X.env.globals cl [] X.env.qual aj .none (aa X.env)) (λcenv s₄=>
   lQ (model X.prog X.w) X.A (.compStart (.ListComp elt [⟨tg,iter,ifs,0⟩] scope pos) 0 (.ref it) bu {cenv with scope:=relabel scope X.env}) (RR bu cenv.locals) s₄) E s₃) E s2:=by
 refine lZ ?_;have hD:H2 s2.heap.objs.size=aj:=I2.hok.fresh (cz _);have I3:Inv X au σ (upd H2 s2.heap.objs.size (.lst [])) {s2 with heap:=s2.heap.push {cls:=.type "list",dict:=aj,data:=.seq ([]:List aN).toArray}}:=
  I2.laid (t':=s2.toks) (λb o e=>cD _ e) (cz _) ⟨lC _,[],0,.nil,gj _ rfl⟩
 have hsz:(s2.heap.push {cls:=.type "list",dict:=aj,data:=.seq ([]:List aN).toArray}).objs.size=s2.heap.objs.size+1:=sH ..;refine ZJ B.cell (by intro y hy;simp at hy) (λh₁ hns₁ hsb₁=>?_) B.kind;have t8:∀b∈fp,b<s2.heap.objs.size:=λb hb=>by
  obtain⟨o,e,_⟩:=TT.obj 0 _ st2 b hb
  exact cG e
 have f3:∀b∈fp,kO X au (upd H2 s2.heap.objs.size (.lst [])) b:=λb hb=>⟨by rw[cP (fQ (t8 b hb))];exact(f2 b hb).1,(f2 b hb).2⟩
 have keep:∀b o,(s2.heap.push {cls:=.type "list",dict:=aj,data:=.seq ([]:List aN).toArray}).get? b=aa o->h₁.get? b=aa o:=λb o e=>
  hsb₁.extBut b o (fQ (cG e)) (cD _ e)
 have Aj:∀b∈fp,b<(s2.heap.push {cls:=.type "list",dict:=aj,data:=.seq ([]:List aN).toArray}).objs.size:=λb hb=>by have:=t8 b hb;rw[hsz];exact vG this
 have I4:=I3.blk (s1:={s2 with heap:=h₁,toks:=s2.toks+([]:List (Str×aN)).length}) B q2 q3 f3 Aj hns₁ keep rfl I2.bare;have Ak:tn 0 h₁:=TT.keep 0 _ _ st2 λb _ o e=>keep b o (cD _ e)
 obtain⟨i1,i2⟩:=hin ⟨cl,(s2.heap.push {cls:=.type "list",dict:=aj,data:=.seq ([]:List aN).toArray}).objs.size,{s2 with heap:=s2.heap.push {cls:=.type "list",dict:=aj,data:=.seq ([]:List aN).toArray}},upd H2 s2.heap.objs.size (.lst []),fp⟩
 have loop:lQ (model X.prog X.w) X.A (.compLoop (.ListComp elt [⟨tg,iter,ifs,0⟩] scope pos) 0 (.ref it) (.ref s2.heap.objs.size) (Ul scope cl (s2.heap.push {cls:=.type "list",dict:=aj,data:=.seq ([]:List aN).toArray}).objs.size X.env))
   (RR (.ref s2.heap.objs.size) (s2.heap.push {cls:=.type "list",dict:=aj,data:=.seq ([]:List aN).toArray}).objs.size) {s2 with heap:=h₁,toks:=s2.toks+([]:List (Str×aN)).length}:=by
  refine Um (X:=X.blk (NT++NF) scope cl (s2.heap.push {cls:=.type "list",dict:=aj,data:=.seq ([]:List aN).toArray}).objs.size {s2 with heap:=s2.heap.push {cls:=.type "list",dict:=aj,data:=.seq ([]:List aN).toArray}} (upd H2 s2.heap.objs.size (.lst [])) fp)
   (T:=T) (fs:=frees js σ) (done:=Q) rfl (ajn elt tg iter ifs scope pos _ _ _) rfl rfl rfl tk rfl B.nd hc (λx hx=>ZK (B.tg x hx)) i1 (aka i2) TT (λb hb=>?_) I4 Ak (q _) λH' s' σ' J' qd=>?_
  .exact⟨(f3 b hb).1,fQ (Aj b hb),λhb2=>by
    rcases bW.mp (I3.Ey b hb2) with z|z
    .exact(f3 b hb).2.1 z
    .exact(f3 b hb).2.2.1 z,.inl hb,λx c e=>(f3 b hb).2.2.2.2.1 x c (q2 x c e),λp hp=>(nomatch(show p∈([]:List (aC×Obj)) from hp))⟩
  .obtain⟨m,hn,_⟩:=J'.loc
   exact hR _ H' s' m (I3.Xy f3 J') (I3.wO (cz _) J'.free) hn qd
 exact codeAny_compStart_list loop (TT.self _ 0 _ _ _ Ak loop)
theorem apO(B:rP X NT NF js scope)(tk:qO tg NT T)(hc:X.calm=aq)(hi:PI X tg iter wi)
  (hin:∀b,pO (X.bk (NT++NF) scope b) ifs (ts b)/\PE (X.bk (NT++NF) scope b) elt (te b))
  (hs:∀x,vD iter X.env x=pure x:=by intro _;rfl):PE X (.ListComp elt [⟨tg,iter,ifs,0⟩] scope pos) (YG X.K wi T ts te js):=by
 intro au s σ H Q I h
 obtain⟨cl,hclos,q2,q3⟩:=Lq (ao:=X.env) (scope:=scope) λy hy e=>I.ok.has y.1 (B.free y hy e)
 rw[eval_ListComp];refine Ra (use:=aj) rfl hs hclos B.kind B.names (bY (hi au s σ H _ I h) λv s1 h1=>bY h1 λitv s2 aY=>?_)
 obtain⟨it,fp,tn,J,H2,e,I2,TT,st2,f2,q⟩:=aY
 subst e;refine aeD (Q:=λH'=>Q (.ref s2.heap.objs.size) H') (RR:=λbu C=>Uo (model X.prog X.w) X.A X.xe aj (EP X au σ Q) bu C) B tk hc hin q2 q3 I2 TT st2 f2 (q _ (I2.hok.fresh (cz _))) λC H' s' m I' fC hn qd=>?_
 refine⟨m,hn,λh' sb=>⟨.ref s2.heap.objs.size,H',?_,rfl,qd⟩⟩
 exact I'.turned (t':=s'.toks) (λb o hb e=>(sb.2 b hb).trans e) fC.1 fC.2.1 fC.2.2.2.1 fC.2.2.2.2.1 fC.2.2.2.2.2
theorem ak6(B:rP X NT NF js scope)(tk:qO tg NT T)(hc:X.calm=aq)(hi:PI X tg iter wi)
  (hin:∀b,pO (X.bk (NT++NF) scope b) ifs (ts b)/\PE (X.bk (NT++NF) scope b) elt (te b))
  (hsw:sW (.ListComp elt [⟨tg,iter,ifs,0⟩] scope pos) (aa (.Name y pos')) spos.line X.env=pure aq)
  (hN:X.N.Nodup)(hI:X.N[i]?=aa y)(hy:X.env.scope.names.lookup y=aa .local)
  (hs:∀x,vD iter X.env x=pure x:=by intro _;rfl):PS X (.Assign [.Name y pos'] (.ListComp elt [⟨tg,iter,ifs,0⟩] scope pos) spos) (CP (YG X.K wi T ts te js) (uN i)):=by
 intro au s σ H D I h
 obtain⟨cl,hclos,q2,q3⟩:=Lq (ao:=X.env) (scope:=scope) λy hy e=>I.ok.has y.1 (B.free y hy e)
 rw[ahe _ _ _ _ hsw];refine aF (xM (aF ?_));show aW _ X.A (do let _ <-aaE (.ListComp elt [⟨tg,iter,ifs,0⟩] scope pos) scope X.env _ (newList []) aM (eval iter X.env) (aa (assign (.Name y pos') X.env))) _ _ s;refine aF (sO (Ra (use:=aa (assign (.Name y pos') X.env)) (Q:=λ_ s'=>SP X au D .next s') rfl hs hclos B.kind B.names
  (bY (hi au s σ H _ I h) λv s1 h1=>bY h1 λitv s2 ⟨it,fp,tn,J,H2,e,I2,TT,st2,f2,q⟩=>?_)) (λ_ s' hq=>bA (bA hq)) λ_ _ e=>e)
 subst e;refine aeD (Q:=λH'=>D.nx (σ.set i (aa (.ref s2.heap.objs.size))) H') (RR:=λbu C=>Uo (model X.prog X.w) X.A X.xe (aa (assign (.Name y pos') X.env)) (λ_ s'=>SP X au D .next s') bu C) B tk hc hin q2 q3 I2 TT st2 f2 (q _ (I2.hok.fresh (cz _))) λC H' s' m I' fC hn qd=>?_
 show aW _ X.A (assign (.Name y pos') X.env (.ref s2.heap.objs.size)) _ _ _;refine Kr (Tj I' hN hI (.inl hy) (v:=.ref s2.heap.objs.size) rfl (λs3 I3 aY=>?_) (.inr hy))
 obtain⟨a,sb,ha⟩:=aY
 have YH:C≠a:=by
  rcases ha with z|z
  .rw[z];exact fC.2.1
  .exact λw=>fC.2.2.2.2.1 y a z w.symm
 refine⟨m,hn.sameBut sb YH,λh' sb'=>⟨_,H',?_,qd⟩⟩
 exact I3.turned (t':=s3.toks) (λb o hb e=>(sb'.2 b hb).trans e) fC.1 fC.2.1 fC.2.2.2.1 fC.2.2.2.2.1 fC.2.2.2.2.2
end
def YJ(z:Str):It:=⟨λi _=>i<z.cps.size,λi H x H'=>H'=H/\∃c,z.cps[i]?=aa c/\x=.str ⟨#[c]⟩,λi _=>z.cps.size<=i⟩
theorem ak7{P:fj}{w:c7}{K:aZ}{tg:Expr}{z:Str}{t:Tok}{ty:String}{it:aC}(hty:ty="str_ascii_iterator"\/ty="str_iterator")(hgo:∀i u,Bb tg i u=pure ()):
  Turn P w K tg (YJ z) [it] it (λi h=>h.IsStrIter it ty z t i) where
 mem:=bI
 obj:=λi h st b hb=>by
  have e:b=it:=by simpa using hb
  subst e
  obtain⟨o,e,c,d⟩:=st
  exact⟨o,e,λv q=>by rw[d] at q;cases q⟩
 keep:=λi h h' st k=>let ⟨o,ho,r⟩:=st;⟨o,k it bI o ho,r⟩
 item:=by
  intro X hP hw hK hc i au s σ H E I hf st hg;subst hP hw hK
  obtain⟨f0,f1,f2,f3,f4,f5⟩:=hf it bI
  have hi:i<z.cps.size:=hg;have W:yg X.prog X.w X.A it [it] [it] z.cps.size (SignAt z) (λi h=>h.IsStrIter it ty z t i):=by
   rcases hty with rfl|rfl
   .exact Walks.strAscii (I.ok.hd hc) it z t
   .exact Walks.strWide (I.ok.hd hc) it z t
  refine W.item i s _ _ hi st λv h' tk hv st' kk=>?_
  obtain⟨c,u,hc',rfl⟩:=hv
  have I1:Inv X au σ H {s with heap:=h',toks:=tk}:=I.turned (λb o hb e=>kk b o (by simpa using hb) e) f0 f1 f3 f4 f5
  refine⟨_,rfl,?_⟩
  rw[hgo];exact bA ⟨.str ⟨#[c]⟩,H,I1,⟨u,rfl⟩,⟨rfl,c,hc',rfl⟩,st',λb hb=>(hf b hb).1⟩
 done:=by
  intro X hP hw hK hc i au s σ H E I hf st hg;subst hP hw hK
  obtain⟨f0,f1,f2,f3,f4,f5⟩:=hf it bI
  have hi:z.cps.size<=i:=hg;rcases hty with rfl|rfl
  .exact wpAny_pyNext_ascii_end (I.ok.hd hc) st (by simpa using hi) λh' eb=>⟨rfl,I.turned (t':=s.toks) (λb o hb e=>eb b o hb e) f0 f1 f3 f4 f5⟩
  .exact wpAny_pyNext_wide_end (I.ok.hd hc) st (by simpa using hi) λh' eb=>⟨rfl,I.turned (t':=s.toks) (λb o hb e=>eb b o hb e) f0 f1 f3 f4 f5⟩
 self:=λ_ _ _ _ _ st h=>by
  rcases hty with rfl|rfl
  .exact wpAny_pyIter_striter_ascii st h
  .exact wpAny_pyIter_striter_wide st h
def aqQ(tl:TE):TI:=λσ H R=>tl σ H λx H1=>∃z,x=.str z/\R (YJ z) H1
theorem aeE(hl:PE X l tl)(hgo:∀i u,Bb tg i u=pure ():=by intro _ _;rfl):PI X tg l (aqQ tl):=by
 intro au s σ H R I h;refine bY (hl au s σ H _ I h) λv s1 aY=>?_
 obtain⟨x,H1,I1,r1,q1⟩:=aY
 obtain⟨z,e,q⟩:=q1
 subst e
 obtain⟨t,rfl⟩:=r1
 have fin:∀(o:Obj)(ty:String),(ty="str_ascii_iterator"\/ty="str_iterator")->Heap.IsStrIter (s1.heap.push o) s1.heap.objs.size ty z t 0->PIE X au σ tg R (.ref s1.heap.objs.size) {s1 with heap:=s1.heap.push o}:=λo ty hty st=>by
  refine⟨s1.heap.objs.size,[s1.heap.objs.size],_,_,H1,rfl,I1.kept (t':=s1.toks) λb o e=>cD _ e,ak7 hty hgo,st,λb hb=>?_,q⟩
  have e:b=s1.heap.objs.size:=by simpa using hb
  subst e;exact I1.wO (cz _) (I1.hok.fresh (cz _))
 cases ha:z.cps.all (·<128)
 .exact wpAny_pyIter_wide ha (fin _ _ (.inr rfl) ⟨_,gj _ rfl,rfl,rfl⟩)
 .exact wpAny_pyIter_ascii ha (fin _ _ (.inl rfl) ⟨_,gj _ rfl,rfl,rfl⟩)
theorem akb:dU X (iG .LtE) (λx y H Q=>∃i j,x=.str i/\y=.str j/\Q (.bl (!(decide (j.cps.toList<i.cps.toList)))) H):=by
 intro au s σ H x y v u Q I rx ry h
 obtain⟨i,j,rfl,rfl,q⟩:=h
 obtain⟨t,rfl⟩:=rx
 obtain⟨t',rfl⟩:=ry
 exact PySem.P.le_str (iI I q rfl)
theorem Lr:∀{ys:List Str}{us:List aN},Vals (ys.map V.str) us->StrsAre us ys
 |[],_,h=>by cases h;exact .nil
 |y::ys,_,h=>by
  cases h with
  |cons r rr=>
   obtain⟨t,rfl⟩:=r
   exact .cons y t (Lr rr)
theorem amK:Df X "str.join" (λx xs H Q=>∃z p ys,x=.str z/\xs=[.ref p]/\cj X.K H p (ys.map V.str)/\(ys.map (·.length)).sum+ys.length*z.length<=16777216/\Q (.str (Txt.join z ys)) H):=by
 intro au s σ H x xs v us Q I rx r h
 obtain⟨z,p,ys,rfl,rfl,hp,hz,q⟩:=h
 obtain⟨t,rfl⟩:=rx
 obtain⟨u,rfl,ru⟩:=vals1 r
 cases ru
 obtain⟨aK,rv,pl,_⟩:=I.list hp
 exact join_list pl.isList (by simpa using Lr rv) hz λt' k=>⟨.str _,H,I.tok _,⟨_,rfl⟩,q⟩
section
variable{X:Cx}
theorem part_of(h:wj v o):∃l:Option (Int×Tok),v=partValue l/\l.map (·.1)=o:=by
 cases h with
 |none=>exact⟨aj,rfl,rfl⟩
 |int i t=>exact⟨aa (i,t),rfl,rfl⟩
theorem aoC:yK X (λx lo hi H Q=>∃z,x=.str z/\z.length<=cJ/\Q (.str (Txt.slice z lo hi)) H):=by
 intro au s σ H x v vl vu lo hi sl Q I rx hs pl pu h
 obtain⟨z,rfl,hz,q⟩:=h
 obtain⟨t,rfl⟩:=rx
 obtain⟨l,rfl,rfl⟩:=part_of pl
 obtain⟨u,rfl,rfl⟩:=part_of pu
 refine⟨"str",_,F.slot_str_getitem.lookup,abg s z t,?_⟩
 exact wpAny_getItem_str_slice (l:=l) (u:=u) (st:=aj) hs rfl (post_val_or_str ⟨mq (Txt.slice_le z _ _) hz,λt' k=>⟨.str _,H,I.tok _,⟨t',rfl⟩,q⟩⟩)
theorem acs:∀{bs:List Bool}{us:List aN},Vals (bs.map V.bl) us->us=bs.map vM
 |[],_,h=>by cases h;rfl
 |b::bs,_,h=>by
  cases h with
  |cons r rr=>
   cases r;rw[acs rr];rfl
theorem ak8(hc:X.calm=aq):iY X (.builtin "all") (λxs H Q=>∃(p:aC)(bs:List Bool),xs=[.ref p]/\cj X.K H p (bs.map V.bl)/\Q (.bl (bs.all id)) H):=by
 intro au s σ H xs us Q I r h
 obtain⟨p,bs,rfl,hp,q⟩:=h
 obtain⟨u,rfl,ru⟩:=vals1 r
 cases ru
 obtain⟨aK,rv,pl,_⟩:=I.list hp
 have hl:=pl.isList;have e0:=acs rv;subst e0;have hlt:p<s.heap.objs.size:=by obtain⟨_,e,_⟩:=hl;exact cG e
 refine call_all_walk (Ks hl ?_)
 refine⟨s.heap.objs.size,[s.heap.objs.size,p],[s.heap.objs.size],(bs.map vM).toArray.size,_,_,λi=>(bs[i]?).getD aq,rfl,Sv (A:=X.A.in1) (I.ok.hd hc) _ p (fQ hlt) (bs.map vM).toArray,
  ⟨⟨_,gj _ rfl,rfl,rfl⟩,hl.push _⟩,λi v s' Q' E' hP hQ=>?_,λh' tk hk=>?_⟩
 .have hP':(bs.map vM)[i]?=aa v:=by simpa using hP
  rw[jw] at hP';cases e:bs[i]? with
  |none=>rw[e] at hP';cases hP'
  |some b=>
   rw[e] at hP';cases hP';simp only[e,Ky] at hQ;exact yV hQ
 .have e:((gG (bs.map vM).toArray.size).all λi=>(bs[i]?).getD aq)=bs.all id:=by
   have:(bs.map vM).toArray.size=bs.length:=bI;rw[this,uh,nR,nR];constructor
   .intro h b hb
    obtain⟨i,hi,rfl⟩:=vB hb
    have:=h i (vJ.mpr hi);simpa[jb hi] using this
   .intro h i hi;have hi':=vJ.mp hi;simp only[jb hi',Ky];exact h _ (xF hi')
  rw[e]
  refine⟨.bl _,H,I.kept λb x e=>hk b x (λhm=>?_) (cD _ e),rfl,q⟩
  rw[gk.mp hm] at e;exact xK _ (cG e)
end
mutual
def RD(K:aZ)(H:Hp):aD->V->Prop
 |.none,v=>v=.non
 |.bool b,v=>v=.bl b
 |.int i,v=>v=.int i
 |.str x,v=>v=.str x
 |.tuple ds,v=>∃a vs,v=.ref a/\cU K H a vs/\yL K H ds vs
 |.list ds,v=>∃a vs,v=.ref a/\cj K H a vs/\yL K H ds vs
 |.dict _,_=>False
def yL(K:aZ)(H:Hp):List aD->List V->Prop
 |[],vs=>vs=[]
 |d::ds,vs=>∃v r,vs=v::r/\RD K H d v/\yL K H ds r
end
section
variable{σ:St}{H:Hp}
mutual
theorem RD.reads(I:Inv X au σ H s):∀{d:aD}{v:V}{u:aN},RD X.K H d v->RelV v u->∃as,Reads s.heap u d as
 |.none,_,_,h,r=>by
  cases(show _=V.non from h)
  cases r
  exact⟨_,.none⟩
 |.bool b,_,_,h,r=>by
  cases(show _=V.bl b from h)
  cases r
  exact⟨_,.bool b⟩
 |.int i,_,_,h,r=>by
  cases(show _=V.int i from h)
  obtain⟨t,rfl⟩:=r
  exact⟨_,.int i t⟩
 |.str x,_,_,h,r=>by
  cases(show _=V.str x from h)
  obtain⟨t,rfl⟩:=r
  exact⟨_,.str x t⟩
 |.tuple ds,v,u,h,r=>by
  obtain⟨a,vs,e1,q,t⟩:=h
  subst e1;cases r
  obtain⟨aK,rv,⟨o,e,c,n,d⟩,_⟩:=I.tuple q
  obtain⟨as,R⟩:=yL.reads I t rv
  exact⟨_,.tuple e c d (by simpa using R)⟩
 |.list ds,v,u,h,r=>by
  obtain⟨a,vs,e1,q,t⟩:=h
  subst e1;cases r
  obtain⟨aK,rv,⟨o,n,e,c,_,d⟩,_⟩:=I.list q
  obtain⟨as,R⟩:=yL.reads I t rv
  exact⟨_,.list e c d (by simpa using R)⟩
theorem yL.reads(I:Inv X au σ H s):∀{ds:List aD}{vs:List V}{us:List aN},yL X.K H ds vs->Vals vs us->∃as,ReadsAll s.heap us ds as
 |[],_,_,h,r=>by
  cases(show _=[] from h)
  cases r
  exact⟨_,.nil⟩
 |d::ds,vs,us,h,r=>by
  obtain⟨v,rr,e1,q,t⟩:=h
  subst e1;cases r with
  |cons r1 r2=>
   obtain⟨as,R⟩:=RD.reads I q r1
   obtain⟨bs,R2⟩:=yL.reads I t r2
   exact⟨_,.cons R R2⟩
end
end
def aeF(kj:kJ)(N0 NT NF:List Str)(js:List Nat)(scope:kJ):Bool:=
 scope.kind==.function&&scope.names.all (λy=>!(y.2==.local)||scope.names.lookup y.1==some .local)&&scope.names.all (λy=>!(y.2==.cell))&&
  scope.names.all (λy=>!(y.2==.free)||(kj.names.lookup y.1==aa .cell||kj.names.lookup y.1==aa .free))&&js.length==NF.length&&
  (js.zip NF).all (λp=>N0[p.1]?==aa p.2&&scope.names.lookup p.2==aa .free)&&NT.all (λx=>scope.names.lookup x==aa .local)&&decide (NT++NF).Nodup
theorem mJ.ok(h:aeF kj N0 NT NF js scope=aq)(ho:X.env.scope=kj)(hN:X.N=N0):rP X NT NF js scope:=by
 unfold aeF at h;simp only[jP] at h
 obtain⟨⟨⟨⟨⟨⟨⟨h1,h2⟩,h3⟩,h4⟩,h5⟩,h6⟩,h7⟩,h8⟩:=h
 refine⟨eq_of_beq h1,λy hy e=>?_,λy hy e=>?_,λy hy e=>?_,by simpa using h5,λk j x ej ex=>?_,λx hx=>?_,of_decide_eq_true h8⟩
 .have:=nR.mp h2 y hy;rw[e] at this;simpa using this
 .have:=nR.mp h3 y hy;rw[e] at this;simp at this
 .have:=nR.mp h4 y hy;rw[e] at this;rw[ho];simpa using this
 .have hm:(j,x)∈js.zip NF:=by
   have:(js.zip NF)[k]?=aa (j,x):=by
    rw[List.getElem?_zip_eq_some]
    exact⟨ej,ex⟩
   exact lY this
  have:=nR.mp h6 _ hm;simp only[jP] at this;rw[hN]
  exact⟨eq_of_beq this.1,eq_of_beq this.2⟩
 .exact eq_of_beq (nR.mp h7 x hx)
structure dJ(P:fj)(w:c7)(K:aZ)(mg:Str->Option aN)(base:cg)(x:Str)(k:Nat)(ps:List Str)(sp:Sp):Prop where
 ex:∃(f:aC)(fd:vR),mg x=aa (.ref f)/\DG K (.ref f)=aq/\Binds K fd ps []/\fK P w K mg base fU k f fd ps sp
section
variable{X:Cx}{x:Str}{k:Nat}{sp:Sp}{p pos:Pos}{e:Expr}{t:TA}
theorem apP(F:dJ X.prog X.w X.K X.mg X.base x k ps sp)(hr:jZ k X.A)(hg:Gl X x)(ha:PA X (e::es) t)(hdb:(x==("__debug__":Str))=aM:=by decide)
  (he:bR (e::es) X.env=(aM,eval e X.env)::bR es X.env:=by rfl)(hpl:(jA pos (bR es X.env)).any (·.1)=aM:=by rfl):
  PE X (.Call (.Name x p) (e::es) [] pos) (Xu sp [] E0 t):=by
 obtain⟨f,fd,h1,h2,h3,h4⟩:=F.ex
 exact amy h4 hr hg h1 h2 h3 .nil apM ha hdb he hpl
theorem ai6:iY X (.builtin "isinstance") (λxs H Q=>∃x n t b,xs=[x,.ty n]/\oV X.K H x t/\Dz X.K t (.type n)=aa b/\Q (.bl b) H):=by
 intro au s σ H xs us Q I r h
 obtain⟨x,n,t,b,rfl,ty,e,q⟩:=h
 obtain⟨u,u2,rfl,r1,r2⟩:=vals2 r
 cases r2;exact aj0 I r1 ty e λtk=>⟨.bl b,H,I.tok tk,rfl,q⟩
end
theorem Df.r{id:String}{r:V->List V->Hp->VK->Prop}(h:Df X id r):MtR X id r:=h
theorem cH.upd(h:H p=aj):cH H (L2.upd H p o):=λb u e=>by rw[cP (pX e h)];exact e
def Ye(D:aC)(tk tv:TE):TM:=λσ H Q=>tk σ H λy H1=>tv σ H1 λz H2=>∃aA k,(∃ep,H2 D=aa (.dK aA ep))/\y=kV k/\aA.length<cJ/\∀e,Q (upd H2 D (.dK (putK aA k z) e))
theorem aoD(hu:X.A.units+1<iM)(hk:PE X kx tk)(hv:PE X vx tv):PM X (do
      let kv <-eval kx X.env
      let vv <-nA [kv] (eval vx X.env)
      tD {kx.pos with endLine:=vx.pos.endLine,endCol:=vx.pos.endCol}
      nA [kv,vv] (dictSet D kv vv)) (Ye D tk tv):=by
 intro au s σ H Q I h;refine aF (bY (hk au s σ H _ I h) λkv s1 aY=>?_)
 obtain⟨y,H1,I1,r1,q1⟩:=aY
 refine aF (nj (bY (hv au s1 σ H1 _ I1 q1) λvv s2 aY=>?_))
 obtain⟨z,H2,I2,r2,aA,k,⟨ep,hD⟩,ey,hl,q2⟩:=aY
 subst ey;refine aF (xM (nj ?_))
 obtain⟨z1,hd,vs,rel,dd⟩:=Xx I2.hok hD
 have hz:vs.length<=cJ:=by rw[<-rel.length];exact z1
 have hl2:(putK aA k z).length<=cJ:=by have:=K8 aA k z;lia
 refine wpAny_dictSet_pairs (hsz:=hz) (Cv r1) dd λh' wW hs=>?_
 obtain⟨ep',dd2⟩:=wW.dictAt
 refine⟨_,?_,q2 ep'⟩
 have he:∃q,h'.get? D=aa q:=let ⟨q,_,_,hq,_⟩:=wW;⟨q,hq⟩
 exact BP I2 (by rw[hD];exact oH) hs he (Oo hl2 hd (rel.put k r2) dd2)
section
variable{X:Cx}{js:List Nat}{ifs:List Expr}{T:kh}{wi:TI}{ts:Bk->TT}{te tk' tv:Bk->TE}{scope:kJ}{pos:Pos}
def tDC(K:aZ)(wi:TI)(T:kh)(ts:Bk->TT)(tk' tv:Bk->TE)(js:List Nat):TE:=λσ H Q=>wi σ H λJ H1=>∀D,H1 D=aj->∀b,Ab K T (ts b) (Ye D (tk' b) (tv b)) (frees js σ) J (upd H1 D (.dK [] 0)) (Q (.ref D))
theorem aoE{σ:St}{s2:bh}{H2:Hp}{cl:List (Str×aC)}{it:aC}{fp:List aC}{tn:Nat->cg->Prop}{J:It}{Q:Hp->Prop}{RR:aN->aC->zK->bh->Prop}{E:aN->bh->Prop}
  (B:rP X NT NF js scope)(tk:qO tg NT T)(hc:X.calm=aq)(hu:X.A.units+1<iM)
  (hin:∀b,pO (X.bk (NT++NF) scope b) ifs (ts b)/\PE (X.bk (NT++NF) scope b) kx (tk' b)/\PE (X.bk (NT++NF) scope b) vx (tv b))
  (q2:∀n c,cl.lookup n=aa c->X.env.cells.lookup n=aa c)(q3:∀y∈scope.names,y.2=.free->∃c,cl.lookup y.1=aa c)
  (I2:Inv X au σ H2 s2)(TT:Turn X.prog X.w X.K tg J fp it tn)(st2:tn 0 s2.heap)(f2:∀b∈fp,kO X au H2 b)
  (q:∀b,Ab X.K T (ts b) (Ye s2.heap.objs.size (tk' b) (tv b)) (frees js σ) J (upd H2 s2.heap.objs.size (.dK [] 0)) Q)
  (hR:∀C H' s' m,Inv X au σ H' s'->kO X au H' C->s'.heap.Ns C m->Q H'->RR (.ref s2.heap.objs.size) C (.ok .next) s'):
  aW (model X.prog X.w) X.A (newDict) (λbu s₃=>aW (model X.prog X.w) X.A (aat scope X.env.globals cl [] X.env.qual aj .none (aa X.env)) (λcenv s₄=>
   lQ (model X.prog X.w) X.A (.compStart (.DictComp kx vx [⟨tg,iter,ifs,0⟩] scope pos) 0 (.ref it) bu {cenv with scope:=relabel scope X.env}) (RR bu cenv.locals) s₄) E s₃) E s2:=by
 refine lZ ?_;have hD:H2 s2.heap.objs.size=aj:=I2.hok.fresh (cz _);have I3:Inv X au σ (upd H2 s2.heap.objs.size (.dK [] 0)) {s2 with heap:=s2.heap.push {cls:=.type "dict",dict:=aj,data:=.dict #[]}}:=
  I2.laid (t':=s2.toks) (λb o e=>cD _ e) (cz _) (Uk s2.heap I2.big)
 have hsz:(s2.heap.push {cls:=.type "dict",dict:=aj,data:=.dict #[]}).objs.size=s2.heap.objs.size+1:=sH ..;refine ZJ B.cell (by intro y hy;simp at hy) (λh₁ hns₁ hsb₁=>?_) B.kind;have t8:∀b∈fp,b<s2.heap.objs.size:=λb hb=>by
  obtain⟨o,e,_⟩:=TT.obj 0 _ st2 b hb
  exact cG e
 have f3:∀b∈fp,kO X au (upd H2 s2.heap.objs.size (.dK [] 0)) b:=λb hb=>⟨by rw[cP (fQ (t8 b hb))];exact(f2 b hb).1,(f2 b hb).2⟩
 have keep:∀b o,(s2.heap.push {cls:=.type "dict",dict:=aj,data:=.dict #[]}).get? b=aa o->h₁.get? b=aa o:=λb o e=>
  hsb₁.extBut b o (fQ (cG e)) (cD _ e)
 have Aj:∀b∈fp,b<(s2.heap.push {cls:=.type "dict",dict:=aj,data:=.dict #[]}).objs.size:=λb hb=>by have:=t8 b hb;rw[hsz];exact vG this
 have I4:=I3.blk (s1:={s2 with heap:=h₁,toks:=s2.toks+([]:List (Str×aN)).length}) B q2 q3 f3 Aj hns₁ keep rfl I2.bare;have Ak:tn 0 h₁:=TT.keep 0 _ _ st2 λb _ o e=>keep b o (cD _ e)
 obtain⟨i1,i2,i3⟩:=hin ⟨cl,(s2.heap.push {cls:=.type "dict",dict:=aj,data:=.dict #[]}).objs.size,{s2 with heap:=s2.heap.push {cls:=.type "dict",dict:=aj,data:=.dict #[]}},upd H2 s2.heap.objs.size (.dK [] 0),fp⟩
 have loop:lQ (model X.prog X.w) X.A (.compLoop (.DictComp kx vx [⟨tg,iter,ifs,0⟩] scope pos) 0 (.ref it) (.ref s2.heap.objs.size) (Ul scope cl (s2.heap.push {cls:=.type "dict",dict:=aj,data:=.dict #[]}).objs.size X.env))
   (RR (.ref s2.heap.objs.size) (s2.heap.push {cls:=.type "dict",dict:=aj,data:=.dict #[]}).objs.size) {s2 with heap:=h₁,toks:=s2.toks+([]:List (Str×aN)).length}:=by
  refine Um (X:=X.blk (NT++NF) scope cl (s2.heap.push {cls:=.type "dict",dict:=aj,data:=.dict #[]}).objs.size {s2 with heap:=s2.heap.push {cls:=.type "dict",dict:=aj,data:=.dict #[]}} (upd H2 s2.heap.objs.size (.dK [] 0)) fp)
   (T:=T) (fs:=frees js σ) (done:=Q) rfl (ajo kx vx tg iter ifs scope pos _ _ _) rfl rfl rfl tk rfl B.nd hc (λx hx=>ZK (B.tg x hx)) i1 (aoD hu i2 i3) TT (λb hb=>?_) I4 Ak (q _) λH' s' σ' J' qd=>?_
  .exact⟨(f3 b hb).1,fQ (Aj b hb),λhb2=>by
    rcases bW.mp (I3.Ey b hb2) with z|z
    .exact(f3 b hb).2.1 z
    .exact(f3 b hb).2.2.1 z,.inl hb,λx c e=>(f3 b hb).2.2.2.2.1 x c (q2 x c e),λp hp=>(nomatch(show p∈([]:List (aC×Obj)) from hp))⟩
  .obtain⟨m,hn,_⟩:=J'.loc
   exact hR _ H' s' m (I3.Xy f3 J') (I3.wO (cz _) J'.free) hn qd
 exact codeAny_compStart_dict loop (TT.self _ 0 _ _ _ Ak loop)
theorem ak9(B:rP X NT NF js scope)(tk:qO tg NT T)(hc:X.calm=aq)(hu:X.A.units+1<iM)(hi:PI X tg iter wi)
  (hin:∀b,pO (X.bk (NT++NF) scope b) ifs (ts b)/\PE (X.bk (NT++NF) scope b) kx (tk' b)/\PE (X.bk (NT++NF) scope b) vx (tv b))
  (hsw:sW (.DictComp kx vx [⟨tg,iter,ifs,0⟩] scope pos) (aa (.Name y pos')) spos.line X.env=pure aq)
  (hN:X.N.Nodup)(hI:X.N[i]?=aa y)(hy:X.env.scope.names.lookup y=aa .local)
  (hs:∀x,vD iter X.env x=pure x:=by intro _;rfl):PS X (.Assign [.Name y pos'] (.DictComp kx vx [⟨tg,iter,ifs,0⟩] scope pos) spos) (CP (tDC X.K wi T ts tk' tv js) (uN i)):=by
 intro au s σ H D I h
 obtain⟨cl,hclos,q2,q3⟩:=Lq (ao:=X.env) (scope:=scope) λy hy e=>I.ok.has y.1 (B.free y hy e)
 rw[ahe _ _ _ _ hsw];refine aF (xM (aF ?_));show aW _ X.A (do let _ <-aaE (.DictComp kx vx [⟨tg,iter,ifs,0⟩] scope pos) scope X.env _ (newDict) aM (eval iter X.env) (aa (assign (.Name y pos') X.env))) _ _ s;refine aF (sO (Ra (use:=aa (assign (.Name y pos') X.env)) (Q:=λ_ s'=>SP X au D .next s') rfl hs hclos B.kind B.names
  (bY (hi au s σ H _ I h) λv s1 h1=>bY h1 λitv s2 ⟨it,fp,tn,J,H2,e,I2,TT,st2,f2,q⟩=>?_)) (λ_ s' hq=>bA (bA hq)) λ_ _ e=>e)
 subst e;refine aoE (hu:=hu) (Q:=λH'=>D.nx (σ.set i (aa (.ref s2.heap.objs.size))) H') (RR:=λbu C=>Uo (model X.prog X.w) X.A X.xe (aa (assign (.Name y pos') X.env)) (λ_ s'=>SP X au D .next s') bu C) B tk hc (hin:=hin) q2 q3 I2 TT st2 f2 (q _ (I2.hok.fresh (cz _))) λC H' s' m I' fC hn qd=>?_
 show aW _ X.A (assign (.Name y pos') X.env (.ref s2.heap.objs.size)) _ _ _;refine Kr (Tj I' hN hI (.inl hy) (v:=.ref s2.heap.objs.size) rfl (λs3 I3 aY=>?_) (.inr hy))
 obtain⟨a,sb,ha⟩:=aY
 have YH:C≠a:=by
  rcases ha with z|z
  .rw[z];exact fC.2.1
  .exact λw=>fC.2.2.2.2.1 y a z w.symm
 refine⟨m,hn.sameBut sb YH,λh' sb'=>⟨_,H',?_,qd⟩⟩
 exact I3.turned (t':=s3.toks) (λb o hb e=>(sb'.2 b hb).trans e) fC.1 fC.2.1 fC.2.2.2.1 fC.2.2.2.2.1 fC.2.2.2.2.2
end
section
variable{X:Cx}
theorem amL{K:aZ}{t:aN}(e1:Dz K t c=aa p)(e2:Dz K t d=aa q):Ry K t [c,d]=aa (p||q):=by
 unfold Ry;rw[e1];cases p with
 |true=>rfl
 |false=>
  unfold Ry;rw[e2];cases q with
  |true=>rfl
  |false=>rfl
end
theorem Inv.Nf{X:Cx}{σ:St}{H H':Hp}{h':cg}{t':Nat}{ch:List aC}(I:Inv X au σ H s)(k:∀b o,b∉ch->s.heap.get? b=aa o->h'.get? b=aa o)(hf:∀b∈ch,kO X au H b)
  (hs:cH H H')(hfr:∀b o,s.heap.get? b=aa o->H b=aj->H' b=aj)(hn:∀b u,H' b=aa u->H b=aa u\/f9 X.prog X.w H' h' b u):Inv X au σ H' {s with heap:=h',toks:=t'}:=by
 have JM:∀b u,H b=aa u->b∉ch:=λb u e z=>by rw[(hf b z).1] at e;cases e
 refine I.step (g':=s.gens) (d':=s.drawn) (ch:=ch) (λb hb=>⟨(hf b hb).2.2.2.1,(hf b hb).2.1,(hf b hb).2.2.2.2.1,(hf b hb).2.2.2.2.2⟩) (λb o _ _ hc e _=>k b o hc e) (λb o _ _ hc e _=>⟨o.slots,k b o hc e⟩) (λb o _ e n=>hfr b o e n)
  (λb o hc e=>⟨o,k b o hc e⟩) (λ_ _ e=>hs _ _ e) (λ_ _ _ e=>hs _ _ e) (λb ps e=>⟨#[],by rw[hs _ _ e];simp⟩) (λm hm=>?_) (λb u e=>?_) I.bare
 .obtain⟨o,es,ep,ho,r⟩:=hm
  exact⟨o,es,ep,k _ o (λz=>(hf _ z).2.1 rfl) ho,r⟩
 .rcases hn b u e with z|z
  .refine(I.hok b u z).stay (λc v hc q=>k c v ?_ q) (λ_ q=>hs _ _ q) λ_ _ q=>hs _ _ q
   rcases hc with y|y
   .rw[y];exact JM b u z
   .exact JM c _ y
  .exact z
def YK(K:aZ)(a b:aC):It:=⟨λi H=>∃xs ys,cj K H a xs/\cj K H b ys/\i<min xs.length ys.length,
 λi H v H'=>∃p x y,H p=aj/\v=.ref p/\H'=upd H p (.tup [x,y])/\∀xs ys,cj K H a xs->cj K H b ys->xs[i]?=aa x/\ys[i]?=aa y,
 λi H=>∃xs ys,cj K H a xs/\cj K H b ys/\i=min xs.length ys.length⟩
theorem ala{P:fj}{w:c7}{K:aZ}{es:List Expr}{k:Nat}{ps:Pos}{a b z TI TO i1 i2:aC}(D:Uq z TI TO i1 i2 a b):
  Turn P w K (.Tuple es k ps) (YK K a b) [z,TI,TO,i1,i2] z (λi h=>tU h z TI TO .none/\pG h TI (.ref i1) (.ref i2)/\(∃c d,pG h TO c d)/\h.IsListIter i1 a i/\h.IsListIter i2 b i) where
 mem:=bI
 obj:=λi h st c hc=>by
  obtain⟨h1,h2,⟨_,_,h3⟩,⟨o4,e4,_,d4⟩,⟨o5,e5,_,d5⟩⟩:=st
  simp only[bW,iT,or_false] at hc;rcases hc with rfl|rfl|rfl|rfl|rfl
  .exact⟨_,h1,λv q=>by cases q⟩
  .exact⟨_,h2,λv q=>by cases q⟩
  .exact⟨_,h3,λv q=>by cases q⟩
  .exact⟨_,e4,λv q=>by rw[d4] at q;cases q⟩
  .exact⟨_,e5,λv q=>by rw[d5] at q;cases q⟩
 keep:=λi h h' st kk=>by
  obtain⟨h1,h2,⟨c,d,h3⟩,h4,h5⟩:=st
  exact⟨kk z bI _ h1,kk TI bI _ h2,⟨c,d,kk TO bI _ h3⟩,h4.at λo e=>kk i1 bI o e,h5.at λo e=>kk i2 bI o e⟩
 item:=by
  intro X hP hw hK hc i au s σ H E I hf st hg;subst hP hw hK
  obtain⟨xs,ys,ha,hb,hi⟩:=hg
  obtain⟨aK,r1,p1,_⟩:=I.list ha
  obtain⟨its2,r2,p2,_⟩:=I.list hb
  have l1:=r1.length;have l2:=r2.length;have W:=ai7 (prog:=X.prog) (w:=X.w) (A:=X.A) (I.ok.hd hc) z TI TO i1 i2 a b D aK.toArray its2.toArray
  obtain⟨s1,s2,s3,s4,s5⟩:=st
  refine W.item i s _ E (by simp;lia) ⟨s1,s2,s3,s4,s5,p1.isList,p2.isList⟩ λT vals h' tk hv hT ht hm kk=>?_
  obtain⟨x,y,hx,hy,rfl⟩:=hv
  refine⟨_,rfl,W.go es k ps i T _ _ E hm λh2 st2 mX=>?_⟩
  have gx:xs[i]?=aa (xs.getD i .non):=by
   have:i<xs.length:=az;simp[pY,this]
  have gy:ys[i]?=aa (ys.getD i .non):=by
   have:i<ys.length:=az;simp[pY,this]
  obtain⟨u1,hu1,q1⟩:=r1.get gx
  obtain⟨u2,hu2,q2⟩:=r2.get gy
  have ex:u1=x:=by
   have:aK[i]?=aa x:=by simpa using hx
   rw[hu1] at this;exact jy this
  have ey:u2=y:=by
   have:its2[i]?=aa y:=by simpa using hy
   rw[hu2] at this;exact jy this
  subst ex ey;have wf:∀c,c∈[z,TO,i1,i2]->kO X au H c:=λc hc=>hf c (by simp at hc⊢;rcases hc with rfl|rfl|rfl|rfl<;>simp)
  have JV:H T=aj:=I.hok.fresh hT;have nT:T∉[z,TO,i1,i2]:=W.apart i T _ hm;have kT:h2.get? T=h'.get? T:=by
   obtain⟨o,e,_⟩:=id ht
   rw[mX T o nT e];exact e.symm
  obtain⟨oT,eT,cT,nT',dT⟩:=id ht
  refine⟨.ref T,upd H T (.tup [xs.getD i .non,ys.getD i .non]),I.Nf (λc o hc e=>mX c o hc (kk c o hc e)) wf (cH.upd JV) (λc o e n=>?_) (λc u e=>?_),rfl,⟨T,_,_,JV,rfl,rfl,λxs' ys' h1 h2=>?_⟩,?_,λc hc=>?_⟩
  .rw[cP]
   .exact n
   .intro z;subst z;exact absurd (cG e) (Hi.mpr hT)
  .by_cases JW:c=T
   .subst JW;rw[eV] at e;cases e;refine .inr ⟨by show 2<=cJ;decide,[u1,u2],.cons q1 (.cons q2 .nil),oT,kT.trans eT,cT,nT',by simpa using dT⟩
   .rw[cP JW] at e;exact .inl e
  .rw[I.Uh h1 ha,I.Uh h2 hb]
   exact⟨gx,gy⟩
  .exact⟨st2.1,st2.2.1,st2.2.2.1,st2.2.2.2.1,st2.2.2.2.2.1⟩
  .rw[cP]
   .exact(hf c hc).1
   .intro z;subst z
    obtain⟨o,e,_⟩:∃o,s.heap.get? c=aa o/\True:=by
     simp only[bW,iT,or_false] at hc
     obtain⟨c1,d1,s3⟩:=s3
     obtain⟨o4,e4,_⟩:=s4
     obtain⟨o5,e5,_⟩:=s5
     rcases hc with rfl|rfl|rfl|rfl|rfl
     .exact⟨_,s1,trivial⟩
     .exact⟨_,s2,trivial⟩
     .exact⟨_,s3,trivial⟩
     .exact⟨_,e4,trivial⟩
     .exact⟨_,e5,trivial⟩
    exact absurd (cG e) (Hi.mpr hT)
 done:=by
  intro X hP hw hK hc i au s σ H E I hf st hg;subst hP hw hK
  obtain⟨xs,ys,ha,hb,hi⟩:=hg
  obtain⟨aK,r1,p1,_⟩:=I.list ha
  obtain⟨its2,r2,p2,_⟩:=I.list hb
  have l1:=r1.length;have l2:=r2.length;have W:=ai7 (prog:=X.prog) (w:=X.w) (A:=X.A) (I.ok.hd hc) z TI TO i1 i2 a b D aK.toArray its2.toArray
  obtain⟨s1,s2,s3,s4,s5⟩:=st
  have e:i=min aK.toArray.size its2.toArray.size:=by simp;lia
  subst e;refine W.done s _ E ⟨s1,s2,s3,s4,s5,p1.isList,p2.isList⟩ λh' tk kk=>⟨rfl,?_⟩
  have wf:∀c,c∈[z,TO,i1,i2]->kO X au H c:=λc hc=>hf c (by simp at hc⊢;rcases hc with rfl|rfl|rfl|rfl<;>simp)
  exact I.Nf kk wf (cH.refl H) (λ_ _ _ n=>n) λ_ _ e=>.inl e
 self:=λ_ _ _ _ _ st h=>Rm st.1 h
def aqR(K:aZ)(t:TA):TI:=λσ H R=>t σ H λvs H1=>∃a b xs ys,vs=[.ref a,.ref b]/\cj K H1 a xs/\cj K H1 b ys/\R (YK K a b) H1
theorem aoF{X:Cx}{es:List Expr}{k:Nat}{ps:Pos}{t:TA}{p pos:Pos}(hg:Gl X "zip")(hm:X.mg "zip"=aj)(ha:PA X [x,y] t)(hs:bR [x,y] X.env=[(aM,eval x X.env),(aM,eval y X.env)]:=by rfl)(hs2:bR [y] X.env=[(aM,eval y X.env)]:=by rfl):
  PI X (.Tuple es k ps) (.Call (.Name "zip" p) [x,y] [] pos) (aqR X.K t):=by
 intro au s σ H R I h;refine Call_ (zH I hg hm ahf (Q0 (bY (ha pos au s σ H _ I h) λus s1 aY=>?_) (by rw[hs,hs2]) (by rw[hs2];rfl)))
 obtain⟨vs,H1,I1,r1,q1⟩:=aY
 obtain⟨a,b,xs,ys,e,h1,h2,q⟩:=q1
 subst e;cases r1 with
 |cons r rr=>
  cases rr with
  |cons r' rr=>
   cases rr;cases r;cases r'
   obtain⟨aK,v1,p1,_⟩:=I1.list h1
   obtain⟨its2,v2,p2,_⟩:=I1.list h2
   have YL:a<s1.heap.objs.size:=by obtain⟨_,e,_⟩:=p1.isList;exact cG e
   have t8:b<s1.heap.objs.size:=by obtain⟨_,e,_⟩:=p2.isList;exact cG e
   refine call_zip_2 p1.isList p2.isList λh' g1 g2 g3 g4 g5 hsz kk=>?_
   refine Rm g1 ?_;have I2:Inv X au σ H1 {s1 with heap:=h'}:=I1.kept (t':=s1.toks) kk
   refine⟨s1.heap.objs.size+4,[s1.heap.objs.size+4,s1.heap.objs.size+2,s1.heap.objs.size+3,s1.heap.objs.size,s1.heap.objs.size+1],_,_,H1,rfl,I2,ala (zipApart_new YL t8),⟨g1,g2,⟨_,_,g3⟩,g4,g5⟩,λc hc=>?_,q⟩
   refine I1.wO ?_ (I1.hok.fresh ?_)
   all_goals
    simp only[bW,iT,or_false] at hc;rcases hc with rfl|rfl|rfl|rfl|rfl<;>lia
theorem ajp(I:Inv X au σ H s)(rx:RelV x u)(ty:oV X.K H x t)(e:Ry X.K t aK=aa b)
  (hc:s.heap.IsTuple c aK.toArray)(h:∀tk,Q (.bool b) {s with toks:=tk}):aW (model X.prog X.w) A (call (.builtin "isinstance") [u,.ref c]) Q E s:=by
 obtain⟨⟨oc,od,oda,osl⟩,g1,g2,g3,g4⟩:=hc
 simp only at g2 g4;subst g2 g4;cases ty with
 |non=>cases(show u=j4 from rx);exact vI ahJ I.jL oH g1 e (λz=>nomatch z) h
 |bl y=>cases(show u=vM y from rx);exact vI ahK I.jL oH g1 e (λz=>nomatch z) h
 |int i=>obtain⟨t,q⟩:=(show ∃t,u=Bt i t from rx);cases q;exact vI ahY I.jL oH g1 e (λz=>nomatch z) h
 |str y=>obtain⟨t,q⟩:=(show ∃t,u=LQ y t from rx);cases q;exact vI ahZ I.jL oH g1 e (λz=>nomatch z) h
 |flt y=>obtain⟨t,q⟩:=(show ∃t,u=aa3 y t from rx);cases q;exact vI ahB I.jL oH g1 e (λz=>nomatch z) h
 |@lst a xs ea=>
  cases(show u=dF a from rx)
  obtain⟨_,_,n,_,h1⟩:=(show f9 X.prog X.w H s.heap a (.lst xs) from I.hok a _ ea)
  exact vI Rg I.jL ⟨_,h1,rfl⟩ g1 e (λz=>nomatch z) h
 |@pM a ob xs ea=>
  cases(show u=dF a from rx)
  obtain⟨_,_,_,n,_,h1⟩:=(show f9 X.prog X.w H s.heap a (.pM ob (.lst xs)) from I.hok a _ ea)
  exact vI Rg I.jL ⟨_,h1,rfl⟩ g1 e (λz=>nomatch z) h
 |@tup a xs ea=>
  cases(show u=dF a from rx)
  obtain⟨_,_,_,p⟩:=(show f9 X.prog X.w H s.heap a (.tup xs) from I.hok a _ ea)
  obtain⟨o,h1,h2,_⟩:=p
  exact vI ahC I.jL ⟨o,h1,h2⟩ g1 e (λz=>nomatch z) h
 |@dK a aA epo ea=>
  cases(show u=dF a from rx)
  obtain⟨_,_,vs,_,p⟩:=(show f9 X.prog X.w H s.heap a (.dK aA epo) from I.hok a _ ea)
  obtain⟨o,es,h1,h2,_⟩:=p
  exact vI Rh I.jL ⟨o,h1,h2.1⟩ g1 e (λz=>nomatch z) h
 |@dT a aA epo ea=>
  cases(show u=dF a from rx)
  obtain⟨_,_,xs,_,o,es,h1,h2,_⟩:=(show f9 X.prog X.w H s.heap a (.dT aA epo) from I.hok a _ ea)
  exact vI Rh I.jL ⟨o,h1,h2.1⟩ g1 e (λz=>nomatch z) h
 |@ins a C dx fs ea cl ha hn htk hm=>
  cases(show u=dF a from rx)
  obtain⟨mA,O,_⟩:=adu I.hok ea
  obtain⟨od,J,_⟩:=O.look
  exact vI (ah0 (cl.get _) cl.hd ha hn htk hm) I.jL J g1 e (λz=>nomatch z) h
theorem aiR:iY X (.builtin "isinstance") (λxs H Q=>∃x c m n t p q,xs=[x,.ref c]/\H c=aa (.tup [.ty m,.ty n])/\oV X.K H x t/\Dz X.K t (.type m)=aa p/\Dz X.K t (.type n)=aa q/\Q (.bl (p||q)) H):=by
 intro au s σ H xs us Q I r h
 obtain⟨x,c,m,n,t,p,q,rfl,hc,ty,e1,e2,k⟩:=h
 obtain⟨u,u2,rfl,r1,r2⟩:=vals2 r
 cases r2
 obtain⟨_,aK,rv,ob,g1,g2,g3⟩:=(show f9 X.prog X.w H s.heap c (.tup [.ty m,.ty n]) from I.hok c _ hc)
 cases rv with
 |cons a1 rv=>
  cases rv with
  |cons a2 rv=>
   cases rv;cases a1;cases a2;exact ajp I r1 ty (amL e1 e2) ⟨ob,g1,g2,g3⟩ λtk=>⟨.bl (p||q),H,I.tok tk,rfl,k⟩
end L2
namespace L2
open PySem PySem.Spec PyProof.Rows PySem.W
section
variable{N:Nat}{lt:Nat->Nat->Bool}{α β:Type}
def dH(N:Nat)(lt:Nat->Nat->Bool):KasT α->(α->Prop)->Prop
 |.ret a,R=>R a
 |.ask i j k,R=>i<N/\j<N/\dH N lt (k (lt i j)) R
theorem dH.mono:∀{t:KasT α},dH N lt t R->(∀a,R a->S a)->dH N lt t S
 |.ret a,h,f=>f a h
 |.ask i j k,h,f=>⟨h.1,h.2.1,dH.mono h.2.2 f⟩
theorem dH.bind:∀{t:KasT α},dH N lt t (λa=>dH N lt (f a) R)->dH N lt (t.bind f) R
 |.ret a,h=>h
 |.ask i j k,h=>⟨h.1,h.2.1,dH.bind h.2.2⟩
theorem dH.wp(ask:∀i j,i<N->j<N->∀C:Bool->bh->Prop,C (lt i j) s->cmp i j C s)(q:∀a,R a->Q a s):∀{t:KasT α},dH N lt t R->t.kasWp cmp Q s
 |.ret a,h=>q a h
 |.ask i j k,h=>ask i j h.1 h.2.1 _ (dH.wp ask q h.2.2)
def KP(N:Nat)(p:Array Nat):Prop:=p.toList.Perm (gG N)
theorem KP.ix(h:KP N p)(h0:0<N)(i:Nat):p.getD i 0<N:=by
 by_cases hi:i<p.size
 .have:p.getD i 0∈p.toList:=by simp[ajq,hi]
  exact vJ.mp (h.mem_iff.mp this)
 .simpa[ajq,hi] using h0
theorem KP.rev(h:KP N p)(i j:Nat):KP N (kas_rev p i j):=((mirror_perm p i j _).toList).trans h
theorem KP.bub(h:KP N p)(i j:Nat):KP N (bubble p i j):=((bubble_perm p i j).toList).trans h
theorem WY(h:KP N p)(h0:0<N):∀f n,dH N lt (kas_asc p f n) λ_=>True
 |0,n=>trivial
 |f+1,n=>by
  refine⟨h.ix h0 _,h.ix h0 _,?_⟩
  dsimp only;split
  .exact trivial
  .exact WY h h0 f (n+1)
theorem Ng(h0:0<N):∀f (p:Array Nat) n q,KP N p->dH N lt (kas_desc f p n q) λr=>KP N r.1
 |0,p,n,q,h=>h
 |f+1,p,n,q,h=>by
  refine⟨h.ix h0 _,h.ix h0 _,?_⟩
  dsimp only;split
  .split
   .exact Ng h0 f _ _ _ (h.rev _ _)
   .exact Ng h0 f _ _ _ h
  .refine⟨h.ix h0 _,h.ix h0 _,?_⟩
   dsimp only;split
   .exact h
   .exact Ng h0 f _ _ _ h
theorem acu(h0:0<N)(h:KP N p)(n nrem:Nat):dH N lt (kas_tail3 n nrem p) λr=>KP N r.2:=
 dH.bind (dH.mono (WY (h.rev 0 n) h0 _ _) λ_ _=>h.rev 0 n)
theorem aa7(h0:0<N)(h:KP N p)(n nrem:Nat):dH N lt (kas_descPart n nrem p) λr=>KP N r.2:=by
 refine dH.bind (dH.mono (Ng h0 _ p _ _ h) λr hr=>?_);split
 .exact acu h0 (KP.rev hr _ _) _ _
 .exact acu h0 hr _ _
theorem alb(h0:0<N)(h:KP N p)(nrem:Nat):dH N lt (kas_count nrem p) λr=>KP N r.2:=by
 refine dH.bind (dH.mono (WY h h0 _ _) λn _=>?_);split
 .exact h
 .split
  .refine⟨h.ix h0 _,h.ix h0 _,?_⟩
   dsimp only;split
   .exact h
   .exact aa7 h0 (h.rev _ _) _ _
  .exact aa7 h0 h _ _
theorem Ur(h0:0<N)(h:KP N p)(k:Nat):∀f l r,dH N lt (kas_place p k f l r) λ_=>True
 |0,l,r=>trivial
 |f+1,l,r=>by
  unfold kas_place;split
  .exact trivial
  .refine⟨h.ix h0 _,h.ix h0 _,?_⟩
   dsimp only;split
   .exact Ur h0 h k f _ _
   .exact Ur h0 h k f _ _
theorem aeG(h0:0<N):∀f (p:Array Nat) k,KP N p->dH N lt (kas_bin f p k) (KP N)
 |0,p,k,h=>h
 |f+1,p,k,h=>dH.bind (dH.mono (Ur h0 h k _ _ _) λl _=>aeG h0 f _ _ (h.bub _ _))
theorem adC(h0:0<N):dH N lt (kas_sort N) (KP N):=by
 refine dH.bind (dH.mono (alb h0 (p:=aiS (gG N)) (yX _) N) λr hr=>?_);split
 .exact aeG h0 _ _ _ hr
 .exact hr
end
def kLt:Key->Key->Bool
 |.inl i,.inl j=>decide (i<j)
 |.inr x,.inr y=>decide (x.cps.toList<y.cps.toList)
 |_,_=>aM
def dO:List Key->List Key->Bool
 |a::r,b::t=>if a=b then dO r t else kLt a b
 |_,_=>aM
def cA:Key->Bool
 |.inl _=>aq
 |.inr _=>aM
theorem acv(ra:RelV (kV a) u)(rb:RelV (kV b) v)(ht:cA a=cA b)(h:Q (kLt a b) s):aW (model prog w) A (oneLt' f u v) Q E s:=by
 cases a with
 |inl i=>
  cases b with
  |inr y=>cases ht
  |inl j=>
   obtain⟨t,rfl⟩:=ra
   obtain⟨t',rfl⟩:=rb
   cases f with
   |true=>exact oneLt_int h
   |false=>exact kat_one _ _ (lt_int h)
 |inr x=>
  cases b with
  |inl y=>cases ht
  |inr y=>
   obtain⟨t,rfl⟩:=ra
   obtain⟨t',rfl⟩:=rb
   cases f with
   |true=>exact oneLt_str h
   |false=>exact kat_one _ _ (lt_str h)
theorem VH(ht:cA a=cA b):u6 (kV a) (kV b)=decide (a=b):=by
 cases a with
 |inl i=>
  cases b with
  |inr y=>cases ht
  |inl j=>show(i==j)=_;rw[uh];simp
 |inr x=>
  cases b with
  |inl y=>cases ht
  |inr y=>show(x==y)=_;rw[uh];simp
theorem Ej(a:Key):rO (kV a)=aq:=by cases a<;>rfl
theorem acw:∀{ks js:List Key}{us vs:List aN}{i:Nat},Vals (ks.map kV) us->Vals (js.map kV) vs->ks.map cA=js.map cA->Q (dO ks js) s->KatLex prog w A aq aM Q (us.zip vs) i s
 |[],[],_,_,_,ra,rb,_,h=>by
  cases ra;cases rb;exact kat_nil h
 |[],_::_,_,_,_,_,_,e,_=>by cases e
 |_::_,[],_,_,_,_,_,e,_=>by cases e
 |a::ks,b::js,us,vs,i,ra,rb,e,h=>by
  cases ra with
  |cons r1 ra=>
   cases rb with
   |cons r2 rb=>
    have e1:cA a=cA b:=(uo e).1;have e2:=(uo e).2;refine kat_cons (Om r1 r2 (Ej a) (Ej b) prog w _ _ ?_);rw[VH e1];unfold dO at h;by_cases hab:a=b
    .rw[bG hab] at h;rw[gr hab];exact kat_yes (acw ra rb e2 h)
    .rw[bH hab] at h;rw[iR hab];exact kat_no (acv r1 r2 e1 h)
section
variable{prog:fj}{w:c7}{A:gV}{s:bh}{vs:List aN}{κ:SortKind}{Rl:List Nat->Prop}
def Kp(a:aC)(h h':cg):Prop:=∀b o,b≠a->h.get? b=aa o->h'.get? b=aa o
theorem ajr(ho:s.heap.get? a=aa (seqObj "list" vs.toArray n))(h64:vs.length<64)(hg:2<=vs.length->dH vs.length lt (kas_sort vs.length) λp=>KP vs.length p/\Rl p.toList)(hsm:vs.length<2->Rl (gG vs.length))
  (hk:2<=vs.length->∀s':bh,Kp a s.heap s'.heap->∀Q:SortKind->bh->Prop,Q κ s'->aW (model prog w) A (keyKind' vs.toArray) Q (λ_ _=>False) s')
  (hl:2<=vs.length->∀s':bh,Kp a s.heap s'.heap->∀i j,i<vs.length->j<vs.length->∀C:Bool->bh->Prop,C (lt i j) s'->kas_ask prog w A κ vs i j C s')
  (h:∀(p:List Nat)(h':cg)(c:Nat),p.Perm (gG vs.length)->Rl p->Kp a s.heap h'->h'.get? a=aa (seqObj "list" (p.map λi=>vs.getD i j4).toArray c)->P (.done (.ret .none)) {s with heap:=h'}):
  aW (model prog w) A (oK.«list.sort» ⟨[.ref a],[]⟩) P E s:=by
 have lta:a<s.heap.objs.size:=cG ho
 obtain⟨e1,ho1⟩:∃e1,(s.heap.update a (oJ λ_=>(#[]:Array aN))).get? a=aa (seqObj "list" #[] e1):=⟨_,get?_update_seq ho λ_=>#[]⟩
 have sz:vs.length<=cJ:=by rw[jQ];lia
 have kp:Kp a s.heap (((s.heap.update a (oJ λ_=>(#[]:Array aN))).push (seqObj "tuple" vs.toArray 0)).push (seqObj "list" #[] 0)):=λb o hb e=>
  cD _ (cD _ (((rA s.heap a _).2 b hb).trans e))
 have JX:(((s.heap.update a (oJ λ_=>(#[]:Array aN))).push (seqObj "tuple" vs.toArray 0)).push (seqObj "list" #[] 0)).get? a=aa (seqObj "list" #[] e1):=cD _ (cD _ ho1);rw[list_sort_plain];refine aF (listItems_at ho rfl (aF (listUpdate_at ho rfl (aF (seqEpoch_at ho1 rfl (aF (wpAny_newTuple (aF (RJ (nj ?_) (lC _))) (by show vs.length<=_;exact sz))))) (by rw[gZ];exact sz) (lC _))));show aW (model prog w) A _ P E {s with heap:=((s.heap.update a (oJ λ_=>(#[]:Array aN))).push (seqObj "tuple" vs.toArray 0)).push (seqObj "list" #[] 0)};dsimp only;have fin:∀(p:List Nat),p.Perm (gG vs.length)->Rl p->∀out:Array aN,out=(p.map λi=>vs.getD i j4).toArray->
   P (.done (.ret .none)) {s with heap:=(((s.heap.update a (oJ λ_=>(#[]:Array aN))).push (seqObj "tuple" vs.toArray 0)).push (seqObj "list" #[] 0)).update a (oJ λ_=>out)}:=λp hp hrl out eo=>by
  subst eo;refine h p _ _ hp hrl (λb o hb e=>((rA _ a _).2 b hb).trans (kp b o hb e)) (get?_update_seq JX _)
 by_cases h2:vs.toArray.size<2
 .rw[bG h2,bG h2];refine aF (bA ?_);rw[StateT.run_pure];refine aF (bA ?_);dsimp only;have hz:(pairsOf vs).size<=cJ:=by rw[pairsOf_size];exact sz
  refine aF (seqEpoch_at JX rfl (aF (listUpdate_at JX rfl ?_ (hsz2:=by rw[Array.size_map];show(pairsOf vs).size<=_;lia))));simp only[bne_self_eq_false,pW,if_false];refine bA (fin (gG vs.length) (yX _) (hsm (by simpa using h2)) _ ?_);apply Array.toList_inj.mp
  show((vs.toArray.zip vs.toArray).map (·.2)).toList=_
  rw[Array.toList_map,Array.toList_zip,List.map_snd_zip (cz _)];show vs=_;refine Kz bI λi h1 h3=>?_
  simp[pY,h1]
 .have h2':2<=vs.length:=by simpa using h2
  rw[bH h2,bH h2];refine aF (sO (hk h2' _ kp (λk s'=>k=κ/\s'={s with heap:=((s.heap.update a (oJ λ_=>(#[]:Array aN))).push (seqObj "tuple" vs.toArray 0)).push (seqObj "list" #[] 0)}) ⟨rfl,rfl⟩) (λk s0 hk0=>?_) λ_ _ x=>x.elim)
  obtain⟨rfl,rfl⟩:=hk0
  refine aF (sO (kat_run (ks:=vs) (vs:=vs) (Q:=λst' s'=>∃p:Array Nat,(KP vs.length p/\Rl p.toList)/\arrOf st'=p.map (kas_item (vs.toArray.zip vs.toArray))/\failedOf st'=aj/\s'={s with heap:=((s.heap.update a (oJ λ_=>(#[]:Array aN))).push (seqObj "tuple" vs.toArray 0)).push (seqObj "list" #[] 0)})
   rfl h2' h64 (G:=λp s'=>(KP vs.length p/\Rl p.toList)/\s'={s with heap:=((s.heap.update a (oJ λ_=>(#[]:Array aN))).push (seqObj "tuple" vs.toArray 0)).push (seqObj "list" #[] 0)}) (λp st' s' a1 a2 a3 a4=>⟨p,a4.1,a2,a3,a4.2⟩) (dH.wp (lt:=lt) (hl h2' _ kp) (λp hp=>⟨hp,rfl⟩) (hg h2'))) ?_ λ_ _ e=>e)
  rintro⟨⟨⟩,st'⟩ s' ⟨p,⟨hp,hrl⟩,har,hf,rfl⟩
  dsimp only;have hout:=kat_snds (ks:=vs) (vs:=vs) rfl har;have hps:p.toList.length=vs.length:=by rw[hp.length_eq,pC]
  rw[hout];refine aF (seqEpoch_at JX rfl (aF (listUpdate_at JX rfl ?_ (lC _) (by rw[gZ,bJ,hps];lia))));rw[hf];simp only[bne_self_eq_false,pW,if_false];exact bA (fin p.toList hp hrl _ rfl)
theorem R4(h64:vs.length<64)(hg:2<=vs.length->dH vs.length lt (kas_sort vs.length) λp=>KP vs.length p/\Rl p.toList)(hsm:vs.length<2->Rl (gG vs.length))
  (hc:∀R:List aN->bh->Prop,(∀us h1 tk,s.heap.objs.size<=h1.objs.size->(∀b o,s.heap.get? b=aa o->h1.get? b=aa o)->us=vs->R us {s with heap:=h1,toks:=tk})->aW (model prog w) A.in1 (collect (.ref r)) R E s)
  (hk:2<=vs.length->∀s':bh,(∀b o,s.heap.get? b=aa o->s'.heap.get? b=aa o)->∀Q:SortKind->bh->Prop,Q κ s'->aW (model prog w) A.in1.in1 (keyKind' vs.toArray) Q (λ_ _=>False) s')
  (hl:2<=vs.length->∀s':bh,(∀b o,s.heap.get? b=aa o->s'.heap.get? b=aa o)->∀i j,i<vs.length->j<vs.length->∀C:Bool->bh->Prop,C (lt i j) s'->kas_ask prog w A.in1.in1 κ vs i j C s')
  (h:∀(p:List Nat)(D:aC)(h':cg)(c tk:Nat),p.Perm (gG vs.length)->Rl p->s.heap.objs.size<=D->(∀b o,s.heap.get? b=aa o->h'.get? b=aa o)->h'.get? D=aa (seqObj "list" (p.map λi=>vs.getD i j4).toArray c)->Q (.ref D) {s with heap:=h',toks:=tk}):
  aW (model prog w) A (call (.builtin "sorted") [.ref r]) Q E s:=by
 refine Zn kind_sorted plain_sorted entry_sorted (args_sorted1 _) ?_;unfold oK.«sorted»;refine aF (m:=abo "sorted" 1 1 _) (bA (aF (hc _ λus h1 tk hsz kk eu=>?_)));subst eu;refine aF (RJ ?_ (by rw[jQ];lia));have hoL:(h1.push (seqObj "list" us.toArray 0)).get? h1.objs.size=aa (seqObj "list" us.toArray 0):=gj _ rfl;have ltD:∀b o,s.heap.get? b=aa o->b≠h1.objs.size:=λb o e=>fQ (cG (kk b o e))
 have up:∀s':bh,Kp h1.objs.size (h1.push (seqObj "list" us.toArray 0)) s'.heap->∀b o,s.heap.get? b=aa o->s'.heap.get? b=aa o:=λs' k b o e=>k b o (ltD b o e) (cD _ (kk b o e))
 refine aF (nj (nQ slot_list_sort ⟨_,hoL,rfl⟩ entry_list_sort (ajr (κ:=κ) (lt:=lt) (s:={s with heap:=h1.push (seqObj "list" us.toArray 0),toks:=tk}) hoL h64 hg hsm (λh2 s' k=>hk h2 s' (up s' k)) (λh2 s' k=>hl h2 s' (up s' k)) λp h' c hp hrl k e=>⟨_,rfl,?_⟩) (args_list_sort _)));exact bA ⟨_,rfl,h p h1.objs.size h' c tk hp hrl hsz (up {s with heap:=h'} k) e⟩
end
def uX(h:cg)(d:aC)(es:Array Tt)(ep:Nat):Prop:=∃o,h.get? d=aa o/\o.ExactDict/\o.data=.dict es ep
section
variable{w:c7}{A:gV}{s:bh}{d it:aC}{ep i:Nat}
theorem uX.ty(h:uX s.heap d es ep):s.TypeIs (.ref d) "dict":=let ⟨o,ho,hc,_⟩:=h;⟨o,ho,hc.1⟩
theorem acy(hd:(d==sJ)=aM)(hm:uX s.heap d es ep)
  (hQ:Q (.ref s.heap.objs.size) {s with heap:=s.heap.push {cls:=.type "dict_keyiterator",data:=.fields #[.ref d,.int 0 0,.int es.size 0,.int ep 0]}}):aW (model prog w) A (Ez (.ref d)) Q E s:=by
 obtain⟨o,ho,hc,hdat⟩:=id hm
 have hT:=hm.ty;refine Z0 hT ah3 (nQ ah3 hT F.entry_dict_iter ?_ (F.args_dict_iter_1 _));unfold oK.«dict.__iter__»;refine aF ?_;unfold atB;refine aF (wpAny_notOrdered_dict hT ?_);show aW _ _ (pure (dF d)) _ _ s
 refine bA ?_;show aW _ _ (ahg d >>= _) _ _ s
 unfold ahg;rw[bH (by rw[hd];exact jm)];refine aF (bA (aF (Z1 ho hdat (aF (aah ho hdat ?_)))));refine aF (lZ (bA ⟨_,rfl,"dict_keyiterator",_,⟨_,gj _ rfl,rfl⟩,F.slot_dict_keyiterator_next.lookup,?_⟩));simpa[jo] using hQ
theorem acz(hit:s.heap.IsKeyIter it d i es.size ep)(hm:uX s.heap d es ep)(hlt:i<es.size)
  (hQ:∀h',h'.IsKeyIter it d (i+1) es.size ep->zb it s.heap h'->Q (aa es[i].key) {s with heap:=h'}):aW (model prog w) A (j6 (.ref it)) Q E s:=by
 obtain⟨o,ho,hc,hd⟩:=id hit;obtain⟨od,hod,hcd,hdd⟩:=id hm
 unfold j6;refine aF (Bh (uf (name:=bz "__next__") hit.typeIs QZ (nQ QZ hit.typeIs agV ?_ (agU _))));refine aF (bA ?_);refine aF ?_;refine aF ?_
 first|refine aF (QX hit.typeIs (bA (aF (Bf ho hd ?_))))|refine aF (Rb hit.typeIs (bA (aF (Bf ho hd ?_))))
 have own:agW "dict_keyiterator"=aM:=aR;simp only[own,pW,if_false];show aW _ _ (if(dF d==j4)=aq then _ else _) _ _ s
 rw[bH (show ¬((dF d==j4)=aq) from jm)];refine aF (bA (aF (Z1 hod hdd ?_)));rw[bH bI];refine aF (bA (aF (aah hod hdd ?_)));rw[bH bI];refine bA ?_;simp only[show ¬((i:Int)<0) from by lia,if_false,yW,lX hlt];refine aF ?_
 first|refine aF (QX hit.typeIs (bA (aF (ZD hit.typeIs ?_))))|refine aF (Rb hit.typeIs (bA (aF (ZD hit.typeIs ?_))))
 show aW _ _ (setField (.ref it) 1 (jo ((i:Int)+1)) >>= _) _ _ s;refine aF (xJ ho hd bI ?_);have hit':(s.heap.update it (aaF (·.setIfInBounds 1 (jo ((i:Int)+1))))).IsKeyIter it d (i+1) es.size ep:=⟨_,vA _ ho (ZF (GJ hd _)),(Z2 ..).trans hc,by rw[GJ hd];simp[jo]⟩
 refine aF (nj ?_);refine aF (ZD (s:={s with heap:=s.heap.update it (aaF (·.setIfInBounds 1 (jo ((i:Int)+1))))}) hit'.typeIs ?_);show aW _ _ (pure es[i].key) _ _ _;exact bA (bA ⟨_,rfl,bA (hQ _ hit' (rA ..))⟩)
theorem adD(hh:A.handled=aj)(hit:s.heap.IsKeyIter it d i es.size ep)(hm:uX s.heap d es ep)(hge:es.size<=i)
  (hQ:∀h',K9 it s.heap h'->Q aj {s with heap:=h'}):aW (model prog w) A (j6 (.ref it)) Q E s:=by
 obtain⟨o,ho,hc,hd⟩:=id hit;obtain⟨od,hod,hcd,hdd⟩:=id hm
 unfold j6;refine aF (Bh (uf (name:=bz "__next__") hit.typeIs QZ (nQ QZ hit.typeIs agV ?_ (agU _))));refine aF (bA ?_);refine aF ?_;refine aF ?_
 first|refine aF (QX hit.typeIs (bA (aF (Bf ho hd ?_))))|refine aF (Rb hit.typeIs (bA (aF (Bf ho hd ?_))))
 have own:agW "dict_keyiterator"=aM:=aR;simp only[own,pW,if_false];show aW _ _ (if(dF d==j4)=aq then _ else _) _ _ s
 rw[bH (show ¬((dF d==j4)=aq) from jm)];refine aF (bA (aF (Z1 hod hdd ?_)));rw[bH bI];refine aF (bA (aF (aah hod hdd ?_)));rw[bH bI];refine bA ?_;simp only[show ¬((i:Int)<0) from by lia,if_false,yW,Zx hge];refine aF ?_
 first|refine aF (QX hit.typeIs (bA ?_))|refine aF (Rb hit.typeIs (bA ?_))
 show aW _ _ (setField (.ref it) 0 .none >>= _) _ _ s;refine aF (xJ ho hd bI ?_);show aW _ _ (Iz (.type "StopIteration") [] >>= _) _ _ _;refine aF ?_;simp only[Iz,Us];refine aF (lZ ?_ (by size_fits));refine aF (m:=GZ _ _) (La (a:=j4) (by first|rfl|(simp only[GZ];rfl)) ?_);refine lZ ?_ (by size_fits);simp only[Ut];refine aF (aaG ?_);rw[show A.in1.handled=aj from hh];refine aF (bA (aa8 ?_));refine aF (Rn (T:="StopIteration") (b:=aq) ⟨_,gj _ rfl,rfl⟩ aau ?_);exact bA (hQ _ (((rA ..).extBut.push _).push _))
theorem akc(hh:A.handled=aj)(hne:d≠it):yg prog w A it [it,d] [it] es.size (λi v=>(es[i]?).map (·.key)=aa v) (λi h=>h.IsKeyIter it d i es.size ep/\uX h d es ep) where
 sub:=λb hb=>by simp at hb;simp[hb]
 frame:=λ_ _ _ st hk=>⟨st.1.at λo e=>hk it bI o e,let ⟨o,ho,r⟩:=st.2;⟨o,hk d bI o ho,r⟩⟩
 item:=λi s Q E hi st hQ=>acz st.1 st.2 hi λh' hit' hs'=>hQ _ h' s.toks (by simp[hi]) ⟨hit',let ⟨o,ho,r⟩:=st.2;⟨o,(hs'.2 d hne).trans ho,r⟩⟩ λb o hb e=>(hs'.2 b λz=>hb (by simp[z])).trans e
 done:=λs Q E st hQ=>adD hh st.1 st.2 (cz _) λh' he'=>hQ h' s.toks λb o hb e=>he' b o (λz=>hb (by simp[z])) e
 self:=λ_ _ _ _ st hQ=>ahm st.1 hQ
theorem amM(lo:(d==sJ)=aM):KdlSrc prog w "dict" d d es.size (λi v=>(es[i]?).map (·.key)=aa v) (λh=>uX h d es ep) where
 type:=λ_ hm=>hm.ty
 there:=λ_ hm=>let ⟨_,ho,_⟩:=hm;⟨cG ho,cG ho⟩
 keep:=λ_ _ hm hk=>let ⟨o,ho,r⟩:=hm;⟨o,hk d (.inl rfl) o ho,r⟩
 notList:=aR
 notTuple:=aR
 hint:=λ_ _ _ _ hm hq=>kdl_hint_dict hm.ty hq
 iter:=λ_ _ hh hm=>⟨_,_,(λ_ _ hq=>acy lo hm hq),akc hh (let ⟨_,ho,_⟩:=hm;fQ (cG ho)),⟨⟨_,gj _ rfl,rfl,rfl⟩,let ⟨o,ho,r⟩:=hm;⟨o,cD _ ho,r⟩⟩⟩
theorem aa9(K:KdlSrc prog w T r d n P OK)(hh:A.handled=aj)(hok:OK s.heap)(hn:n<=cJ)
  (h:∀(h':cg)(tk:Nat)(bu:Array aN),s.heap.objs.size<=h'.objs.size->(∀b o,s.heap.get? b=aa o->h'.get? b=aa o)->ItemsOf P bu n->R bu.toList {s with heap:=h',toks:=tk}):
  aW (model prog w) A (collect (.ref r)) R E s:=by
 have hlt:=K.there _ hok;unfold collect;refine aF (wpAny_runValue (xG entry_proto_collect' ?_));rw[xr agY _];show aW _ A.in1 (newList [] >>= λl=>again (.builtin "list.__iadd__" ⟨[l,.ref r],[]⟩)) _ _ s;refine aF (lZ ?_);refine bA ⟨uq Rc _,xG entry_list_iadd' ?_⟩;rw[xr Rc _];have hS:(s.heap.push {cls:=.type "list",data:=.seq ([]:List aN).toArray}).get? s.heap.objs.size=aa {cls:=.type "list",data:=.seq #[]}:=gj _ rfl;show aW _ A.in1 (Q3 (.ref s.heap.objs.size) (.ref r) (.ref s.heap.objs.size)) _ _ _;have key:=kdl_extend (A:=A) (s:={s with heap:=s.heap.push {cls:=.type "list",data:=.seq ([]:List aN).toArray}}) (R:=λ(q:zK)(s':bh)=>∃(h':cg)(tk:Nat)(acc':Array aN)(c':Nat),q=.ok (.ret (.ref s.heap.objs.size))/\s'={s with heap:=h',toks:=tk}/\(∀b o,s.heap.get? b=aa o->h'.get? b=aa o)/\h'.get? s.heap.objs.size=aa {cls:=.type "list",dict:=aj,data:=.seq acc' c',slots:=#[]}/\ItemsOf P acc' n)
  K hh (K.keep _ _ hok λb _ o e=>cD _ e) s.heap.objs.size (vK hlt.1) (vK hlt.2) (.ref s.heap.objs.size) 0 hS (λh' tk acc' c' hk hS' hacc=>⟨h',tk,acc',c',rfl,rfl,λb o e=>hk b o (fQ (cG e)) (cD _ e),hS',hacc⟩) hn
 refine sO key (λfin s' x=>?_) λe s' x=>?_
 .cases fin with
  |done f=>
   obtain⟨h',tk,acc',c',e,rfl,hk,hS',hacc⟩:=x
   cases e;show aW _ A (load s.heap.objs.size >>= _) _ _ _
   exact aF (Ln hS' (bA (h h' tk acc' (DN (cG hS')) hk hacc)))
  |again c₁=>
   refine⟨x.1,KZ x.2 λq s₂ y=>?_⟩
   obtain⟨h',tk,acc',c',rfl,rfl,hk,hS',hacc⟩:=y
   show aW _ A (load s.heap.objs.size >>= _) _ _ _;exact aF (Ln hS' (bA (h h' tk acc' (DN (cG hS')) hk hacc)))
 .obtain⟨_,_,_,_,e',_⟩:=x;cases e'
end
theorem Mf:∀{us:List aN}{ns:List Str},StrsAre us ns->Vals (ns.map V.str) us
 |_,_,.nil=>.nil
 |_,_,.cons _ t r=>.cons ⟨t,rfl⟩ (Mf r)
theorem ah4:iY X (.builtin "sorted") (λxs H Q=>∃(p:aC)(ns:List Int),xs=[.ref p]/\cj X.K H p (ns.map V.int)/\ns.length<64/\∀(l:aC)(ns':List Int),H l=aj->ns'.Perm ns->ns'.Pairwise (·<=·)->Q (.ref l) (upd H l (.lst (ns'.map V.int)))):=by
 intro au s σ H xs us Q I r h
 obtain⟨p,ns,rfl,hp,h64,q⟩:=h
 obtain⟨u,rfl,ru⟩:=vals1 r
 cases ru
 obtain⟨aK,rv,pl,_⟩:=I.list hp
 have hi:IntsAre aK ns:=intsAre_of rv;have hl:=rv.length;rw[bJ] at hl;refine sorted_ints pl.isList hi az λout ns' a1 a2 a3=>?_
 obtain⟨e,he⟩:=sortedAll_at s.heap aK out
 have hz:ns'.length<=cJ:=by rw[a2.length_eq,jQ];lia
 exact⟨.ref (s.heap.objs.size+1),_,I.laid (o:=.lst (ns'.map V.int)) (t':=s.toks) (λ_ _=>sortedAll_old) (G8 _) ⟨by rw[bJ];exact hz,out.toList,e,Tr a1,by simpa[seqObj] using he⟩,rfl,q _ ns' (I.hok.fresh (G8 _)) a2 a3⟩
theorem ah5:iY X (.builtin "sorted") (λxs H Q=>∃(p:aC)(ns:List Str),xs=[.ref p]/\cj X.K H p (ns.map V.str)/\ns.length<64/\∀(l:aC)(ns':List Str),H l=aj->ns'.Perm ns->sortedS ns'=aq->Q (.ref l) (upd H l (.lst (ns'.map V.str)))):=by
 intro au s σ H xs us Q I r h
 obtain⟨p,ns,rfl,hp,h64,q⟩:=h
 obtain⟨u,rfl,ru⟩:=vals1 r
 cases ru
 obtain⟨aK,rv,pl,_⟩:=I.list hp
 have hi:StrsAre aK ns:=Lr rv;have hl:=rv.length;rw[bJ] at hl;refine sorted_strs pl.isList hi az λout ns' a1 a2 a3=>?_
 obtain⟨e,he⟩:=sortedAll_at s.heap aK out
 have hz:ns'.length<=cJ:=by rw[a2.length_eq,jQ];lia
 exact⟨.ref (s.heap.objs.size+1),_,I.laid (o:=.lst (ns'.map V.str)) (t':=s.toks) (λ_ _=>sortedAll_old) (G8 _) ⟨by rw[bJ];exact hz,out.toList,e,Mf a1,by simpa[seqObj] using he⟩,rfl,q _ ns' (I.hok.fresh (G8 _)) a2 a3⟩
theorem jZ.dX(r:jZ k A):A.units+1<iM:=by have:=r.un;lia
abbrev Row:=aC×List Key
def TupAt(h:cg)(r:Row):Prop:=∃aK,Vals (r.2.map kV) aK/\IsTup h r.1 aK.toArray
theorem TupAt.keep(t:TupAt h r)(k:∀b o,h.get? b=aa o->h'.get? b=aa o):TupAt h' r:=by
 obtain⟨aK,v,o,e,c⟩:=t
 exact⟨aK,v,o,k _ _ e,c⟩
theorem adE:∀{aP:List Row},(∀r∈aP,TupAt h r/\r.2.map cA=b::sh)->∃fs,KatTups h (aP.map λr=>dF r.1) fs/\fs.length=aP.length/\∀f∈fs,∃k,RelV (kV k) f/\cA k=b
 |[],_=>⟨[],KatTups.nil,rfl,bI⟩
 |r::aP,ha=>by
  obtain⟨fs,t,l,g⟩:=adE (aP:=aP) λq hq=>ha q (dM _ hq)
  obtain⟨⟨aK,v,o,e,c,n,d⟩,s⟩:=ha r cX
  obtain⟨a,ks⟩:=r
  cases ks with
  |nil=>cases s
  |cons k ks=>
   cases v with
   |@cons _ u _ us v1 v2=>
    refine⟨u::fs,KatTups.cons e c d bI t,by simp[l],λf hf=>?_⟩
    rcases bW.mp hf with rfl|hf
    .exact⟨k,v1,(uo s).1⟩
    .exact g f hf
theorem abP(r:RelV (kV k) f)(e:cA k=b):Looks M h (typeOf f) (if b=aq then .type "int" else .type "str"):=by
 subst e;cases k with
 |inl i=>obtain⟨t,rfl⟩:=r;exact Looks.of_pure rfl
 |inr i=>obtain⟨t,rfl⟩:=r;exact Looks.of_pure rfl
theorem Uu(aP:List Row)(hi:i<aP.length):(aP.map λr=>dF r.1).getD i j4=.ref aP[i].1:=by simp[pY,hi]
def rowAt(aP:List Row)(i:Nat):List Key:=((aP[i]?).map (·.2)).getD []
theorem abQ{w:c7}{A:gV}{s':bh}{aP:List Row}{b:Bool}(ha:∀r∈aP,TupAt s'.heap r/\r.2.map cA=b::sh)(h0:0<aP.length)(Q:SortKind->bh->Prop)(q:Q (tuples' aq) s'):
  aW (model prog w) A (keyKind' (aP.map λr=>dF r.1).toArray) Q (λ_ _=>False) s':=by
 obtain⟨fs,t,l,g⟩:=adE ha
 refine kat_kind (T:=if b=aq then .type "int" else .type "str") t az (λv hv=>?_) (by cases b<;>rfl) (by cases b<;>exact q)
 obtain⟨k,r,e⟩:=g v hv
 exact abP r e
theorem amN(ha:∀r∈aP,TupAt s'.heap r/\r.2.map cA=sh)(hi:i<aP.length)(hj:j<aP.length)(C:Bool->bh->Prop)(q:C (dO (rowAt aP i) (rowAt aP j)) s'):
  kas_ask prog w A (tuples' aq) (aP.map λr=>dF r.1) i j C s':=by
 obtain⟨⟨aK,v,o,e,c,n,d⟩,s1⟩:=ha aP[i] (xF hi)
 obtain⟨⟨its2,v2,o2,e2,c2,n2,d2⟩,s2⟩:=ha aP[j] (xF hj)
 unfold kas_ask;rw[Uu aP hi,Uu aP hj];have l1:=v.length;have l2:=v2.length;have l3:aP[i].2.length=aP[j].2.length:=by
  have:=congrArg zf (s1.trans s2.symm);simpa using this
 refine kat_lt e d e2 d2 ?_;have ez:decide (aK.toArray.size<its2.toArray.size)=aM:=by
  rw[iR];simp only[gZ];rw[bJ] at l1 l2;lia
 rw[ez];have q':C (dO aP[i].2 aP[j].2) s':=by
  unfold rowAt at q;rw[jb hi,jb hj] at q;exact q
 exact acw (by simpa using v) (by simpa using v2) (s1.trans s2.symm) q'
theorem Tu{aP:List Row}{p:List Nat}(h:p.Perm (gG aP.length)):(p.map λi=>aP.getD i (0,[])).Perm aP:=by
 have e:(gG aP.length).map (λi=>aP.getD i (0,[]))=aP:=Kz bI λi h1 h2=>by simp[pY,h2]
 exact(h.map _).trans (by rw[e])
theorem abR{aP:List Row}{p:List Nat}(h:p.Perm (gG aP.length)):(p.map λi=>(aP.map λr=>dF r.1).getD i j4)=(p.map λi=>aP.getD i (0,[])).map λr=>dF r.1:=by
 rw[fD];refine xu λi hi=>?_
 have hlt:=vJ.mp (h.mem_iff.mp hi);rw[Uu aP hlt];simp[pY,hlt]
theorem VJ:∀{aP:List Row}{us:List aN},Vals (aP.map λr=>V.ref r.1) us->us=aP.map λr=>dF r.1
 |[],_,h=>by cases h;rfl
 |r::aP,_,h=>by
  cases h with
  |cons a b=>
   cases a;rw[VJ b];rfl
theorem Tv:∀(aP:List Row),Vals (aP.map λr=>V.ref r.1) (aP.map λr=>dF r.1)
 |[]=>.nil
 |r::aP=>.cons rfl (Tv aP)
theorem alc(A:gV)(s:bh)(ra:RelV (kV a) u)(rb:RelV (kV b) v)(ht:cA a=cA b):abh A s u v (decide (a=b)):=by
 rw[<-VH ht];exact Om ra rb (Ej a) (Ej b)
theorem acA(A:gV)(s:bh)(ra:RelV (kV a) u)(rb:RelV (kV b) v)(ht:cA a=cA b)(prog:fj)(w:c7)(E:aN->bh->Prop)(Q:aN->bh->Prop)(h:Q (.bool (kLt a b)) s):
  aW (model prog w) A (G9 .Lt u v) Q E s:=by
 cases a with
 |inl i=>
  cases b with
  |inr y=>cases ht
  |inl j=>
   obtain⟨t,rfl⟩:=ra
   obtain⟨t',rfl⟩:=rb
   exact(lt_int h:aW (model prog w) A (iG .Lt _ _) Q E s)
 |inr x=>
  cases b with
  |inl y=>cases ht
  |inr y=>
   obtain⟨t,rfl⟩:=ra
   obtain⟨t',rfl⟩:=rb
   exact(lt_str h:aW (model prog w) A (iG .Lt _ _) Q E s)
section
open PySem.SeqAt
open PySem.AutoSeq1 (wpAny_loadPart')
open PySem.MeetsSeq PySem.MeetsSeq2 PySem.MeetsSeq3
theorem aiB(l b:aC)(items items2:Array aN)(n n2:Nat)(dd dd2:Option aC)(sl sl2:Array (Option aN))(ns ms:List Key)(hi:Vals (ns.map kV) items.toList)(hj:Vals (ms.map kV) items2.toList)(hty:ns.map cA=ms.map cA):
  Meets (oK.«tuple.__lt__» ⟨[.ref l,.ref b],[]⟩)
   (λ_ R s=>s.heap.get? l=aa {cls:=.type "tuple",dict:=dd,data:=.seq items n,slots:=sl}/\s.heap.get? b=aa {cls:=.type "tuple",dict:=dd2,data:=.seq items2 n2,slots:=sl2}/\R (.ok (.ret (.bool (dO ns ms)))) s):=
 .of_wp λprog w A R s h=>by
  obtain⟨hp,g,d,tk,os⟩:=s;obtain⟨hl,hb,h⟩:=h
  have f2:=AutoSeq1.sub_tuple_tuple;have z0:ns.length=ms.length:=by have:=congrArg zf hty;simpa using this
  have z1:items.size=ns.length:=by have:=hi.length;rw[bJ] at this;simpa using this.symm
  have z2:items2.size=ms.length:=by have:=hj.length;rw[bJ] at this;simpa using this.symm
  wp_walk using wpAny_loadPart' hl,wpAny_loadPart' hb,wpAny_forIn_list _ (λrest b s'=>b.1=aj/\s'=⟨hp,g,d,tk,os⟩/\∃(vs ws:List aN)(ns' ms':List Key),rest=vs.zip ws/\
   Vals (ns'.map kV) vs/\Vals (ms'.map kV) ws/\ns'.map cA=ms'.map cA/\R (.ok (.ret (.bool (dO ns' ms')))) ⟨hp,g,d,tk,os⟩) _
  case turn=>
   rintro⟨y,x⟩ rest b s' ⟨hb',rfl,vs,ws,ns',ms',hz,Qw,hwi,hlen,hR⟩
   cases ns' with
   |nil=>cases Qw;rw[List.zip_nil_left] at hz;cases hz
   |cons a ns'=>
    cases ms' with
    |nil=>cases hlen
    |cons c ms'=>
     cases Qw with
     |cons r1 afJ=>
      cases hwi with
      |cons r2 afK=>
       rw[GK] at hz;injection hz with hyx hrest
       injection hyx with hy hx
       subst hy hx;have t1:cA a=cA c:=(uo hlen).1;have t2:=(uo hlen).2;unfold dO at hR;refine aF (alc A.in1 ⟨hp,g,d,tk,os⟩ r1 r2 t1 prog w _ _ ?_);by_cases hac:a=c
       .rw[bG hac] at hR;rw[gr hac];wp_walk
        exact⟨rfl,rfl,_,_,_,_,hrest,afJ,afK,t2,hR⟩
       .rw[bH hac] at hR;rw[iR hac];have hri:=acA A.in1 ⟨hp,g,d,tk,os⟩ r1 r2 t1 prog w;wp_walk using hri
        exact⟨_,rfl,by simpa using hR⟩
  case fin=>
   rintro⟨b1,b2⟩ s' ⟨hb',rfl,vs,ws,ns',ms',hz,Qw,hwi,hlen,hR⟩
   simp only at hb';subst hb';have hv:dO ns' ms'=decide (items.size<items2.size):=by
    rw[iR az];cases ns' with
    |nil=>unfold dO;rfl
    |cons a ns'=>
     cases ms' with
     |nil=>cases hlen
     |cons c ms'=>
      cases Qw with
      |cons r1 afJ=>
       cases hwi with
       |cons r2 afK=>
        rw[GK] at hz;cases hz
   rw[hv] at hR;wp_walk
   exact⟨_,rfl,by simpa[atk] using hR⟩
  case h=>
   exact⟨rfl,rfl,items.toList,items2.toList,ns,ms,rfl,hi,hj,hty,h⟩
end
theorem abp(hl:IsTup s.heap l items)(hb:IsTup s.heap b items2)(hi:Vals (ns.map kV) items.toList)(hj:Vals (ms.map kV) items2.toList)(hty:ns.map cA=ms.map cA)
  (hu:A.units<iM)(h:Q (.bool (dO ns ms)) s):aW (model prog w) A (iG .Lt (.ref l) (.ref b)) Q E s:=by
 obtain⟨⟨cls,dd,data,sl⟩,ho,hc,n,hd⟩:=id hl
 obtain⟨⟨cls2,dd2,data2,sl2⟩,ho2,hc2,n2,hd2⟩:=id hb
 simp only at hc hd hc2 hd2;subst hc hd hc2 hd2;exact richCompare_meets_room (op:=.Lt) ⟨_,ho,rfl⟩ ⟨_,ho2,rfl⟩ PySem.F.slot_tuple_lt PySem.F.entry_tuple_lt (PySem.F.args_tuple_lt_2 _ _) (aiB l b items items2 n n2 dd dd2 sl sl2 ns ms hi hj hty)
  ⟨ho,ho2,show vM (dO ns ms)≠Value.notImplemented/\Q (.bool (dO ns ms)) s from⟨(λx=>nomatch x),h⟩⟩ hu
mutual
def RX(H:Hp):aD->V->Prop
 |.none,v=>v=.non
 |.bool b,v=>v=.bl b
 |.int i,v=>v=.int i
 |.str x,v=>v=.str x
 |.list ds,v=>∃a vs,v=.ref a/\H a=aa (.lst vs)/\yM H ds vs
 |.tuple ds,v=>∃a vs,v=.ref a/\H a=aa (.tup vs)/\yM H ds vs
 |.dict _,_=>False
def yM(H:Hp):List aD->List V->Prop
 |[],vs=>vs=[]
 |d::ds,vs=>∃v r,vs=v::r/\RX H d v/\yM H ds r
end
mutual
theorem RX.rd{K:aZ}:∀{d:aD}{v:V},RX H d v->RD K H d v
 |.none,_,h=>h
 |.bool _,_,h=>h
 |.int _,_,h=>h
 |.str _,_,h=>h
 |.list ds,_,h=>by
  obtain⟨a,vs,e,q,r⟩:=h
  exact⟨a,vs,e,cj.of q,yM.rd r⟩
 |.tuple ds,_,h=>by
  obtain⟨a,vs,e,q,r⟩:=h
  exact⟨a,vs,e,cU.of q,yM.rd r⟩
theorem yM.rd{K:aZ}:∀{ds:List aD}{vs:List V},yM H ds vs->yL K H ds vs
 |[],_,h=>h
 |d::ds,vs,h=>by
  obtain⟨v,r,e,q,t⟩:=h
  exact⟨v,r,e,RX.rd q,yM.rd t⟩
end
def JZ:aD->aN
 |.none=>.type "NoneType"
 |.bool _=>.type "bool"
 |.int _=>.type "int"
 |.str _=>.type "str"
 |.list _=>.type "list"
 |.tuple _=>.type "tuple"
 |.dict _=>.type "dict"
theorem RX.ty{K:aZ}{v:V}(h:RX H d v):oV K H v (JZ d):=by
 cases d with
 |none=>cases(show v=.non from h);exact .non
 |bool b=>cases(show v=.bl b from h);exact .bl b
 |int i=>cases(show v=.int i from h);exact .int i
 |str x=>cases(show v=.str x from h);exact .str x
 |list ds=>obtain⟨a,vs,rfl,e,_⟩:=h;exact .lst e
 |tuple ds=>obtain⟨a,vs,rfl,e,_⟩:=h;exact .tup e
 |dict ds=>exact(show False from h).elim
theorem ajs(hu:X.A.units<iM):dU X (iG .Lt) (λx y H Q=>∃a b ks js,x=.ref a/\y=.ref b/\H a=aa (.tup (ks.map kV))/\H b=aa (.tup (js.map kV))/\ks.map cA=js.map cA/\Q (.bl (dO ks js)) H):=by
 intro au s σ H x y v u Q I rx ry h
 obtain⟨a,b,ks,js,rfl,rfl,ha,hb,ht,q⟩:=h
 cases rx;cases ry
 obtain⟨_,aK,r1,p1⟩:=(show f9 X.prog X.w H s.heap a (.tup (ks.map kV)) from I.hok a _ ha)
 obtain⟨_,its2,r2,p2⟩:=(show f9 X.prog X.w H s.heap b (.tup (js.map kV)) from I.hok b _ hb)
 exact abp p1 p2 (by simpa using r1) (by simpa using r2) ht hu (iI I q rfl)
theorem Ed(hu:X.A.units<iM):dU X (iG .Lt) (λx y H Q=>(∃a b,x=kV a/\y=kV b/\cA a=cA b/\Q (.bl (kLt a b)) H)\/∃a b ks js,x=.ref a/\y=.ref b/\H a=aa (.tup (ks.map kV))/\H b=aa (.tup (js.map kV))/\ks.map cA=js.map cA/\Q (.bl (dO ks js)) H):=by
 refine dU.or ?_ (ajs hu);intro au s σ H x y v u Q I rx ry h
 obtain⟨a,b,rfl,rfl,ht,q⟩:=h
 exact acA X.A s rx ry ht _ _ _ _ (iI I q rfl)
structure Ord(lt:Nat->Nat->Bool):Prop where
 Ga:∀a b,lt a b=aq->lt b a=aM
 trans:∀a b c,lt b a=aM->lt c b=aM->lt c a=aM
section
variable{N:Nat}{lt:Nat->Nat->Bool}(O:Ord lt)
abbrev at0(p:Array Nat)(i:Nat):Nat:=p.getD i 0
def Up(lt:Nat->Nat->Bool)(p:Array Nat)(n:Nat):Prop:=∀i j,i<j->j<n->lt (at0 p j) (at0 p i)=aM
def Dn(lt:Nat->Nat->Bool)(p:Array Nat)(n:Nat):Prop:=∀i j,i<j->j<n->lt (at0 p i) (at0 p j)=aM
def Lk(lt:Nat->Nat->Bool)(p:Array Nat)(i j:Nat):Prop:=∀a b,i<=a->a<j->i<=b->b<j->lt (at0 p a) (at0 p b)=aM
theorem yc(p:Array Nat)(i:Nat):at0 p i=(p[i]?).getD 0:=vz
theorem zN(hj:j<=p.size)(k:Nat):at0 (kas_rev p i j) k=if i<=k/\k<j then at0 p (i+j-1-k) else at0 p k:=by
 rw[yc,yc,yc];unfold kas_rev;rw[getElem?_mirror_all hj];split<;>rfl
theorem aeH(hk:k<p.size)(hl:l<=k)(x:Nat):at0 (bubble p k (k-l)) x=if x=l then at0 p k else if l<x/\x<=k then at0 p (x-1) else at0 p x:=by
 rw[yc,yc,yc,yc,getElem?_bubble hk (k-l) az];have e:k-(k-l)=l:=az;rw[e];split
 .rfl
 .split<;>rfl
theorem KP.size(h:KP N p):p.size=N:=by
 have:=h.length_eq;rw[pC] at this;simpa using this
include O
theorem Ord.Gp(a:Nat):lt a a=aM:=by
 cases e:lt a a with
 |false=>rfl
 |true=>rw[O.Ga a a e] at e;cases e
theorem Up.succ(h:Up lt p n)(hn:1<=n)(hs:lt (at0 p n) (at0 p (n-1))=aM):Up lt p (n+1):=λi j hij hj=>by
 by_cases e:j<n
 .exact h i j hij e
 .have ej:j=n:=az;subst ej;by_cases ei:i=j-1
  .rw[ei];exact hs
  .exact O.trans _ _ _ (h i (j-1) az az) hs
theorem Dn.succ(h:Dn lt p n)(hn:1<=n)(hs:lt (at0 p (n-1)) (at0 p n)=aM):Dn lt p (n+1):=λi j hij hj=>by
 by_cases e:j<n
 .exact h i j hij e
 .have ej:j=n:=az;subst ej;by_cases ei:i=j-1
  .rw[ei];exact hs
  .exact O.trans _ _ _ hs (h i (j-1) az az)
theorem Dn.like(h:Dn lt p n)(l:Lk lt p i j)(hj:j<=p.size)(hn:j<=n):Dn lt (kas_rev p i j) n:=λa b hab hb=>by
 rw[zN hj,zN hj];by_cases ha:i<=a/\a<j
 .rw[bG ha];by_cases hb':i<=b/\b<j
  .rw[bG hb'];exact l _ _ az az az az
  .rw[bH hb'];exact h _ _ az az
 .rw[bH ha];by_cases hb':i<=b/\b<j
  .rw[bG hb'];exact h _ _ az az
  .rw[bH hb'];exact h _ _ az az
theorem Dn.turn(h:Dn lt p n)(hn:n<=p.size):Up lt (kas_rev p 0 n) n:=λa b hab hb=>by
 rw[zN hn,zN hn,bG ⟨az,az⟩,bG ⟨az,az⟩];exact h _ _ az az
theorem W0(h:KP N p)(h0:0<N):∀f n,1<=n->Up lt p n->dH N lt (kas_asc p f n) λm=>Up lt p m/\n<=m/\m<=n+f/\(m=n+f\/lt (at0 p m) (at0 p (m-1))=aq)
 |0,n,hn,u=>⟨u,cz _,cz _,.inl rfl⟩
 |f+1,n,hn,u=>by
  refine⟨h.ix h0 _,h.ix h0 _,?_⟩
  dsimp only;split
  .rename_i e
   exact⟨u,cz _,az,.inr e⟩
  .rename_i e
   refine(W0 h h0 f (n+1) az (u.succ O hn (by simpa using e))).mono λm hm=>?_
   obtain⟨a,b,c,d⟩:=hm
   refine⟨a,az,az,?_⟩
   rcases d with d|d
   .left;lia
   .exact .inr d
theorem Nh(h0:0<N):∀f (p:Array Nat) n q,KP N p->1<=n->q<n->n+f<=N->Dn lt p n->Lk lt p (n-(q+1)) n->dH N lt (kas_desc f p n q) λr=>KP N r.1/\1<=r.2.1/\r.2.2<r.2.1/\r.2.1<=n+f/\Dn lt r.1 r.2.1/\Lk lt r.1 (r.2.1-(r.2.2+1)) r.2.1
 |0,p,n,q,h,hn,hq,hf,d,l=>⟨h,hn,hq,cz _,d,l⟩
 |f+1,p,n,q,h,hn,hq,hf,d,l=>by
  have sz:=h.size;have one:∀(p:Array Nat),Lk lt p (n+1-(0+1)) (n+1):=λp a b h1 h2 h3 h4=>by
   have e1:a=n:=az;have e2:b=n:=az;rw[e1,e2];exact O.Gp _
  refine⟨h.ix h0 _,h.ix h0 _,?_⟩
  dsimp only;split
  .rename_i e;have e':lt (at0 p (n-1)) (at0 p n)=aM:=O.Ga _ _ e;split
   .have hj:n<=p.size:=az;have dl:=d.like O l hj (cz _);have hs:lt (at0 (kas_rev p (n-(q+1)) n) (n-1)) (at0 (kas_rev p (n-(q+1)) n) n)=aM:=by
     rw[zN hj,zN hj,bG ⟨az,az⟩,bH az];exact O.trans _ _ _ e' (l _ _ az az az az)
    refine(Nh h0 f _ (n+1) 0 (h.rev _ _) az az az (dl.succ O hn hs) (one _)).mono λr hr=>?_
    obtain⟨a1,a2,a3,a4,a5,a6⟩:=hr
    exact⟨a1,a2,a3,az,a5,a6⟩
   .refine(Nh h0 f _ (n+1) 0 h az az az (d.succ O hn e') (one _)).mono λr hr=>?_
    obtain⟨a1,a2,a3,a4,a5,a6⟩:=hr
    exact⟨a1,a2,a3,az,a5,a6⟩
  .rename_i e;have e1:lt (at0 p n) (at0 p (n-1))=aM:=by simpa using e
   refine⟨h.ix h0 _,h.ix h0 _,?_⟩
   dsimp only;split
   .exact⟨h,hn,hq,(by show n<=n+(f+1);lia),d,l⟩
   .rename_i e';have e2:lt (at0 p (n-1)) (at0 p n)=aM:=by simpa using e'
    have l2:Lk lt p (n+1-(q+1+1)) (n+1):=λa b h1 h2 h3 h4=>by
     have e3:n+1-(q+1+1)=n-(q+1):=az;rw[e3] at h1 h3;by_cases ha:a=n
     .by_cases hb:b=n
      .rw[ha,hb];exact O.Gp _
      .rw[ha];exact O.trans _ _ _ (l (n-1) b az az az az) e1
     .by_cases hb:b=n
      .rw[hb];exact O.trans _ _ _ e2 (l a (n-1) az az az az)
      .exact l a b az az az az
    refine(Nh h0 f _ (n+1) (q+1) h az az az (d.succ O hn e2) l2).mono λr hr=>?_
    obtain⟨a1,a2,a3,a4,a5,a6⟩:=hr
    exact⟨a1,a2,a3,az,a5,a6⟩
theorem acB(h0:0<N)(h:KP N p)(n:Nat)(hn:1<=n)(hN:n<=N)(d:Dn lt p n):dH N lt (kas_tail3 n N p) λr=>KP N r.2/\Up lt r.2 r.1/\1<=r.1/\r.1<=N:=by
 have sz:=h.size;refine dH.bind ((W0 O (h.rev 0 n) h0 (N-n) n hn (d.turn O az)).mono λm hm=>?_)
 exact⟨h.rev 0 n,hm.1,az,az⟩
theorem aba(h0:0<N)(h:KP N p)(n:Nat)(hn:1<=n)(hN:n+1<=N)(d:Dn lt p (n+1)):dH N lt (kas_descPart n N p) λr=>KP N r.2/\Up lt r.2 r.1/\1<=r.1/\r.1<=N:=by
 have l0:Lk lt p (n+1-(0+1)) (n+1):=λa b h1 h2 h3 h4=>by
  have e1:a=n:=az;have e2:b=n:=az;rw[e1,e2];exact O.Gp _
 refine dH.bind ((Nh O h0 (N-(n+1)) p (n+1) 0 h az az az d l0).mono λr hr=>?_)
 obtain⟨a1,a2,a3,a4,a5,a6⟩:=hr
 have sz:=a1.size;split
 .exact acB O h0 (a1.rev _ _) _ a2 az (a5.like O a6 az (cz _))
 .exact acB O h0 a1 _ a2 az a5
theorem ald(h0:0<N)(h:KP N p):dH N lt (kas_count N p) λr=>KP N r.2/\Up lt r.2 r.1/\1<=r.1/\r.1<=N:=by
 have sz:=h.size;refine dH.bind ((W0 O h h0 (N-1) 1 (cz _) (λi j hij hj=>absurd hj az)).mono λn hn=>?_)
 obtain⟨u,h1,h2,h3⟩:=hn
 split
 .rename_i e;have:=eq_of_beq e
  exact⟨h,u,h1,by show n<=N;lia⟩
 .rename_i e;have en:n≠N:=λx=>e (by rw[x];simp)
  have hl:lt (at0 p n) (at0 p (n-1))=aq:=by
   rcases h3 with h3|h3
   .lia
   .exact h3
  have hl':=O.Ga _ _ hl;split
  .refine⟨h.ix h0 _,h.ix h0 _,?_⟩
   dsimp only;split
   .exact⟨h,u,h1,by show n<=N;lia⟩
   .rename_i e';have e1:lt (at0 p 0) (at0 p (n-1))=aM:=by simpa using e'
    have like:Lk lt p 0 n:=λa b _ ha _ hb=>by
     have g1:lt (at0 p a) (at0 p 0)=aM:=by
      by_cases hz:a=0
      .rw[hz];exact O.Gp _
      .exact u 0 a az ha
     have g2:lt (at0 p (n-1)) (at0 p b)=aM:=by
      by_cases hz:b=n-1
      .rw[hz];exact O.Gp _
      .exact u b (n-1) az az
     have g3:lt (at0 p 0) (at0 p b)=aM:=O.trans (at0 p b) (at0 p (n-1)) (at0 p 0) g2 e1;have g4:lt (at0 p a) (at0 p (n-1))=aM:=by
      by_cases hz:a=n-1
      .rw[hz];exact O.Gp _
      .cases q:lt (at0 p a) (at0 p (n-1)) with
       |false=>rfl
       |true=>
        exfalso;have k1:lt (at0 p 0) (at0 p (n-1))=aM:=e1;have k2:lt (at0 p a) (at0 p 0)=aM:=g1;have:=O.trans (at0 p (n-1)) (at0 p 0) (at0 p a) k1 k2;rw[this] at q;cases q
     exact O.trans (at0 p b) (at0 p (n-1)) (at0 p a) g2 g4
    have dn:Dn lt p n:=λi j hij hj=>like i j (lC _) az (lC _) hj
    have dr:=dn.like O like az (cz _);refine aba O h0 (h.rev 0 n) n h1 az (dr.succ O h1 ?_);rw[zN az,zN az,bG ⟨az,az⟩,bH az];exact O.trans _ _ _ hl' (like _ _ az az az az)
  .have e1:n=1:=az;subst e1;refine aba O h0 h 1 (cz _) az λi j hij hj=>?_
   have ei:i=0:=az;have ej:j=1:=az;rw[ei,ej];exact hl'
theorem Uv(h0:0<N)(h:KP N p)(k:Nat)(u:Up lt p k):∀f l r,l<=r->r<=k->r-l<=f->(∀i,i<l->lt (at0 p k) (at0 p i)=aM)->(∀i,r<=i->i<k->lt (at0 p i) (at0 p k)=aM)->
  dH N lt (kas_place p k f l r) λm=>m<=k/\(∀i,i<m->lt (at0 p k) (at0 p i)=aM)/\∀i,m<=i->i<k->lt (at0 p i) (at0 p k)=aM
 |0,l,r,hlr,hr,hf,g1,g2=>by
  have e:l=r:=az;subst e
  exact⟨hr,g1,g2⟩
 |f+1,l,r,hlr,hr,hf,g1,g2=>by
  unfold kas_place;split
  .have e:l=r:=az;subst e
   exact⟨hr,g1,g2⟩
  .refine⟨h.ix h0 _,h.ix h0 _,?_⟩
   dsimp only;split
   .rename_i e;have e':=O.Ga _ _ e;refine Uv h0 h k u f l ((l+r) / 2) az az az g1 λi hi hk=>?_
    by_cases hz:i=(l+r) / 2
    .rw[hz];exact e'
    .exact O.trans _ _ _ e' (u _ i az hk)
   .rename_i e;have e':lt (at0 p k) (at0 p ((l+r) / 2))=aM:=by simpa using e
    refine Uv h0 h k u f ((l+r) / 2+1) r az hr az (λi hi=>?_) g2;by_cases hz:i=(l+r) / 2
    .rw[hz];exact e'
    .exact O.trans _ _ _ (u i _ az az) e'
theorem aeI(h0:0<N):∀f (p:Array Nat) k,KP N p->k+f<=N->Up lt p k->dH N lt (kas_bin f p k) λr=>KP N r/\Up lt r (k+f)
 |0,p,k,h,hk,u=>⟨h,u⟩
 |f+1,p,k,h,hk,u=>by
  have sz:=h.size;refine dH.bind ((Uv O h0 h k u k 0 k (lC _) (cz _) az (λi hi=>absurd hi (xH _)) (λi h1 h2=>absurd h2 az)).mono λl hl=>?_)
  obtain⟨hlk,g1,g2⟩:=hl
  have ub:Up lt (bubble p k (k-l)) (k+1):=λi j hij hj=>by
   rw[aeH az hlk,aeH az hlk];by_cases hi:i=l
   .rw[bH az,bG ⟨az,az⟩,bG hi];exact g2 _ az az
   .by_cases hj':j=l
    .rw[bG hj',bH hi,bH az];exact g1 _ az
    .by_cases hli:l<i
     .rw[bH hj',bG ⟨az,az⟩,bH hi,bG ⟨hli,az⟩];exact u _ _ az az
     .by_cases hlj:l<j
      .rw[bH hj',bG ⟨hlj,az⟩,bH hi,bH az];exact u _ _ az az
      .rw[bH hj',bH az,bH hi,bH az];exact u _ _ az az
  refine(aeI h0 f _ (k+1) (h.bub _ _) az ub).mono λr hr=>?_
  have e:k+(f+1)=k+1+f:=az;rw[e];exact hr
theorem amO(h0:0<N):dH N lt (kas_sort N) λp=>KP N p/\Up lt p N:=by
 refine dH.bind ((ald O h0 (p:=aiS (gG N)) (yX _)).mono λr hr=>?_)
 obtain⟨a1,a2,a3,a4⟩:=hr
 split
 .have e:max r.1 1=r.1:=az;rw[e]
  refine(aeI O h0 (N-r.1) r.2 r.1 a1 az a2).mono λp hp=>?_
  have e2:r.1+(N-r.1)=N:=az;rw[e2] at hp;exact hp
 .have e:r.1=N:=az;rw[e] at a2
  exact⟨a1,a2⟩
end
theorem VL(h:kLt a b=aq):kLt b a=aM:=by
 cases a with
 |inl i=>
  cases b with
  |inr y=>cases h
  |inl j=>have:=of_decide_eq_true h;exact iR az
 |inr x=>
  cases b with
  |inl y=>cases h
  |inr y=>exact KeyOrd.klt_asymm (O:=strKind.toKeyOrd) (a:=x.cps.toList) (b:=y.cps.toList) h
theorem aeJ(a:Key):kLt a a=aM:=by
 cases e:kLt a a with
 |false=>rfl
 |true=>rw[VL e] at e;cases e
theorem aeK(t1:cA a=cA b)(t2:cA b=cA c)(h:kLt a c=aq):kLt a b=aq\/kLt b c=aq:=by
 cases a with
 |inl i=>
  cases b with
  |inr y=>cases t1
  |inl j=>
   cases c with
   |inr y=>cases t2
   |inl k=>
    have h1:=of_decide_eq_true h;by_cases h2:i<j
    .exact .inl (gr h2)
    .exact .inr (gr az)
 |inr x=>
  cases b with
  |inl y=>cases t1
  |inr y=>
   cases c with
   |inl k=>cases t2
   |inr z=>exact strKind.negTrans x.cps.toList y.cps.toList z.cps.toList h
theorem str_of_list{x y:Str}(h:x.cps.toList=y.cps.toList):x=y:=by
 cases x;cases y;simp at h;simp[h]
theorem aeL(t:cA a=cA b)(h1:kLt a b=aM)(h2:kLt b a=aM):a=b:=by
 cases a with
 |inl i=>
  cases b with
  |inr y=>cases t
  |inl j=>
   have g1:=of_decide_eq_false h1;have g2:=of_decide_eq_false h2;have:i=j:=az;rw[this]
 |inr x=>
  cases b with
  |inl y=>cases t
  |inr y=>
   have:=strKind.total x.cps.toList y.cps.toList h1 h2;rw[str_of_list this]
theorem adF:∀{a b:List Key},dO a b=aq->dO b a=aM
 |[],_,h=>by unfold dO at h;cases h
 |_::_,[],h=>by unfold dO at h;cases h
 |a::r,b::t,h=>by
  unfold dO at h⊢;by_cases e:a=b
  .rw[bG e] at h;rw[bG e.symm];exact adF h
  .rw[bH e] at h;rw[bH (j5 e)];exact VL h
theorem aeM:∀{a b c:List Key},a.map cA=b.map cA->b.map cA=c.map cA->dO a c=aq->dO a b=aq\/dO b c=aq
 |[],_,_,_,_,h=>by unfold dO at h;cases h
 |_::_,_,[],_,_,h=>by unfold dO at h;cases h
 |_::_,[],_::_,t,_,_=>by cases t
 |a::r,b::u,c::t,t1,t2,h=>by
  have q1:=(uo t1).1;have q2:=(uo t2).1;have q3:=(uo t1).2;have q4:=(uo t2).2;by_cases e:a=c
  .subst e;have h':dO r t=aq:=by
    unfold dO at h
    rwa [bG rfl] at h
   by_cases e2:a=b
   .subst e2;rcases aeM q3 q4 h' with g|g
    .left;unfold dO;rw[bG rfl];exact g
    .right;unfold dO;rw[bG rfl];exact g
   .cases g:kLt a b with
    |true=>left;unfold dO;rw[bH e2];exact g
    |false=>
     right;unfold dO;rw[bH (j5 e2)];cases g2:kLt b a with
     |true=>rfl
     |false=>exact absurd (aeL q1 g g2) e2
  .have h':kLt a c=aq:=by
    unfold dO at h
    rwa [bH e] at h
   rcases aeK q1 q2 h' with g|g
   .left;unfold dO;rw[bH (λz=>by rw[z,aeJ] at g;cases g)];exact g
   .right;unfold dO;rw[bH (λz=>by rw[z,aeJ] at g;cases g)];exact g
def uO(aP:List Row)(i:Nat):List Key:=(aP.getD i (aP.headD (0,[]))).2
def mD(aP:List Row)(i j:Nat):Bool:=dO (uO aP i) (uO aP j)
def runK{α:Type}(lt:Nat->Nat->Bool):KasT α->α
 |.ret a=>a
 |.ask i j k=>runK lt (k (lt i j))
theorem dH.run:∀{t:KasT α},dH N lt t R->dH N lt t (λa=>R a/\a=runK lt t)/\R (runK lt t)
 |.ret a,h=>⟨⟨h,rfl⟩,h⟩
 |.ask i j k,h=>let r:=dH.run h.2.2;⟨⟨h.1,h.2.1,r.1⟩,r.2⟩
def pK(ks:List (List Key)):List Nat:=if ks.length<2 then gG ks.length else(runK (λi j=>dO (ks.getD i (ks.headD [])) (ks.getD j (ks.headD []))) (kas_sort ks.length)).toList
def ql(ks:List (List Key)):List (List Key):=(pK ks).map λi=>ks.getD i (ks.headD [])
theorem abS(ks:List (List Key)):(pK ks).Perm (gG ks.length):=by
 unfold pK;split
 .exact yX _
 .exact(dH.run (adC (lt:=λi j=>dO (ks.getD i (ks.headD [])) (ks.getD j (ks.headD []))) az)).2
theorem abT(ks:List (List Key)):(ql ks).Perm ks:=by
 have:=(abS ks).map λi=>ks.getD i (ks.headD [])
 refine this.trans (aih ?_);refine Kz bI λi h1 h2=>?_
 simp[h2]
theorem Mu(aP:List Row)(i:Nat):uO aP i=(aP.map (·.2)).getD i ((aP.map (·.2)).headD []):=by
 unfold uO;cases h:aP[i]? with
 |none=>cases aP<;>simp_all [pY]
 |some r=>simp[pY,h]
theorem Tw(hn:n=aP.length)(h2:2<=n):dH n (mD aP) (kas_sort n) λp=>KP n p/\p.toList=pK (aP.map (·.2)):=by
 subst hn;have e:mD aP=λi j=>dO ((aP.map (·.2)).getD i ((aP.map (·.2)).headD [])) ((aP.map (·.2)).getD j ((aP.map (·.2)).headD [])):=by
  funext i j;rw[mD,Mu,Mu]
 refine(dH.run (adC (lt:=mD aP) (N:=aP.length) az)).1.mono λp hp=>⟨hp.1,?_⟩
 unfold pK;rw[bH (by rw[bJ];lia),hp.2,e,bJ]
theorem Sw{aP:List Row}(hn:n=aP.length)(h:n<2):gG n=pK (aP.map (·.2)):=by
 subst hn;unfold pK;rw[bG (by rw[bJ];exact h),bJ]
theorem adG{aP:List Row}(h:p.Perm (gG aP.length))(hr:p=pK (aP.map (·.2))):(p.map λi=>aP.getD i (0,[])).map (·.2)=ql (aP.map (·.2)):=by
 unfold ql;rw[<-hr,fD];refine xu λi hi=>?_
 have hlt:=vJ.mp (h.mem_iff.mp hi);simp[pY,hlt]
theorem acC(ha:∀r∈aP,TupAt s'.heap r/\r.2.map cA=sh)(hi:i<aP.length)(hj:j<aP.length)(C:Bool->bh->Prop)(q:C (mD aP i j) s'):
  kas_ask prog w A (tuples' aq) (aP.map λr=>dF r.1) i j C s':=by
 refine amN ha hi hj C ?_;have e1:uO aP i=rowAt aP i:=by simp[uO,rowAt,pY,hi]
 have e2:uO aP j=rowAt aP j:=by simp[uO,rowAt,pY,hj]
 unfold mD at q;rw[e1,e2] at q;exact q
theorem ahN:iY X (.builtin "sorted") (λxs H Q=>∃(p:aC)(aP:List Row)(b:Bool)(sh:List Bool),xs=[.ref p]/\cj X.K H p (aP.map λr=>V.ref r.1)/\aP.length<64/\(∀r∈aP,H r.1=aa (.tup (r.2.map kV))/\r.2.map cA=b::sh)/\
  ∀(l:aC)(rows':List Row),H l=aj->rows'.Perm aP->rows'.map (·.2)=ql (aP.map (·.2))->Q (.ref l) (upd H l (.lst (rows'.map λr=>V.ref r.1)))):=by
 intro au s σ H xs us Q I r h
 obtain⟨p,aP,b,sh,rfl,hp,h64,ha,q⟩:=h
 obtain⟨u,rfl,ru⟩:=vals1 r
 cases ru
 obtain⟨aK,rv,pl,_⟩:=I.list hp
 have e0:=VJ rv;subst e0;have tu:∀r∈aP,TupAt s.heap r/\r.2.map cA=b::sh:=λr hr=>by
  obtain⟨_,aK,v,t⟩:=(show f9 X.prog X.w H s.heap r.1 (.tup (r.2.map kV)) from I.hok r.1 _ (ha r hr).1)
  exact⟨⟨aK,v,t⟩,(ha r hr).2⟩
 refine R4 (κ:=tuples' aq) (lt:=mD aP) (vs:=aP.map λr=>dF r.1) (Rl:=λp=>p=pK (aP.map (·.2))) (by simpa using h64) (λh2=>Tw (by rw[bJ]) h2) (λh2=>Sw (by rw[bJ]) h2) (λR hR=>?_) (λh2 s' k Q' q'=>abQ (λr hr=>⟨(tu r hr).1.keep k,(tu r hr).2⟩) (by rw[bJ] at h2;lia) Q' q')
  (λh2 s' k i j hi hj C q'=>acC (sh:=b::sh) (λr hr=>⟨(tu r hr).1.keep k,(tu r hr).2⟩) (by simpa using hi) (by simpa using hj) C q') λp D h' c tk hp' hrl hD k e=>?_
 .refine collect_list pl.isList (hR _ _ s.toks ?_ (λb o e=>?_) rfl)
  .rw[ah6,size_push'];lia
  .have hlt:b≠s.heap.objs.size:=fQ (cG e);rw[aht _ _ _ _ hlt];exact cD _ e
 .rw[bJ] at hp';rw[abR hp'] at e
  refine⟨.ref D,_,I.laid (o:=.lst ((p.map λi=>aP.getD i (0,[])).map λr=>V.ref r.1)) k hD ⟨?_,_,c,Tv _,by simpa[seqObj] using e⟩,rfl,q D _ (I.hok.fresh hD) (Tu hp') (adG hp' hrl)⟩
  rw[bJ,bJ,hp'.length_eq,pC,jQ];lia
theorem aai(hc:X.calm=aq):iY X (.builtin "sorted") (λxs H Q=>∃(d:aC)(aA:List (List Key×V))(b:Bool)(sh:List Bool),xs=[.ref d]/\Gm H d aA/\aA.length<64/\(∀kv∈aA,kv.1.map cA=b::sh)/\
  ∀(l:aC)(aP:List Row),H l=aj->(aP.map (·.2)).Perm (aA.map (·.1))->aP.map (·.2)=ql (aA.map (·.1))->(∀r∈aP,H r.1=aa (.tup (r.2.map kV)))->Q (.ref l) (upd H l (.lst (aP.map λr=>V.ref r.1)))):=by
 intro au s σ H xs us Q I r h
 obtain⟨d,aA,b,sh,rfl,hd,h64,ha,q⟩:=h
 obtain⟨u,rfl,ru⟩:=vals1 r
 cases ru
 obtain⟨z,lo,ys,rel,o,es,ep,g1,g2,g3,g4,g5,g6⟩:=Fp I.hok hd
 have raw:uX s.heap d es ep:=⟨o,g1,g2,g3⟩
 obtain⟨aP,r1,r2,r3⟩:∃aP:List Row,aP.map (·.2)=aA.map (·.1)/\(∀r∈aP,H r.1=aa (.tup (r.2.map kV)))/\es.toList.map (·.key)=aP.map λr=>dF r.1:=by
  clear g5 g6 h64 ha q z hd;rw[g4];clear g4 raw g3;induction rel with
  |nil=>exact⟨[],rfl,bI,rfl⟩
  |@cons p q ps qs h t ih=>
   obtain⟨aP,a1,a2,a3⟩:=ih
   refine⟨(q.2.1,p.1)::aP,by simp[a1],λr hr=>?_,?_⟩
   .rcases bW.mp hr with rfl|hr
    .exact h.2.1
    .exact a2 r hr
   .rw[dN,dN,a3];rfl
 have hlen:aP.length=aA.length:=by
  have:=congrArg zf r1;simpa using this
 have hes:es.size=aP.length:=by
  have:=congrArg zf r3;simpa using this
 have tu:∀r∈aP,TupAt s.heap r/\r.2.map cA=b::sh:=λr hr=>by
  obtain⟨_,aK,v,t⟩:=(show f9 X.prog X.w H s.heap r.1 (.tup (r.2.map kV)) from I.hok r.1 _ (r2 r hr))
  have:r.2∈aA.map (·.1):=by rw[<-r1];exact dD.mpr ⟨r,hr,rfl⟩
  obtain⟨kv,hk,e⟩:=dD.mp this
  exact⟨⟨aK,v,t⟩,by rw[<-e];exact ha kv hk⟩
 refine R4 (κ:=tuples' aq) (lt:=mD aP) (vs:=aP.map λr=>dF r.1) (Rl:=λp=>p=pK (aP.map (·.2))) (by rw[bJ];lia) (λh2=>Tw (by rw[bJ]) h2) (λh2=>Sw (by rw[bJ]) h2) (λR hR=>?_) (λh2 s' k Q' q'=>abQ (λr hr=>⟨(tu r hr).1.keep k,(tu r hr).2⟩) (by rw[bJ] at h2;lia) Q' q')
  (λh2 s' k i j hi hj C q'=>acC (sh:=b::sh) (λr hr=>⟨(tu r hr).1.keep k,(tu r hr).2⟩) (by simpa using hi) (by simpa using hj) C q') λp D h' c tk hp' hrl hD k e=>?_
 .refine aa9 (amM (es:=es) (ep:=ep) lo) (I.ok.hd hc) raw (by rw[jQ];lia) λh' tk bu hsz kk hacc=>hR _ h' tk hsz kk ?_
  refine ahO λi=>?_
  by_cases hi:i<es.size
  .have e1:bu.size=es.size:=hacc.1;have:=hacc.2 i (bu[i]'az) (by simp[e1,hi]);rw[Kg,lX az];rw[<-this,<-r3,jw,Kg]
  .have e1:bu.size=es.size:=hacc.1;rw[Dr (by simp;lia),Dr (by simp;lia)]
 .rw[bJ] at hp';rw[abR hp'] at e
  refine⟨.ref D,_,I.laid (o:=.lst ((p.map λi=>aP.getD i (0,[])).map λr=>V.ref r.1)) k hD ⟨?_,_,c,Tv _,by simpa[seqObj] using e⟩,rfl,q D _ (I.hok.fresh hD) (((Tu hp').map _).trans (by rw[r1])) ((adG hp' hrl).trans (by rw[r1])) λr hr=>r2 r ((Tu hp').mem_iff.mp hr)⟩
  rw[bJ,bJ,hp'.length_eq,pC,jQ];lia
abbrev Yg:=List (Option aD)
def er(Z:List aC)(H:Hp):Hp:=λb=>if b∈Z then aj else H b
theorem jh(h:er Z H b=aa o):H b=aa o:=by
 unfold er at h;split at h
 .cases h
 .exact h
theorem qK(Z:List aC)(H:Hp):cH (er Z H) H:=λb o h=>jh h
theorem Ni(s:cH H H'):cH (er Z H) (er Z H'):=λb o h=>by
 unfold er at h⊢;split at h
 .cases h
 .rename_i n;rw[bH n];exact s _ _ h
theorem aoG(H:Hp):er [] H=H:=by
 funext b;simp[er]
end L2
namespace HT
open PySem PySem.Spec PyProof.Rows
theorem ahu{t sl:aC}{vl vu:aN}{lo hi:Option Int}(ht:IsTup s.heap t items)(hs:s.heap.IsSliceOf sl vl vu .none)(pl:wj vl lo)(pu:wj vu hi)
  (hw:cV items.size 0 lo=0/\cV items.size items.size hi=items.size)(h:Q (.ref t) s):aW (model prog w) A (zB (.ref t) (.ref sl)) Q E s:=by
 obtain⟨os,hos,hcs,hds⟩:=id hs
 have hTs:s.TypeIs (.ref sl) "slice":=⟨os,hos,hcs⟩
 unfold zB
 try with_reducible refine nj ?_
 first|refine aF (bA ?_)|skip
 refine aF (ahM ht.typeIs aR ?_);refine aF (uf (name:=bz "__getitem__") ht.typeIs QW
  (nQ QW ht.typeIs entry_tuple_getitem ?_ (args_tuple_getitem _ _)))
 show aW _ _ (ag3 (.ref t) >>= _) _ _ s;refine aF (tupleItemsOf_ ht ?_);refine aF (K1 hTs ?_);rw[bG aR];refine aF (Z9 hs pl pu ?_);have hyes:((((cV items.size 0 lo:Nat):Int)==0&&(1:Int)==1&&(cV items.size items.size hi-cV items.size 0 lo)==items.size)=aq):=by
  rw[hw.1,hw.2];simp
 show aW _ _ (if(((cV items.size 0 lo:Nat):Int)==0&&(1:Int)==1&&(cV items.size items.size hi-cV items.size 0 lo)==items.size)=aq then _ else _) _ _ s;rw[bG hyes];unfold atm;refine aF (aF (K1 ht.typeIs (bA ?_)));rw[bG aR];refine aF (sV ?_);exact bA ⟨_,rfl,bA h⟩
end HT
namespace L2
open PySem PySem.Spec PyProof.Rows PySem.W
section
variable{X:Cx}
def aqS(K:aZ):V->Option Int->Option Int->Hp->VK->Prop:=λx lo hi H Q=>∃a xs,x=.ref a/\cU K H a xs/\(uW xs lo hi=xs->Q (.ref a) H)/\∀p,H p=aj->Q (.ref p) (upd H p (.tup (uW xs lo hi)))
theorem amP:yK X (aqS X.K):=by
 intro au s σ H x v vl vu lo hi sl Q I rx hs pl pu h
 obtain⟨a,xs,rfl,hx,q1,q2⟩:=h
 by_cases hw:HT.cV xs.length 0 lo=0/\HT.cV xs.length xs.length hi=xs.length
 .cases rx
  obtain⟨aK,r,ht,hz⟩:=I.tuple hx
  have hlen:aK.toArray.size=xs.length:=by rw[gZ];exact r.length.symm
  refine⟨"tuple",_,PyProof.Rows.slot_tuple_getitem.lookup,ht.typeIs,?_⟩
  refine HT.ahu ht hs pl pu (by rw[hlen];exact hw) ?_
  refine⟨.ref a,H,I,rfl,q1 ?_⟩
  unfold uW;rw[hw.1,hw.2];simp
 .exact aor au s σ H _ v vl vu lo hi sl Q I rx hs pl pu ⟨a,xs,rfl,hx,hw,q2⟩
end
end L2
namespace HT
open PySem PySem.Spec PyProof.Rows
open Sem (wp)
open Builtin
end HT
namespace L2
open PySem PySem.Spec PyProof.Rows PySem.W
section
variable{Γ:Yg}{K:aZ}
end
section
variable{Γ:Yg}{K:aZ}
end
section
variable{Γ:Yg}{K:aZ}
end
section
variable{X:Cx}
theorem ajt(hu:X.A.units+64<iM):dU X (iG .NotEq) (λx y H Q=>∃d e,RX H d x/\RX H e y/\nP d=aq/\nP e=aq/\Q (.bl (!PyData.eqv d e)) H):=by
 intro au s σ H x y v u Q I rx ry h
 obtain⟨d,e,hd,he,h1,h2,q⟩:=h
 obtain⟨as,ra⟩:=RD.reads I (hd.rd (K:=X.K)) rx
 obtain⟨bs,rb⟩:=RD.reads I (he.rd (K:=X.K)) ry
 exact ne_dataH ra rb h1 h2 hu ⟨.bl _,H,I,rfl,q⟩
end
theorem Nj{xs:Array Nat}(h:xs.toList.Pairwise (·<·))(hik:i<k)(hk:k<xs.size):xs.getD i d<xs.getD k d:=by
 have h1:=Av.mp h i k (by simpa using RK hik hk) (by simpa using hk) hik;have hi:i<xs.size:=RK hik hk;rw[vz,vz,lX hk,lX hi];simpa using h1
theorem Uw(h:xs.toList.Pairwise (·<·)):∀f lo hi,lo<=hi->hi<=xs.size->hi-lo<=f->(∀i,i<lo->xs.getD i j<j)->(∀i,hi<=i->i<xs.size->j<=xs.getD i j)->
  Kv xs j f lo hi<=xs.size/\(∀i,i<Kv xs j f lo hi->xs.getD i j<j)/\∀i,Kv xs j f lo hi<=i->i<xs.size->j<=xs.getD i j
 |0,lo,hi,h1,h2,h3,h4,h5=>by
  unfold Kv
  exact⟨az,h4,λi a b=>h5 i az b⟩
 |f+1,lo,hi,h1,h2,h3,h4,h5=>by
  unfold Kv;by_cases hlt:lo<hi
  .rw[bG hlt];dsimp only;by_cases hm:xs.getD ((lo+hi) / 2) j<j
   .rw[bG hm];refine Uw h f _ _ az h2 az (λi hi'=>?_) h5;by_cases e:i=(lo+hi) / 2
    .rw[e];exact hm
    .exact RK (Nj h az az) hm
   .rw[bH hm];refine Uw h f _ _ az az az h4 (λi hi' hs=>?_);by_cases e:i=(lo+hi) / 2
    .rw[e];lia
    .have:=Nj (d:=j) h (show(lo+hi) / 2<i by lia) hs;lia
  .rw[bH hlt]
   exact⟨az,h4,λi a b=>h5 i az b⟩
theorem Tz(j:Nat)(h:xs.toList.Pairwise (·<·)):kI xs j<=xs.size/\(∀i,i<kI xs j->xs.getD i j<j)/\∀i,kI xs j<=i->i<xs.size->j<=xs.getD i j:=
 Uw h xs.size 0 xs.size (lC _) (cz _) az (λi hi=>az) (λi a b=>az)
theorem adH(h:xs.toList.Pairwise (·<·)):kI xs 0=0:=by
 obtain⟨_,b,_⟩:=Tz 0 h
 cases e:kI xs 0 with
 |zero=>rfl
 |succ n=>have:=b 0 az;lia
theorem abq(h:xs.toList.Pairwise (·<·))(hi:i<xs.size):kI xs (xs[i]+1)=i+1:=by
 obtain⟨a,b,c⟩:=Tz (xs[i]+1) h
 have e:∀k d,(hk:k<xs.size)->xs.getD k d=xs[k]:=λk d hk=>by rw[vz,lX hk];rfl
 have mono:∀p q,(hp:p<xs.size)->(hq:q<xs.size)->p<q->xs[p]<xs[q]:=λp q hp hq pq=>by
  have:=Nj (d:=0) h pq hq
  rwa [e p 0 hp,e q 0 hq] at this
 by_cases h1:kI xs (xs[i]+1)<=i
 .have:=c i h1 hi;rw[e i _ hi] at this;lia
 .by_cases h2:kI xs (xs[i]+1)=i+1
  .exact h2
  .have hs:i+1<xs.size:=az;have:=b (i+1) az;rw[e _ _ hs] at this;have:=mono i (i+1) hi hs az;lia
structure kW(b:Bool)(t:Bx):Prop where
 led:t.led=b
 YM:t.dummies=#[]
 YQ:t.place.toList.Pairwise (·<·)
theorem kW.standIn(h:kW b t)(n:Nat):kW b (t.standIn n):=⟨h.led,rfl,by simpa[SetTable.standIn] using Zy⟩
theorem kW.orStandIn(h:kW b t)(n:Nat):kW b (t.orStandIn n):=by
 unfold SetTable.orStandIn;split
 .exact h
 .exact h.standIn n
theorem has_none(j:Nat):aiT #[] j=aM:=rfl
theorem abr(hd:t.dummies=#[])(f:Nat->Int)(h:Int):∀fuel (p:SetTable.Probe) j d,p.dummy=aj->Z3 t f h fuel p=aa (.empty j d)->d=aj/\t.slot j=.empty
 |0,p,j,d,_,e=>by simp[Z3] at e
 |fuel+1,p,j,d,hp,e=>by
  unfold Z3 at e;have adv:(t.advance p).dummy=aj:=by
   unfold SetTable.advance;split<;>exact hp
  cases hs:t.slot p.j with
  |empty=>
   rw[hs] at e;simp only[Ri,atR] at e
   exact⟨by rw[<-e.2];exact hp,by rw[<-e.1];exact hs⟩
  |dummy=>
   unfold aiC at hs;rw[hd] at hs;simp only[has_none] at hs;split at hs
   .cases hs
   .simp at hs
  |live i=>
   rw[hs] at e;simp only at e;split at e
   .cases e
   .exact abr hd f h fuel _ j d adv e
theorem aju(h:xs.toList.Pairwise (·<·))(hn:xs[kI xs j]?≠aa j):(SetTable.insertAt xs (kI xs j) j).toList.Pairwise (·<·):=by
 obtain⟨a,b,c⟩:=Tz j h
 rw[SetTable.toList_insertAt];have h':=h;rw[<-List.take_append_drop (kI xs j) xs.toList,ahn] at h'
 obtain⟨h1,h2,h3⟩:=h'
 have e:∀k d,(hk:k<xs.size)->xs.getD k d=xs.toList[k]'(by simpa using hk):=λk d hk=>by rw[vz,lX hk];simp
 have lo:∀x,x∈xs.toList.take (kI xs j)->x<j:=λx hx=>by
  obtain⟨i,hi,rfl⟩:=vB hx
  have hi':i<kI xs j:=by simp at hi;lia
  have:=b i hi';rw[e i j az] at this;rw[ahP];exact this
 have hi:∀x,x∈xs.toList.drop (kI xs j)->j<x:=λx hx=>by
  obtain⟨i,hi,rfl⟩:=vB hx
  have hs:kI xs j+i<xs.size:=by simp at hi;lia
  have h0:=c (kI xs j) (cz _) az;have ne:xs.getD (kI xs j) j≠j:=λz=>hn (by
   have hb:kI xs j<xs.size:=az;rw[vz,lX hb] at z;rw[lX hb];simpa using z)
  rw[List.getElem_drop,<-e _ j hs];by_cases z:i=0
  .subst z;simp only[Nat.add_zero];lia
  .have:=Nj (d:=j) h (show kI xs j<kI xs j+i by lia) hs;lia
 rw[ahn]
 refine⟨h1,vC.mpr ⟨hi,h2⟩,λx hx y hy=>?_⟩
 rcases bW.mp hy with rfl|hy
 .exact lo x hx
 .exact h3 x hx y hy
theorem kW.layNew(h:kW b t)(es:Array (Int×aN))(hs:Int)(x:aN):kW b (layNew t es hs x).2.1:=by
 unfold PySem.layNew;cases hf:t.freeSlot hs with
 |none=>exact h.standIn _
 |some q=>
  obtain⟨slot,wd⟩:=q
  have free:t.slot slot=.empty:=by
   unfold SetTable.freeSlot at hf;split at hf
   .rename_i j d hp
    obtain⟨rfl,hj⟩:=abr h.YM _ _ _ _ _ _ rfl hp
    simp only[Ri,aiD] at hf;rw[<-hf.1];exact hj
   .cases hf
  have hn:t.place[kI t.place slot]?≠aa slot:=λz=>by
   unfold aiC at free;simp[z] at free
  show kW b ((t.put slot).1.orStandIn _);refine kW.orStandIn (t:=(t.put slot).1) ⟨h.led,?_,aju h.YQ hn⟩ _
  show(if aiT t.dummies slot then _ else t.dummies)=#[]
  rw[h.YM];rfl
theorem kW.relayAll(h:kW b t)(es:Array (Int×aN))(n:Nat):kW b (relayAll t es n).2.1:=by
 unfold KH;split
 .rename_i t' order hr;dsimp only;split
  .unfold SetTable.relaid SetTable.laid at hr;cases ho:SetTable.layClean (SetTable.sizeAbove n-1) (es.map (·.1)) with
   |none=>simp[ho] at hr
   |some owner=>
    simp only[ho,Option.bind_eq_bind,jx,Option.pure_def,Ri,aiD] at hr;rw[<-hr.1]
    refine⟨h.led,rfl,?_⟩
    simp only[List.map_filterMap];refine atZ _ (λx y hxy=>?_) Zy;intro u hu v hv;simp only[xj] at hu hv
    obtain⟨p,⟨_,_,rfl⟩,rfl⟩:=hu
    obtain⟨q,⟨_,_,rfl⟩,rfl⟩:=hv
    exact hxy
  .exact h.standIn _
 .exact h.standIn _
theorem kW.plain(h:kW b t)(v:Bool):kW b {t with plain:=v}:=⟨h.led,h.YM,h.YQ⟩
theorem kW.fresh(b:Bool):kW b (.fresh 0 0 b):=⟨rfl,rfl,.nil⟩
end L2
namespace L2
open PySem PySem.Spec PySem.W
section
variable{prog:fj}{w:c7}{T:Type}[DecidableEq T](knd:Bg prog w T)
def bt(w:c7):Bool:=!(w.params.followText "set-order")
inductive mK:List (Int×aN)->List T->Prop
 |nil:mK [] []
 |cons {e:Int×aN} {k:T} {es:List (Int×aN)} {ks:List T}:(knd.is k e.2=aq/\e.1=knd.hash k/\e.2.scannable=aq)->mK es ks->mK (e::es) (k::ks)
def rY(h:cg)(a:aC)(ks:List T):Prop:=∃o es ep t,h.get? a=aa o/\o.ExactSet/\o.data=.set es ep t/\(∃ks',mK knd es.toList ks'/\ks'.Perm ks)/\es.size<sX/\t.fits es.size=aq/\kW (bt w) t
def nG(ks:List T)(k:T):List T:=if k∈ks then ks else ks++[k]
variable{knd}
theorem mK.elems(h:mK knd es ks):ElemsOf knd es:=by
 induction h with
 |nil=>intro e he;cases he
 |cons a _ ih=>
  intro e he;rcases bW.mp he with rfl|he
  .exact⟨⟨_,a.1,a.2.1⟩,a.2.2⟩
  .exact ih e he
theorem mK.len(h:mK knd es ks):es.length=ks.length:=by
 induction h with
 |nil=>rfl
 |cons _ _ ih=>simp[ih]
theorem mK.perm(p:es'.Perm es):∀{ks:List T},mK knd es ks->∃ks',mK knd es' ks'/\ks'.Perm ks:=by
 induction p with
 |nil=>intro ks h;exact⟨ks,h,.refl _⟩
 |cons x _ ih=>
  intro ks h;cases h with
  |cons a r=>
   obtain⟨ks',h1,h2⟩:=ih r
   exact⟨_::ks',.cons a h1,h2.cons _⟩
 |swap x y l=>
  intro ks h;cases h with
  |cons a r=>
   cases r with
   |cons b r=>exact⟨_::_::_,.cons b (.cons a r),.swap ..⟩
 |trans _ _ ih1 ih2=>
  intro ks h
  obtain⟨k2,h1,p1⟩:=ih2 h
  obtain⟨k3,h2,p2⟩:=ih1 h1
  exact⟨k3,h2,p2.trans p1⟩
theorem mK.push(h:mK knd es ks)(hk:knd.is k x=aq)(hx:x.scannable=aq):mK knd (es++[(knd.hash k,x)]) (ks++[k]):=by
 induction h with
 |nil=>exact .cons ⟨hk,rfl,hx⟩ .nil
 |cons a _ ih=>exact .cons a ih
theorem mK.mem(h:mK knd es ks)(hm:x∈es)(hp:knd.is k x.2=aq):k∈ks:=by
 induction h with
 |nil=>cases hm
 |cons a _ ih=>
  rcases bW.mp hm with rfl|hm
  .cases knd.inj _ _ _ hp a.1;exact cX ..
  .exact dM _ (ih hm)
theorem mK.none(h:mK knd es ks)(e:es.findIdx? (λe=>knd.is k e.2)=.none):k∉ks:=by
 have e':=List.findIdx?_eq_none_iff.mp e;clear e;induction h with
 |nil=>intro h;cases h
 |cons a _ ih=>
  intro hm;rcases bW.mp hm with rfl|hm
  .have:=e' _ (cX ..);rw[a.1] at this;cases this
  .exact ih (λx hx=>e' x (dM _ hx)) hm
theorem adI{h:cg}{a:aC}{o:Obj}{ep:Nat}(ho:h.get? a=aa o)(ex:o.ExactSet)(hd:o.data=.set es ep t)(e:∃ks',mK knd es'.toList ks'/\ks'.Perm ks)
  (hb:es'.size<sX)(hf:t'.fits es'.size=aq)(tb:kW (bt w) t'):
  ∃o',(h.update a (Sx es' t')).get? a=aa o'/\o'.ExactSet/\o'.data=.set es' (ep+1) t'/\rY knd (h.update a (Sx es' t')) a ks:=by
 have g:=vA (Sx es' t') ho (by rw[putSet_of es' t' hd];rfl);rw[putSet_of es' t' hd] at g
 exact⟨_,g,ex,rfl,_,es',ep+1,t',g,ex,rfl,e,hb,hf,tb⟩
theorem amQ(hk:knd.is k x=aq)(hx:x.scannable=aq)(hS:rY knd s.heap a ks)(room:ks.length+1<sX)
  (h:∀b h',zb a s.heap h'->rY knd h' a (nG ks k)->Q b {s with heap:=h'}):aW (model prog w) A (setAddHashed a x (knd.hash k)) Q E s:=by
 obtain⟨o,es,ep,t,ho,ex,hd,⟨k0,ek,pk⟩,hb,hf,tb⟩:=hS
 have sz:es.size=ks.length:=by rw[<-m9,ek.len,pk.length_eq]
 have el:=ek.elems;have mono:∀{u:Unit->bh->Prop}{s1:bh}(g:Bool),u () s1->∀r:Sem Unit,(r=rule "set.scan.the-table-gave-way"\/r=pure ())->aW (model prog w) A r u E s1:=λg hu r hr=>by
  rcases hr with rfl|rfl
  .exact sV hu
  .exact bA hu
 unfold setAddHashed setAddHashedIn;refine nj (aF (GQ ho hd hf ?_));simp only[byScan_of hx hb el,if_true];unfold setAddByScan;refine aF (aF (sV (aF (wpAny_setScan_of hk ho hd hf el ?_))));cases hr:es.toList.findIdx? (λe=>knd.is k e.2) with
 |some j=>
  obtain⟨hj,hp,_⟩:=List.findIdx?_eq_some_iff_getElem.mp hr
  have hm:k∈ks:=pk.mem_iff.mp (ek.mem (xF hj) hp);refine bA (bA (h _ s.heap (Z4 a s.heap) ?_));rw[nG,bG hm]
  exact⟨o,es,ep,t,ho,ex,hd,⟨k0,ek,pk⟩,hb,hf,tb⟩
 |none=>
  have hm:k∉ks:=λz=>ek.none hr (pk.mem_iff.mpr z)
  have pn:=layNew_perm t es (knd.hash k) x;have fn:=layNew_fits t es (knd.hash k) x;have tn:=tb.layNew es (knd.hash k) x;dsimp only;generalize layNew t es (knd.hash k) x=L at pn fn tn⊢
  obtain⟨es1,t1,wd,gv⟩:=L
  dsimp only at pn fn tn⊢;rw[ahQ] at pn
  obtain⟨k1,e1,p1⟩:=(ek.push hk hx).perm pn
  have ak:nG ks k=ks++[k]:=by rw[nG,bH hm]
  have q1:∃ks',mK knd es1.toList ks'/\ks'.Perm (nG ks k):=⟨k1,e1,by rw[ak];exact p1.trans (pk.append_right _)⟩
  have vd:es1.size=es.size+1:=by rw[<-m9,pn.length_eq,fO,m9];rfl
  have b1:es1.size<sX:=az;refine aF (mono gv ?_ _ (by cases gv<;>first|exact .inl rfl|exact .inr rfl));have tail:∀t2:Bx,t2.fits es1.size=aq->kW (bt w) t2->aW (model prog w) A (do
    storeSet a es1 t2
    if(!wd&&t2.tooFull)=aq then do
      (match(KH t2 es1 (DK es1.size)).2.2 with|true=>rule "set.scan.the-table-gave-way" |false=>pure ())
      storeSet a (KH t2 es1 (DK es1.size)).1 (KH t2 es1 (DK es1.size)).2.1
      pure (aa aq)
     else pure (aa aq)) (λr s'=>aW (model prog w) A (match r with|some added=>pure added|none=>setAddHashedIn a x (knd.hash k) 99999) Q E s') E s:=λt2 f2 tb2=>by
   obtain⟨o1,g1,ex1,d1,S1⟩:=adI (knd:=knd) ho ex hd q1 b1 f2 tb2
   refine aF (ahR ho hd ?_ (Z5 b1));have Cy:=rA s.heap a (Sx es1 t2);split
   .have pr:=relayAll_perm t2 es1 (DK es1.size);have fr:=relayAll_fits t2 es1 (DK es1.size);have tr:=tb2.relayAll es1 (DK es1.size);generalize KH t2 es1 (DK es1.size)=L2 at pr fr tr⊢
    obtain⟨es2,t3,gv2⟩:=L2
    dsimp only at pr fr tr⊢
    obtain⟨k2,e2,p2⟩:=q1
    obtain⟨k3,e3,p3⟩:=e2.perm pr
    have sz2:es2.size=es1.size:=by rw[<-m9,pr.length_eq,m9]
    have b2:es2.size<sX:=az;refine aF (mono gv2 ?_ _ (by cases gv2<;>first|exact .inl rfl|exact .inr rfl));refine aF (ahR g1 d1 ?_ (Z5 b2))
    obtain⟨_,_,_,_,S2⟩:=adI (knd:=knd) g1 ex1 d1 ⟨k3,e3,p3.trans p2⟩ b2 fr tr
    exact bA (bA (h _ _ (Cy.trans (rA ..)) S2))
   .exact bA (bA (h _ _ Cy S1))
  split
  .refine aF ?_;rw[hashByValue_scannable 8 hx];refine bA ?_;by_cases hv:plainKind x=aq
   .simp only[hv,if_true];exact tail t1 fn tn
   .simp only[hv,pW,if_false];exact tail _ (SetTable.fits_plain_off fn) (tn.plain aM)
  .refine aF (bA ?_);simp only[if_true];exact tail t1 fn tn
end
section
variable{T:Type}[DecidableEq T]
def dedup(ks:List T):List T:=ks.foldl nG []
theorem ajv(ks:List T)(k:T):dedup (ks++[k])=nG (dedup ks) k:=by simp[dedup,Z6]
theorem ale{k x:T}:x∈nG ks k↔x∈ks\/x=k:=by
 unfold nG;split
 .rename_i h
  exact⟨.inl,λz=>z.elim id λe=>e▸h⟩
 .simp
theorem aav:∀(ks as:List T),x∈ks.foldl nG as↔x∈as\/x∈ks
 |[],as=>by simp
 |k::ks,as=>by rw[Dy,aav,ale,bW,or_assoc]
theorem akd{x:T}:x∈dedup ks↔x∈ks:=by
 rw[dedup,aav];simp
theorem ajw{k:T}(h:ks.Nodup):(nG ks k).Nodup:=by
 unfold nG;split
 .exact h
 .rename_i hk;exact jF.mpr ⟨h,bI,λa ha b hb=>by rw[gk] at hb;rintro rfl;exact hk (hb▸ha)⟩
theorem aab:∀(ks as:List T),as.Nodup->(ks.foldl nG as).Nodup
 |[],_,h=>h
 |k::ks,_,h=>aab ks _ (ajw h)
theorem ai8(ks:List T):(dedup ks).Nodup:=aab ks [] .nil
theorem alf(ks:List T)(k:T):(nG ks k).length<=ks.length+1:=by
 unfold nG;split<;>simp
theorem aaw:∀(ks as:List T),(ks.foldl nG as).length<=as.length+ks.length
 |[],_=>by simp
 |k::ks,as=>by
  have h1:=aaw ks (nG as k);have h2:=alf as k;simp only[Dy,dW];lia
theorem abU(ks:List T):(dedup ks).length<=ks.length:=by simpa[dedup] using aaw ks []
end
section
variable{prog:fj}{w:c7}{T:Type}[DecidableEq T]{knd:Bg prog w T}{A:gV}{E:aN->bh->Prop}{s:bh}
theorem rY.at(H:rY knd h a ks)(e:∀o,h.get? a=aa o->h'.get? a=aa o):rY knd h' a ks:=
 let ⟨o,es,ep,t,ho,r⟩:=H
 ⟨o,es,ep,t,e o ho,r⟩
theorem rY.ty(H:rY knd s.heap a ks):s.TypeIs (.ref a) "set":=let ⟨o,_,_,_,ho,ex,_⟩:=H;⟨o,ho,ex.1⟩
end
section
variable{prog:fj}{w:c7}{T:Type}[DecidableEq T]{knd:Bg prog w T}{A:gV}{E:aN->bh->Prop}{s:bh}
def tZ(w:c7):Obj:={cls:=.type "set",dict:=aj,data:=.set #[] 0 (.fresh 0 0 (bt w))}
theorem aoH(g:h.get? a=aa (tZ w)):rY knd h a []:=⟨_,#[],0,_,g,⟨rfl,rfl,rfl⟩,rfl,⟨[],.nil,.refl _⟩,aR,rfl,kW.fresh _⟩
end
theorem acD:Manifest.owners.lookup (String.ofList "rotareti_tes".toList.reverse)=aa Manifest.sig_set_iterator:=by kernel_rfl
theorem uB:Slot "set_iterator" "__next__" "set_iterator.__next__":=.of (owner:="set_iterator") (n:="__next__") (by rw[typeLookup_type,ahh];kernel_rfl) bw bw bw (by first|exact .inl bw|exact .inr bw) (by rw[aax];kernel_rfl)
theorem adJ:Slot "set_iterator" "__iter__" "set_iterator.__iter__":=.of (owner:="set_iterator") (n:="__iter__") (by rw[typeLookup_type,ahh];kernel_rfl) bw bw bw (by first|exact .inl bw|exact .inr bw) (by rw[aax];kernel_rfl)
theorem Mg:Ux table "set_iterator.__next__"=aa oK.«set_iterator.__next__»:=entryFor_of_tree (by kernel_rfl)
theorem ake:Ux table "set_iterator.__iter__"=aa oK.«dict_keyiterator.__iter__»:=entryFor_alias (id':="dict_keyiterator.__iter__") (by kernel_rfl) rfl bw (by kernel_rfl)
theorem ajx:Ux table "set.__iter__"=aa oK.«frozenset.__iter__»:=entryFor_alias (id':="frozenset.__iter__") (by kernel_rfl) rfl bw (by kernel_rfl)
theorem Mh(a:aN):Ca "set_iterator.__next__" ⟨[a],[]⟩:=by
 unfold Ca;rw[signature?_of (id:="set_iterator.__next__") (n:="__txen__".toList) (o:="rotareti_tes".toList) (by kernel_rfl) acD];kernel_rfl
theorem akf(a:aN):Ca "set_iterator.__iter__" ⟨[a],[]⟩:=by
 unfold Ca;rw[signature?_of (id:="set_iterator.__iter__") (n:="__reti__".toList) (o:="rotareti_tes".toList) (by kernel_rfl) acD];kernel_rfl
section
variable{prog:fj}{w:c7}{A:gV}{E:aN->bh->Prop}{s:bh}{it S:aC}{es:Array (Int×aN)}{ep i n:Nat}{t:Bx}{first:aN}
def oX(b:Bool)(h:cg)(a:aC)(es:Array (Int×aN))(ep:Nat)(t:Bx):Prop:=∃o,h.get? a=aa o/\o.ExactSet/\o.data=.set es ep t/\t.fits es.size=aq/\kW b t
theorem oX.at(H:oX b h a es ep t)(e:∀o,h.get? a=aa o->h'.get? a=aa o):oX b h' a es ep t:=let ⟨o,ho,r⟩:=H;⟨o,e o ho,r⟩
def mY(h:cg)(it S:aC)(first:aN)(i n ep:Nat):Prop:=∃o,h.get? it=aa o/\o.cls=.type "set_iterator"/\o.data=.fields #[first,jo i,.ref S,jo n,jo ep]
theorem mY.at(H:mY h it S first i n ep)(e:∀o,h.get? it=aa o->h'.get? it=aa o):mY h' it S first i n ep:=let ⟨o,ho,r⟩:=H;⟨o,e o ho,r⟩
theorem mY.ty(H:mY s.heap it S first i n ep):s.TypeIs (.ref it) "set_iterator":=let ⟨o,ho,c,_⟩:=H;⟨o,ho,c⟩
theorem mY.set{h:cg}{j:Nat}{o:Obj}(ho:h.get? it=aa o)(hc:o.cls=.type "set_iterator")(hd:o.data=.fields vs):
  ∃o',(h.update it (aaF (·.setIfInBounds j x))).get? it=aa o'/\o'.cls=.type "set_iterator"/\o'.data=.fields (vs.setIfInBounds j x):=
 ⟨_,vA _ ho (ZF (GJ hd _)),(Z2 ..).trans hc,by rw[GJ hd]⟩
theorem VM(hit:mY s.heap it S first i n ep)(h:Q (.ref it) s):aW (model prog w) A (Ez (.ref it)) Q E s:=by
 refine Z0 hit.ty adJ (nQ adJ hit.ty ake (show aW _ _ (ret (.ref it)) _ _ s from ?_) (akf _));exact bA ⟨_,rfl,"set_iterator",_,hit.ty,uB.lookup,h⟩
theorem adK{slot:Nat}(hit:mY s.heap it S (jo slot) i n ep)(hs:oX (bt w) s.heap S es ep t)(hn:n=es.size)(ne:S≠it)
  (nx:∀{B:gV}{E':aN->bh->Prop}{C:Option (aN×Nat)->bh->Prop},C R s->aW (model prog w) B (Ii S slot i ep) C E' s){x:aN}{nxt:Nat}(hR:R=aa (x,nxt))
  (h:∀h',mY h' it S (jo nxt) (i+1) n ep->zb it s.heap h'->Q (aa x) {s with heap:=h'}):aW (model prog w) A (j6 (.ref it)) Q E s:=by
 obtain⟨o,ho,hc,hd⟩:=id hit
 obtain⟨os,hos,exs,hds,hf,tb⟩:=id hs
 unfold j6;refine aF (Bh (uf (name:=bz "__next__") hit.ty uB (nQ uB hit.ty Mg ?_ (Mh _))));unfold oK.«set_iterator.__next__»;refine aF (bA (aF (Bf ho hd ?_)));dsimp only[jo];refine aF (Kh hos hds hf ?_);subst hn;subst hR;rw[bH bI];refine aF (nx ?_);dsimp only;refine aF (xJ ho hd bI ?_)
 obtain⟨o1,g1,c1,d1⟩:=mY.set (j:=0) (x:=.int nxt 0) ho hc hd
 refine aF (xJ g1 d1 bI ?_)
 obtain⟨o2,g2,c2,d2⟩:=mY.set (j:=1) (x:=.int (i+1) 0) g1 c1 d1
 refine bA ⟨_,rfl,bA (h _ ⟨o2,g2,c2,?_⟩ ((rA ..).trans (rA ..)))⟩;rw[d2];simp[jo]
theorem adL(hh:A.handled=aj)(h:∀h',(∀b o,s'.heap.get? b=aa o->h'.get? b=aa o)->Q aj {s' with heap:=h'}):
  aW (model prog w) A.in1 (do let e <-Iz (.type "StopIteration") [];(Ut e:Sem Fin)) (λfin s1=>∃v,fin=Fin.done (Flow.ret v)/\aW (model prog w) A (pure (aa v)) Q E s1)
   (λe s1=>aW (model prog w) A (do if(<-isInstance e (Hh "StopIteration"))=aq then pure aj else throw e) Q E s1) s':=by
 refine aF ?_;simp only[Iz,Us];refine aF (lZ ?_ (by size_fits));refine aF (m:=GZ _ _) (La (a:=j4) (by first|rfl|(simp only[GZ];rfl)) ?_);refine lZ ?_ (by size_fits);simp only[Ut];refine aF (aaG ?_);rw[show A.in1.handled=aj from hh];refine aF (bA (aa8 ?_));refine aF (Rn (T:="StopIteration") (b:=aq) ⟨_,gj _ rfl,rfl⟩ aau ?_);exact bA (h _ λb o e=>cD _ (cD _ e))
theorem aeN{slot:Nat}(hh:A.handled=aj)(hit:mY s.heap it S (jo slot) i n ep)(hs:oX (bt w) s.heap S es ep t)(hn:n=es.size)
  (nx:∀{B:gV}{E':aN->bh->Prop}{C:Option (aN×Nat)->bh->Prop},C aj s->aW (model prog w) B (Ii S slot i ep) C E' s)
  (h:∀h',(∀b o,b≠it->s.heap.get? b=aa o->h'.get? b=aa o)->Q aj {s with heap:=h'}):aW (model prog w) A (j6 (.ref it)) Q E s:=by
 obtain⟨o,ho,hc,hd⟩:=id hit
 obtain⟨os,hos,exs,hds,hf,tb⟩:=id hs
 unfold j6;refine aF (Bh (uf (name:=bz "__next__") hit.ty uB (nQ uB hit.ty Mg ?_ (Mh _))));unfold oK.«set_iterator.__next__»;refine aF (bA (aF (Bf ho hd ?_)));dsimp only[jo];refine aF (Kh hos hds hf ?_);subst hn;rw[bH bI];refine aF (nx ?_);dsimp only;refine aF (xJ ho hd bI ?_);exact adL hh λh' kk=>h h' λb o hb e=>kk b o (((rA ..).2 b hb).trans e)
end
section
variable{prog:fj}{w:c7}{A:gV}{E:aN->bh->Prop}{s:bh}{it S:aC}{ep i n:Nat}{t:Bx}{first:aN}
theorem Nk(h:Q (!bt w) s):aW (model prog w) A abt Q E s:=by
 unfold abt;refine aF (Ro (bA ?_));have h':Q (w.params.followText "set-order") s:=by simpa[bt] using h
 exact h'
theorem Sy:∀{l:List α}{j:Nat}(h:j<l.length),(l[j]::l.eraseIdx j).Perm l
 |[],j,h=>by cases h
 |a::l,0,h=>.refl _
 |a::l,j+1,h=>by
  have:=Sy (l:=l) (j:=j) (by simpa using h);simp only[List.getElem_cons_succ,List.eraseIdx_cons_succ]
  exact(aay ..).trans (this.cons a)
theorem abV(hs:oX (bt w) s.heap S es ep t)(hb:bt w=aq)(nd:(!t.plain&&decide (es.size>1))=aM)
  (h:C (match es[kI t.place slot]?,t.place[kI t.place slot]? with|some (_,x),some j=>aa (x,j+1)|_,_=>aj) s):aW (model prog w) A (Ii S slot i ep) C E s:=by
 obtain⟨o,ho,ex,hd,hf,tb⟩:=hs
 unfold Ii;refine aF (GQ ho hd hf ?_);refine aF (Nk ?_);rw[hb];simp only[aiE,pW,if_false];refine Rt (λz=>?_) (λ_=>?_)
 .have z':(!t.plain&&decide (es.size>1))=aq:=z;rw[nd] at z';cases z'
 refine aF (show aW _ _ (if(!t.led&&!es.isEmpty)=aq then _ else _) _ _ _ from ?_);rw[tb.led,hb];simp only[aiE,aar,pW,if_false];exact bA (bA h)
theorem abW(hs:oX (bt w) s.heap S es ep t)(hb:bt w=aM)
  (h:C (((Bv (w.params.setOrder S ep) es)[i]?).map λe=>(e.2,slot)) s):aW (model prog w) A (Ii S slot i ep) C E s:=by
 obtain⟨o,ho,ex,hd,hf,tb⟩:=hs
 unfold Ii;refine aF (GQ ho hd hf ?_);refine aF (Nk ?_);rw[hb];simp only[aip,if_true,bne_self_eq_false,pW,if_false];refine aF ?_;unfold setWalk;refine aF (GQ ho hd hf ?_);refine aF (Nk ?_);rw[hb];simp only[aip,if_true];refine aF (Ro (bA ?_));exact bA h
theorem adM(f:Nat->Nat):∀(m k:Nat)(left:List α)(out:Array α),left.length=m->(aaU f m k left out).toList.Perm (out.toList++left)
 |0,k,left,out,h=>by
  unfold aaU;rw[ag7.mp h];simp
 |m+1,k,left,out,h=>by
  unfold aaU;have hl:f k%left.length<left.length:=Nat.mod_lt _ az;rw[jb hl];dsimp only
  refine(adM f m (k+1) _ _ (by rw[aho];simp[hl];lia)).trans ?_
  rw[ahQ,kE];refine ahi _ ?_;exact Sy hl
theorem TF(f:Nat->Nat)(xs:Array α):(Bv f xs).toList.Perm xs.toList:=by
 have:=adM f xs.size 0 xs.toList #[] bI;simpa[Bv] using this
theorem alg(hm:m≠0)(h:∀j d,j<m->Q j {s with drawn:=d}):aW (model prog w) A (choose src m) Q E s:=λΓ p _=>⟨hm,h _ _ (Nat.mod_lt _ (Nat.pos_of_ne_zero hm))⟩
theorem acE:∀(m:Nat)(xs:List α)(s:bh)(Q:List α->bh->Prop),xs.length=m->(∀ys d,ys.Perm xs->Q ys {s with drawn:=d})->aW (model prog w) A (drawOrder m xs) Q E s
 |0,xs,s,Q,hl,h=>by
  unfold drawOrder;rw[ag7.mp hl] at h;exact bA (h [] s.drawn (.refl _))
 |m+1,[],s,Q,hl,h=>by cases hl
 |m+1,x::xs,s,Q,hl,h=>by
  unfold drawOrder;refine aF (alg bI λj d hj=>?_);rw[jb hj];dsimp only;refine aF (acE m _ _ _ (by rw[aho,bG hj];simpa using hl) λys d' hp=>?_);exact bA (h _ d' ((hp.cons _).trans (Sy hj)))
end
def Gq(h:cg)(pl:aC)(ps:List Nat):Prop:=∃o c,h.get? pl=aa o/\o.data=.seq (ps.map λk:Nat=>jo k).toArray c
theorem Gq.at(H:Gq h pl ps)(e:∀o,h.get? pl=aa o->h'.get? pl=aa o):Gq h' pl ps:=let ⟨o,c,ho,r⟩:=H;⟨o,c,e o ho,r⟩
theorem amR(hit:mY s.heap it S (.ref pl) i n ep)(hs:oX (bt w) s.heap S es ep t)(hp:Gq s.heap pl ps)(hn:n=es.size)(hk:ps[i]?=aa k)(he:es[k]?=aa e)
  (h:∀h',mY h' it S (.ref pl) (i+1) n ep->zb it s.heap h'->Q (aa e.2) {s with heap:=h'}):aW (model prog w) A (j6 (.ref it)) Q E s:=by
 obtain⟨o,ho,hc,hd⟩:=id hit
 obtain⟨os,hos,exs,hds,hf,tb⟩:=id hs
 obtain⟨op,cp,hop,hdp⟩:=hp
 unfold j6;refine aF (Bh (uf (name:=bz "__next__") hit.ty uB (nQ uB hit.ty Mg ?_ (Mh _))));unfold oK.«set_iterator.__next__»;refine aF (bA (aF (Bf ho hd ?_)));dsimp only[jo];refine aF (Kh hos hds hf ?_);subst hn;rw[bH bI];refine aF (qy hop hdp ?_);dsimp only;rw[show((ps.map λk:Nat=>jo k).toArray)[((i:Int)).toNat]?=aa (.int (k:Int) 0) by simp[hk,jo]];dsimp only;refine aF ?_;unfold setNextDrawn;refine aF (GQ hos hds hf ?_);simp only[yW,bne_self_eq_false,pW,if_false,he];refine bA (aF (xJ ho hd bI ?_))
 obtain⟨o1,g1,c1,d1⟩:=mY.set (j:=1) (x:=.int (i+1) 0) ho hc hd
 refine bA ⟨_,rfl,bA (h _ ⟨o1,g1,c1,?_⟩ (rA ..))⟩;rw[d1];simp[jo]
theorem aoI(hh:A.handled=aj)(hit:mY s.heap it S (.ref pl) i n ep)(hs:oX (bt w) s.heap S es ep t)(hp:Gq s.heap pl ps)(hn:n=es.size)(hk:ps.length<=i)
  (h:∀h',(∀b o,b≠it->s.heap.get? b=aa o->h'.get? b=aa o)->Q aj {s with heap:=h'}):aW (model prog w) A (j6 (.ref it)) Q E s:=by
 obtain⟨o,ho,hc,hd⟩:=id hit
 obtain⟨os,hos,exs,hds,hf,tb⟩:=id hs
 obtain⟨op,cp,hop,hdp⟩:=hp
 unfold j6;refine aF (Bh (uf (name:=bz "__next__") hit.ty uB (nQ uB hit.ty Mg ?_ (Mh _))));unfold oK.«set_iterator.__next__»;refine aF (bA (aF (Bf ho hd ?_)));dsimp only[jo];refine aF (Kh hos hds hf ?_);subst hn;rw[bH bI];refine aF (qy hop hdp ?_);dsimp only;rw[show((ps.map λk:Nat=>jo k).toArray)[((i:Int)).toNat]?=aj by simp[hk]];dsimp only;refine aF (xJ ho hd bI ?_)
 obtain⟨o1,g1,c1,d1⟩:=mY.set (j:=0) (x:=.int 0 0) ho hc hd
 refine aF (xJ g1 d1 bI ?_);exact adL hh λh' kk=>h h' λb o hb e=>kk b o ((((rA ..).trans (rA ..)).2 b hb).trans e)
theorem akg(hh:A.handled=aj)(ne:S≠it)(hb:bt w=aq)(nd:(!t.plain&&decide (es.size>1))=aM)(hz:t.place.size=es.size)(rs:t.place.toList.Pairwise (·<·)):
  yg prog w A it [it,S] [it] es.size (λi v=>(es.toList.map (·.2))[i]?=aa v) (λi h=>mY h it S (jo (if i=0 then 0 else t.place.getD (i-1) 0+1:Nat)) i es.size ep/\oX (bt w) h S es ep t) where
 sub:=λb hb=>by simp at hb;simp[hb]
 frame:=λ_ _ _ st hk=>⟨st.1.at λo e=>hk it bI o e,st.2.at λo e=>hk S bI o e⟩
 item:=λi s Q E hi st hQ=>by
  have hp:i<t.place.size:=az;have bl:kI t.place (if i=0 then 0 else t.place.getD (i-1) 0+1)=i:=by
   by_cases z:i=0
   .subst z;exact adH rs
   .rw[bH z];have h1:i-1<t.place.size:=az;have:=abq rs h1;rw[vz,lX h1,Ky,this];lia
  refine adK (R:=aa (es[i].2,t.place[i]+1)) st.1 st.2 rfl ne (λc=>abV st.2 hb nd ?_) rfl λh' hit' same=>hQ _ h' s.toks (by simp[hi]) ⟨?_,st.2.at λo e=>(same.2 S ne).trans e⟩ λb o hb e=>(same.2 b λz=>hb (by simp[z])).trans e
  .rw[bl,lX hi,lX hp];exact c
  .have e1:(if i+1=0 then 0 else t.place.getD (i+1-1) 0+1)=t.place[i]+1:=by
    rw[bH az,ahD,vz,lX hp,Ky]
   rw[e1];exact hit'
 done:=λs Q E st hQ=>by
  have bl:kI t.place (if es.size=0 then 0 else t.place.getD (es.size-1) 0+1)=es.size:=by
   by_cases z:es.size=0
   .rw[bG z,z];exact adH rs
   .rw[bH z];have h1:es.size-1<t.place.size:=az;have:=abq rs h1;rw[vz,lX h1,Ky,this];lia
  refine aeN hh st.1 st.2 rfl (λc=>abV st.2 hb nd ?_) λh' kk=>hQ h' s.toks λb o hb e=>kk b o (λz=>hb (by simp[z])) e
  rw[bl,Zx (cz _)];exact c
 self:=λ_ _ _ _ st hQ=>VM st.1 hQ
theorem akh(hh:A.handled=aj)(ne:S≠it)(hb:bt w=aM):
  yg prog w A it [it,S] [it] es.size (λi v=>((Bv (w.params.setOrder S ep) es).toList.map (·.2))[i]?=aa v) (λi h=>mY h it S (jo (0:Nat)) i es.size ep/\oX (bt w) h S es ep t) where
 sub:=λb hb=>by simp at hb;simp[hb]
 frame:=λ_ _ _ st hk=>⟨st.1.at λo e=>hk it bI o e,st.2.at λo e=>hk S bI o e⟩
 item:=λi s Q E hi st hQ=>by
  have hl:(Bv (w.params.setOrder S ep) es).size=es.size:=by rw[<-m9,(TF _ es).length_eq,m9]
  have hp:i<(Bv (w.params.setOrder S ep) es).size:=az;refine adK (R:=aa ((Bv (w.params.setOrder S ep) es)[i].2,0)) st.1 st.2 rfl ne (λc=>abW st.2 hb ?_) rfl λh' hit' same=>hQ _ h' s.toks (by simp[hp]) ⟨hit',st.2.at λo e=>(same.2 S ne).trans e⟩ λb o hb e=>(same.2 b λz=>hb (by simp[z])).trans e
  rw[lX hp];exact c
 done:=λs Q E st hQ=>by
  have hl:(Bv (w.params.setOrder S ep) es).size=es.size:=by rw[<-m9,(TF _ es).length_eq,m9]
  refine aeN hh st.1 st.2 rfl (λc=>abW st.2 hb ?_) λh' kk=>hQ h' s.toks λb o hb e=>kk b o (λz=>hb (by simp[z])) e
  rw[Zx az];exact c
 self:=λ_ _ _ _ st hQ=>VM st.1 hQ
theorem ajy(hh:A.handled=aj)(ne:S≠it)(np:pl≠it)(pp:ps.Perm (gG es.size)):
  yg prog w A it [it,S,pl] [it] es.size (λi v=>(ps.map λk=>(es.getD k (0,.none)).2)[i]?=aa v) (λi h=>mY h it S (.ref pl) i es.size ep/\oX (bt w) h S es ep t/\Gq h pl ps) where
 sub:=λb hb=>by simp at hb;simp[hb]
 frame:=λ_ _ _ st hk=>⟨st.1.at λo e=>hk it bI o e,st.2.1.at λo e=>hk S bI o e,st.2.2.at λo e=>hk pl bI o e⟩
 item:=λi s Q E hi st hQ=>by
  have hl:ps.length=es.size:=by rw[pp.length_eq,pC]
  have hp:i<ps.length:=az;have hk:ps[i]<es.size:=vJ.mp (pp.mem_iff.mp (xF hp));refine amR (k:=ps[i]) (e:=es[ps[i]]) st.1 st.2.1 st.2.2 rfl (jb hp) (lX hk) λh' hit' same=>hQ _ h' s.toks ?_ ⟨hit',st.2.1.at λo e=>(same.2 S ne).trans e,st.2.2.at λo e=>(same.2 pl np).trans e⟩ λb o hb e=>(same.2 b λz=>hb (by simp[z])).trans e
  rw[jw,jb hp,oF,vz,lX hk];rfl
 done:=λs Q E st hQ=>by
  have hl:ps.length=es.size:=by rw[pp.length_eq,pC]
  exact aoI hh st.1 st.2.1 st.2.2 rfl az λh' kk=>hQ h' s.toks λb o hb e=>kk b o (λz=>hb (by simp[z])) e
 self:=λ_ _ _ _ st hQ=>VM st.1 hQ
section
variable{w:c7}{A:gV}{s:bh}{S:aC}{ep:Nat}{t:Bx}
theorem aki(hs:oX (bt w) s.heap S es ep t)(h:Q (bt w&&(!t.plain&&decide (es.size>1))) s):aW (model prog w) A (setDrawn S) Q E s:=by
 obtain⟨os,hos,exs,hds,hf,tb⟩:=id hs
 unfold setDrawn;refine aF (GQ hos hds hf ?_);refine aF (Nk (bA ?_));rw[Bool.not_not];exact h
theorem alh(hh:A.handled=aj)(hs:oX (bt w) s.heap S es ep t)(hb:es.size<sX)
  (h:∀(I:aC)(h1:cg)(d:Drawn)(fp:List aC)(out:List aN)(St:Nat->cg->Prop),yg prog w A I fp [I] es.size (λi v=>out[i]?=aa v) St->St 0 h1->out.Perm (es.toList.map (·.2))->(∀b o,s.heap.get? b=aa o->h1.get? b=aa o)->s.heap.objs.size<=I->
   (∀b∈fp,b=S\/s.heap.objs.size<=b)->Q (.ref I) {s with heap:=h1,drawn:=d}):aW (model prog w) A (Ez (.ref S)) Q E s:=by
 obtain⟨os,hos,exs,hds,hf,tb⟩:=id hs
 have hT:s.TypeIs (.ref S) "set":=⟨os,hos,exs.1⟩
 have lt:S<s.heap.objs.size:=cG hos;have hz:t.place.size=es.size:=by
  have:=hf;simp only[SetTable.fits,jP,beq_iff_eq] at this;exact this.1
 refine Z0 hT aii (nQ aii hT ajx ?_ (F.args_set_iter_1 _));unfold oK.«frozenset.__iter__» at5 atU;refine aF (aF (bA (bA ?_)));refine aF (aF (Kh hos hds hf (bA ?_)));refine aF (aki hs ?_);by_cases hd:(bt w&&(!t.plain&&decide (es.size>1)))=aq
 .rw[bG hd];refine aF (acE _ _ _ _ (pC ..) λps d pp=>?_);have pl:ps.length=es.size:=by rw[pp.length_eq,pC]
  unfold Us;refine aF (lZ ?_ (show(List.map (λi:Nat=>jo i) ps).toArray.size<=cJ by rw[gZ,bJ,pl,jQ];unfold sX at hb;lia));have g1:(s.heap.push {cls:=.type "tuple",data:=.seq (ps.map λk:Nat=>jo k).toArray}).get? S=aa os:=cD _ hos;refine aF (ahS (s:={s with heap:=s.heap.push _,drawn:=d}) g1 hds hf ?_);refine aF ?_;unfold newFields;refine lZ ?_;refine bA ⟨_,rfl,"set_iterator",_,⟨_,gj _ rfl,rfl⟩,uB.lookup,?_⟩;have vd:(s.heap.push {cls:=.type "tuple",data:=.seq (ps.map λk:Nat=>jo k).toArray}).objs.size=s.heap.objs.size+1:=sH ..;refine h _ _ d [_,S,s.heap.objs.size] _ _ (ajy (ep:=ep) (t:=t) hh ?_ ?_ pp) ⟨⟨_,gj _ rfl,rfl,rfl⟩,⟨os,cD _ g1,exs,hds,hf,tb⟩,⟨_,0,cD _ (gj _ rfl),rfl⟩⟩ ?_ (λb o e=>cD _ (cD _ e)) ?_ ?_
  .rw[vd];exact fQ (vG lt)
  .rw[vd];exact fQ (KC _)
  .have e2:(gG es.size).map (λk=>(es.getD k (0,j4)).2)=es.toList.map (·.2):=by
    refine Kz bI λj h1 h2=>?_
    have hj:j<es.size:=by simpa using h1
    simp[vz,lX hj]
   rw[<-e2];exact pp.map _
  .rw[vd];exact G8 _
  .intro b hb';simp only[bW,iT,or_false] at hb';rcases hb' with rfl|rfl|rfl
   .right;rw[vd];exact G8 _
   .exact .inl rfl
   .exact .inr (cz _)
 .rw[bH hd];refine aF (bA ?_);refine aF (ahS hos hds hf ?_);refine aF ?_;unfold newFields;refine lZ ?_;refine bA ⟨_,rfl,"set_iterator",_,⟨_,gj _ rfl,rfl⟩,uB.lookup,?_⟩;have afL:∀b,b∈[s.heap.objs.size,S]->b=S\/s.heap.objs.size<=b:=λb hb'=>by
   simp only[bW,iT,or_false] at hb';rcases hb' with rfl|rfl
   .exact .inr (cz _)
   .exact .inl rfl
  cases hbt:bt w with
  |true=>
   rw[hbt] at hd;have nd:(!t.plain&&decide (es.size>1))=aM:=by simpa using hd
   exact h _ _ s.drawn [_,S] _ _ (akg (ep:=ep) hh (fQ lt) hbt nd hz tb.YQ) ⟨⟨_,gj _ rfl,rfl,rfl⟩,⟨os,cD _ hos,exs,hds,hf,tb⟩⟩ (.refl _) (λb o e=>cD _ e) (cz _) afL
  |false=>
   exact h _ _ s.drawn [_,S] _ _ (akh (ep:=ep) (t:=t) hh (fQ lt) hbt) ⟨⟨_,gj _ rfl,rfl,rfl⟩,⟨os,cD _ hos,exs,hds,hf,tb⟩⟩ ((TF _ es).map _) (λb o e=>cD _ e) (cz _) afL
end
end L2
namespace L2
open PySem PySem.Spec PySem.W PyProof.Rows
section
variable{prog:fj}{w:c7}{A:gV}{E:aN->bh->Prop}{s:bh}{S:aC}{es:Array (Int×aN)}{ep:Nat}{t:Bx}
theorem ali(hT:s.TypeIs (.ref S) "set")(h:Q aM s):aW (model prog w) A (agZ (.ref S)) Q E s:=by
 unfold agZ;refine aF (wpAny_specialOf hT PySem.F.slot_set_len.lookup ?_);generalize hid:("set.__len__":String)=nm
 wp_delta
 rw[show splitId nm=aa ("set","__len__") by subst hid;decide +kernel];subst hid;refine aF (Rn (T:="set") (b:=aq) hT (by rw[aax];kernel_rfl) ?_);refine Rt (λz=>absurd z aR) λ_=>Rt (λ_=>?_) λz=>absurd bw z
 exact aF (K1 hT (bA h))
theorem akj{out:List aN}(h:ItemsOf (λi v=>out[i]?=aa v) bu out.length):bu=out.toArray:=by
 refine Array.ext (by simpa using h.1) λj h1 h2=>?_
 have this:out[j]?=aa bu[j]:=h.2 j bu[j] (lX h1);have hj:j<out.length:=by simpa using h2
 rw[jb hj] at this;simpa using(jy this).symm
theorem ajz{R:zK->bh->Prop}(hh:A.handled=aj)(hs:oX (bt w) s.heap S es ep t)(hb:es.size<sX){L:aC}(ne:L≠S){c0:Nat}(hL:s.heap.get? L=aa {cls:=.type "list",data:=.seq #[] c0})(res:aN)
  (hR:∀(h':cg)(d:Drawn)(tk:Nat)(us:List aN)(c':Nat),us.Perm (es.toList.map (·.2))->(∀b o,b≠L->s.heap.get? b=aa o->h'.get? b=aa o)->h'.get? L=aa {cls:=.type "list",dict:=aj,data:=.seq us.toArray c',slots:=#[]}->
   R (.ok (.ret res)) {s with heap:=h',drawn:=d,toks:=tk}):
  aW (model prog w) A.in1 (Q3 (.ref L) (.ref S) res) (λfin s'=>match fin with|.done f=>R (.ok f) s'|.again c'=>c'.quiet=aq/\lQ (model prog w) A c' R s') (λe s'=>R (.error e) s') s:=by
 obtain⟨os,hos,exs,hds,hf,tb⟩:=id hs
 have hT:s.TypeIs (.ref S) "set":=⟨os,hos,exs.1⟩
 have ltL:L<s.heap.objs.size:=cG hL;unfold Q3;refine aF (K1 hT ?_);rw[show(Zt (.ref L) (.ref S)||Hh "set"==Hh "list"||Hh "set"==Hh "tuple")=aM by
  rw[show Zt (.ref L) (.ref S)=aM by simp[Zt,ne]];decide]
 simp only[pW,if_false];refine aF (alh (A:=A.in1) hh hs hb λI h1 d fp out St W st pm kp geI okf=>?_);have lo:out.length=es.size:=by rw[pm.length_eq,bJ,m9]
 have cO:L∉fp:=λz=>(okf L z).elim ne λz'=>absurd ltL (Hi.mpr z')
 have run:∀(h2:cg)(c1 tk:Nat),St 0 h2->(∀b o,b≠L->s.heap.get? b=aa o->h2.get? b=aa o)->h2.get? L=aa {cls:=.type "list",data:=.seq #[] c1}->
   lQ (model prog w) A (.builtin "list.extend.loop" ⟨[.ref L,.ref I,res],[]⟩) R {s with heap:=h2,drawn:=d,toks:=tk}:=λh2 c1 tk st2 k2 g2=>by
  refine codeAny_extend_loopS W.toS (Z5 hb) L cO res es.size 0 _ #[] c1 rfl (lC _) st2 g2 (ItemsOf.nil _) λs3 bu c3 mv g3 io=>?_
  rw[<-lo] at io;have ea:=akj io;subst ea;rw[Moved.eq_with mv];refine hR s3.heap d s3.toks out c3 pm (λb o nb e=>mv.heap b o (λz=>?_) (k2 b o nb e)) g3;rcases bW.mp z with z|z
  .exact nb z
  .exact absurd (cG e) (by rw[gk.mp z];exact Hi.mpr geI)
 have gL:=kp L _ hL;have gS:Shared.TypeIs {s with heap:=h1,drawn:=d} (.ref S) "set":=⟨os,kp S _ hos,exs.1⟩
 refine aF (nj (ali gS ?_));refine Rt (λ_=>?_) λ_=>bA ⟨uq ag5 _,run h1 c0 s.toks st (λb o _ e=>kp b o e) gL⟩
 refine aF (sV (aF (show aW _ _ (Ho L (·.push .none) >>= λ_=>Ho L (·.pop)) _ _ _ from ?_)));refine aF (Bd gL rfl ?_);have u2:=vA (oJ (·.push j4)) gL rfl;refine Bd (hz:=by seq_fits) u2 rfl ?_;have u3:=vA (oJ (·.pop)) u2 rfl;have far:∀b o,b≠L->h1.get? b=aa o->((h1.update L (oJ (·.push j4))).update L (oJ (·.pop))).get? b=aa o:=λb o nb e=>
  (pR _ _ (j5 nb)).trans ((pR _ _ (j5 nb)).trans e)
 exact bA ⟨uq ag5 _,run _ _ s.toks (W.frame 0 _ _ st λb hb' o e=>far b o (λz=>cO (z▸hb')) e) (λb o nb e=>far b o nb (kp b o e)) u3⟩
theorem ai9(hh:A.handled=aj)(hs:oX (bt w) s.heap S es ep t)(hb:es.size<sX)
  (h:∀(h':cg)(d:Drawn)(tk:Nat)(us:List aN),us.Perm (es.toList.map (·.2))->s.heap.objs.size<=h'.objs.size->(∀b o,s.heap.get? b=aa o->h'.get? b=aa o)->R us {s with heap:=h',drawn:=d,toks:=tk}):
  aW (model prog w) A (collect (.ref S)) R E s:=by
 have ltS:S<s.heap.objs.size:=let ⟨_,e,_⟩:=hs;cG e
 unfold collect;refine aF (wpAny_runValue (xG entry_proto_collect' ?_));rw[xr agY _];show aW _ A.in1 (newList [] >>= λl=>again (.builtin "list.__iadd__" ⟨[l,.ref S],[]⟩)) _ _ s;refine aF (lZ (bA ⟨uq Rc _,xG entry_list_iadd' ?_⟩));rw[xr Rc _];have g0:(s.heap.push {cls:=.type "list",data:=.seq ([]:List aN).toArray}).get? s.heap.objs.size=aa {cls:=.type "list",data:=.seq #[]}:=gj _ rfl;show aW _ A.in1 (Q3 (.ref s.heap.objs.size) (.ref S) (.ref s.heap.objs.size)) _ _ _;have key:=ajz (prog:=prog) (A:=A) (s:={s with heap:=s.heap.push {cls:=.type "list",data:=.seq ([]:List aN).toArray}})
  (R:=λ(q:zK)(s':bh)=>∃(h':cg)(d:Drawn)(tk:Nat)(us:List aN)(c':Nat),q=.ok (.ret (.ref s.heap.objs.size))/\s'={s with heap:=h',drawn:=d,toks:=tk}/\us.Perm (es.toList.map (·.2))/\(∀b o,s.heap.get? b=aa o->h'.get? b=aa o)/\h'.get? s.heap.objs.size=aa {cls:=.type "list",dict:=aj,data:=.seq us.toArray c',slots:=#[]})
  hh (hs.at λo e=>cD _ e) hb (vK ltS) g0 (.ref s.heap.objs.size) (λh' d tk us c' pm kk g=>⟨h',d,tk,us,c',rfl,rfl,pm,λb o e=>kk b o (fQ (cG e)) (cD _ e),g⟩)
 refine sO key (λfin s' x=>?_) λe s' x=>?_
 .cases fin with
  |done f=>
   obtain⟨h',d,tk,us,c',e,rfl,pm,kk,g⟩:=x
   cases e;show aW _ A (load s.heap.objs.size >>= _) _ _ _;exact aF (Ln g (bA (h h' d tk us pm (DN (cG g)) kk)))
  |again c1=>
   refine⟨x.1,KZ x.2 λq s2 y=>?_⟩
   obtain⟨h',d,tk,us,c',rfl,rfl,pm,kk,g⟩:=y
   show aW _ A (load s.heap.objs.size >>= _) _ _ _;exact aF (Ln g (bA (h h' d tk us pm (DN (cG g)) kk)))
 .obtain⟨_,_,_,_,_,e',_⟩:=x
  cases e'
end
section
variable{prog:fj}{w:c7}{A:gV}{E:aN->bh->Prop}{s:bh}{S:aC}{es:Array (Int×aN)}{ep:Nat}{t:Bx}
theorem ajA{Ok:List aN->Prop}(hh:A.handled=aj)(hs:oX (bt w) s.heap S es ep t)(few:es.size<64)
  (srt:∀us:List aN,us.Perm (es.toList.map (·.2))->∀(B:gV)(s1:bh)(a:aC)(n:Nat)(P:Fin->bh->Prop)(E':aN->bh->Prop),s1.heap.get? a=aa (seqObj "list" us.toArray n)->
   (∀out:Array aN,Ok out.toList->P (.done (.ret .none)) {s1 with heap:=sortedHeap s1.heap a us out})->aW (model prog w) B (oK.«list.sort» ⟨[.ref a],[]⟩) P E' s1)
  (h:∀(D:aC)(h':cg)(d:Drawn)(tk c:Nat)(out:Array aN),Ok out.toList->s.heap.objs.size<=D->(∀b o,s.heap.get? b=aa o->h'.get? b=aa o)->h'.get? D=aa (seqObj "list" out c)->Q (.ref D) {s with heap:=h',drawn:=d,toks:=tk}):
  aW (model prog w) A (call (.builtin "sorted") [.ref S]) Q E s:=by
 refine Zn kind_sorted plain_sorted entry_sorted (args_sorted1 _) ?_;unfold oK.«sorted»;refine aF (m:=abo "sorted" 1 1 _) (bA (aF (ai9 (A:=A.in1) hh hs (by unfold sX;lia) λh1 d tk us pm ge kk=>?_)));have lu:us.length=es.size:=by rw[pm.length_eq,bJ,m9]
 refine aF (RJ ?_ (by rw[jQ];lia));have gL:(h1.push (seqObj "list" us.toArray 0)).get? h1.objs.size=aa (seqObj "list" us.toArray 0):=gj _ rfl;refine aF (nj (nQ slot_list_sort ⟨_,gL,rfl⟩ entry_list_sort (srt us pm _ {s with heap:=h1.push (seqObj "list" us.toArray 0),drawn:=d,toks:=tk} _ 0 _ _ gL λout ok=>⟨_,rfl,?_⟩) (args_list_sort _)))
 obtain⟨c,gD⟩:=sortedHeap_at (out:=out) gL
 refine bA ⟨_,rfl,h h1.objs.size _ d tk c out ok ge (λb o e=>?_) gD⟩;have lb:b<h1.objs.size:=cG (kk b o e)
 show(sortedHeap (h1.push (seqObj "list" us.toArray 0)) h1.objs.size us out).get? b=aa o
 rw[sortedHeap_old (fQ lb) (by rw[sH];exact vG lb)];exact cD _ (kk b o e)
end
theorem Inv.drew(d:Drawn)(I:Inv X au σ H s):Inv X au σ H {s with drawn:=d}:=
 I.call (g':=s.gens) (t':=s.toks) (d':=d) (ch:=[]) (Un.kept λ_ _ e=>e) (I.hok.kept λ_ _ e=>e) I.bare (λ_ z=>nomatch z)
section
variable{X:Cx}{T:Type}[DecidableEq T]{knd:Bg X.prog X.w T}{l:Expr}{tl:TE}{p1 p2 pos1 pos2:Pos}
end
theorem alj(h:mK (KR prog w) es ks):(es.map (·.2)).map strOf=ks/\∀v,v∈es.map (·.2)->∃x t,v=.str x t:=by
 induction h with
 |nil=>exact⟨rfl,λv hv=>by cases hv⟩
 |@cons e k es ks a _ ih=>
  obtain⟨t,ht⟩:=ahr (show aaB k e.2=aq from a.1)
  refine⟨by rw[dN,dN,ih.1,ht];rfl,λv hv=>?_⟩
  rcases bW.mp hv with rfl|hv
  .exact⟨k,t,ht⟩
  .exact ih.2 v hv
section
variable{prog:fj}{w:c7}{A:gV}{s:bh}{I S:aC}{fp wr:List aC}{n:Nat}{St:Nat->cg->Prop}{bt:Nat->Nat->Bool}
def afc(v:aN)(c:Nat):Obj:={cls:=.type "list",dict:=aj,data:=.seq #[v,v] c,slots:=#[]}
theorem amS(W:yg prog w A.in1 I fp wr n Pv St)(cmp:CmpOf prog w A.in1 .Gt Pv bt)(out:S∉fp)(kw:List (Str×aN)):∀(m j:Nat)(s:bh)(vb:aN)(c:Nat),n-(j+1)=m->j+1<=n->St (j+1) s.heap->Pv (ji bt j) vb->s.heap.get? S=aa (afc vb c)->
  (∀v h' tk,Pv (ji bt (n-1)) v->(∀b o,b∉wr->b≠S->s.heap.get? b=aa o->h'.get? b=aa o)->R (.ok (.ret v)) {s with heap:=h',toks:=tk})->lQ (model prog w) A (.builtin "max.loop" ⟨[.ref I,.none,.ref S],kw⟩) R s:=by
 have yC:S∉wr:=λz=>out (W.sub _ z)
 have nm:(toString "max"++toString ".loop":String)="max.loop":=aR;intro m;induction m with
 |zero=>
  intro j s vb c hm hj st pb hS hR;have last:j+1=n:=az;refine xG Zz ?_;rw[xr Dp _];show aW _ A.in1 (Bw (.ref S) >>= _) _ _ s;refine aF (qy hS rfl ?_);show aW _ A.in1 (tryCatch (j6 (.ref I)) _ >>= _) _ _ s;refine aF (yZ (W.done s _ _ (last▸st) λh' tk kk=>?_));have g:=kk S _ yC hS;show aW _ A.in1 (Ho S (λ_=>#[]) >>= _) _ _ _;refine aF (Bd g rfl (aF (xP (bA ?_))));exact hR vb _ tk (by rw[<-last];exact pb) λb o hb hbS e=>(pR _ _ (j5 hbS)).trans (kk b o hb e)
 |succ m ih=>
  intro j s vb c hm hj st pb hS hR;have lt:j+1<n:=az;refine xG Zz ?_;rw[xr Dp _];show aW _ A.in1 (Bw (.ref S) >>= _) _ _ s;refine aF (qy hS rfl ?_);show aW _ A.in1 (tryCatch (j6 (.ref I)) _ >>= _) _ _ s;refine aF (yZ (W.item (j+1) s _ _ lt st λv h' tk pv st' kk=>?_));have g:=kk S _ yC hS;show aW _ A.in1 (tryCatch (nA [v,v] (G9 .Gt v vb >>= _)) _ >>= _) _ _ _;refine aF (yZ (nj (aF (cmp (j+1) (ji bt j) v vb _ _ _ pv pb ?_))));refine aF (nj (yV (aF (xP (bA ?_)))));cases hb:bt (j+1) (ji bt j) with
  |true=>
   simp only[if_true];refine aF (Bd g rfl (aF (xP ?_)));rw[nm];refine bA ⟨uq Dp _,ih (j+1) _ v _ az lt (W.frame _ _ _ st' λb hbf o e=>(pR _ _ λz:S=b=>out (z▸hbf)).trans e) (by simp only[ji,hb,if_true];exact pv) (vA _ g rfl) λv' h2 tk2 vf mX=>?_⟩;exact hR v' h2 tk2 vf λb o hb' hbS e=>mX b o hb' hbS ((pR _ _ (j5 hbS)).trans (kk b o hb' e))
  |false=>
   simp only[pW,if_false];refine aF (xP ?_);rw[nm];refine bA ⟨uq Dp _,ih (j+1) _ vb c az lt st' (by simp only[ji,hb,pW,if_false];exact pb) g λv' h2 tk2 vf mX=>?_⟩;exact hR v' h2 tk2 vf λb o hb' hbS e=>mX b o hb' hbS (kk b o hb' e)
theorem amT(W:yg prog w A.in1 I fp wr n Pv St)(cmp:CmpOf prog w A.in1 .Gt Pv bt)(out:S∉fp)(st:St 0 s.heap)(hS:s.heap.get? S=aa {cls:=.type "list",dict:=aj,data:=.seq #[] c,slots:=#[]})
  (hR:∀v h' tk,(if n=0 then v=d else Pv (ji bt (n-1)) v)->(∀b o,b∉wr->b≠S->s.heap.get? b=aa o->h'.get? b=aa o)->R (.ok (.ret v)) {s with heap:=h',toks:=tk}):lQ (model prog w) A (.builtin "max.loop" ⟨[.ref I,.none,.ref S],[(k,d)]⟩) R s:=by
 have yC:S∉wr:=λz=>out (W.sub _ z)
 have nm:(toString "max"++toString ".loop":String)="max.loop":=aR;refine xG Zz ?_;rw[xr Dp _];show aW _ A.in1 (Bw (.ref S) >>= _) _ _ s;refine aF (qy hS rfl ?_);by_cases h0:n=0
 .show aW _ A.in1 (tryCatch (j6 (.ref I)) _ >>= _) _ _ s;refine aF (yZ (W.done s _ _ (h0▸st) λh' tk kk=>?_));show aW _ A.in1 (rule _ >>= λ_=>ret d) _ _ _;exact aF (sV (bA (hR d h' tk (by rw[bG h0]) λb o hb _ e=>kk b o hb e)))
 .show aW _ A.in1 (tryCatch (j6 (.ref I)) _ >>= _) _ _ s;refine aF (yZ (W.item 0 s _ _ az st λv h' tk pv st' kk=>?_));have g:=kk S _ yC hS;show aW _ A.in1 (Ho S (λ_=>#[v,v]) >>= _) _ _ _;refine aF (Bd g rfl ?_);rw[nm];refine bA ⟨uq Dp _,amS W cmp out _ _ 0 _ v _ rfl az (W.frame _ _ _ st' λb hbf o e=>(pR _ _ λz:S=b=>out (z▸hbf)).trans e) pv (vA _ g rfl) λv' h2 tk2 vf mX=>?_⟩;exact hR v' h2 tk2 (by rw[bH h0];exact vf) λb o hb' hbS e=>mX b o hb' hbS ((pR _ _ (j5 hbS)).trans (kk b o hb' e))
end
section
variable{prog:fj}{w:c7}{A:gV}{E:aN->bh->Prop}{s:bh}
theorem akk(a d:aN):Ca "max" ⟨[a],[("default",d)]⟩:=by unfold Ca;kernel_rfl
def maxD(d:Int):List Int->Int
 |[]=>d
 |n::ns=>ns.foldl max n
theorem acF(val:Nat->Int):∀k,val (ji (λi j=>decide (val i>val j)) k)=((gG k).map λi=>val (i+1)).foldl max (val 0)
 |0=>rfl
 |k+1=>by
  rw[aij,iC,Z6,<-acF val k];rw[show ji (λi j=>decide (val i>val j)) (k+1)=if decide (val (k+1)>val (ji (λi j=>decide (val i>val j)) k)) then k+1 else ji (λi j=>decide (val i>val j)) k from rfl];by_cases h:val (k+1)>val (ji (λi j=>decide (val i>val j)) k)
  .rw[bG (gr h)];show val (k+1)=max _ (val (k+1));lia
  .rw[bH (by simpa using h)];show _=max _ (val (k+1));lia
theorem adN(ns:List Int)(h:0<ns.length)(d:Int):ns.getD (ji (λi j=>decide (ns.getD i 0>ns.getD j 0)) (ns.length-1)) 0=maxD d ns:=by
 have:=acF (λi=>ns.getD i 0) (ns.length-1);rw[show ns.getD (ji (λi j=>decide (ns.getD i 0>ns.getD j 0)) (ns.length-1)) 0=_ from this];cases ns with
 |nil=>cases h
 |cons a as=>
  show _=as.foldl max a;have e:(gG ((a::as).length-1)).map (λi=>(a::as).getD (i+1) 0)=as:=by
   rw[dW,ahD];refine Kz bI λi h1 h2=>?_
   simp[h2]
  rw[e];rfl
theorem aaV{id:String}{b:oK}{as:List aN}{kw:List (Str×aN)}{Q:aN->bh->Prop}(hk:builtinKind id=aj)(hp:plainId id=aq)(hb:Ux table id=aa b)(ha:Ca id ⟨as,kw⟩)
  (hc:aW (model prog w) A.in1 (b ⟨as,kw⟩) (λfin s'=>match fin with
   |.done f=>(match(Except.ok f:zK) with|.ok (.ret v)=>Q v s'|.ok _=>False|.error e=>E e s')
   |.again c'=>c'.quiet=aq/\lQ (model prog w) A c' (λr s'=>match r with|.ok (.ret v)=>Q v s'|.ok _=>False|.error e=>E e s') s') E s):aW (model prog w) A (call (.builtin id) as kw) Q E s:=by
 refine wpAny_call (codeAny_call_builtin hp hb ?_);simp only[checkBuiltinCall,hk];cases hg:Manifest.signature? id with
 |none=>exact bA hc
 |some sg=>
  simp only[Ca,hg] at ha;show aW _ A.in1 (aiq id sg ⟨as,kw⟩) _ _ s;rw[show aiq id sg ⟨as,kw⟩=pure () from ha];exact bA hc
theorem akl(hh:A.handled=aj)(hl:s.heap.IsList l aK.toArray)(hi:IntsAre aK ns)
  (h:∀(v:aN)(h':cg)(tk:Nat),(if ns=[] then v=d else ∃t,v=Bt (maxD 0 ns) t)->(∀b o,s.heap.get? b=aa o->h'.get? b=aa o)->Q v {s with heap:=h',toks:=tk}):aW (model prog w) A (call (.builtin "max") [.ref l] [("default",d)]) Q E s:=by
 have nm:(toString "max"++toString ".loop":String)="max.loop":=aR;have ln:aK.length=ns.length:=hi.length;have Al:l<s.heap.objs.size:=by obtain⟨o,ho,_⟩:=hl;exact cG ho
 refine aaV PySem.F.kind_max PySem.F.plain_max PySem.F.entry_max (akk _ _) ?_;show aW _ A.in1 (Q4 "max" ["key","default"] 0 ⟨[],[("default",d)]⟩ >>= _) _ _ s;refine aF (La (show Q4 "max" ["key","default"] 0 ⟨[],[("default",d)]⟩=pure [aj,aa d] from rfl) (aF (bA ?_)));refine aF (Ks hl (aF (lZ ?_)));rw[nm];have vd:(s.heap.push {cls:=.type "list_iterator",data:=.fields #[.ref l,.int 0 0]}).objs.size=s.heap.objs.size+1:=sH ..;have W:=Sv (prog:=prog) (w:=w) (A:=A.in1) (by simp[hh]) s.heap.objs.size l (fQ Al) aK.toArray;have val:∀(i:Nat)(v:aN),aK.toArray[i]?=aa v->∃t,v=Bt (ns.getD i 0) t:=λi v hv=>IntsAre.int_at hi i v (by simpa using hv)
 refine bA ⟨uq Dp _,?_⟩;show lQ (model prog w) A (.builtin "max.loop" ⟨[.ref s.heap.objs.size,.none,.ref (s.heap.push {cls:=.type "list_iterator",data:=.fields #[.ref l,.int 0 0]}).objs.size],[("default",d)]⟩) _ {s with heap:=(s.heap.push {cls:=.type "list_iterator",data:=.fields #[.ref l,.int 0 0]}).push {cls:=.type "list",data:=.seq #[]}};refine amT W (aiF (λi=>ns.getD i 0) val) ?_ ⟨⟨_,cD _ (gj _ rfl),rfl,rfl⟩,(hl.push _).push _⟩ (gj _ rfl) λv h' tk hv kk=>?_
 .rw[vd];simp only[bW,iT,or_false,not_or]
  exact⟨vK (KC _),vK (vG Al)⟩
 .refine h v h' tk ?_ λb o e=>kk b o ?_ ?_ (cD _ (cD _ e))
  .by_cases hn:ns=[]
   .rw[bG hn];rw[bG (by rw[gZ,ln,hn];rfl)] at hv;exact hv
   .rw[bH hn];have pos:0<ns.length:=Kl.mpr hn;rw[bH (by rw[gZ,ln];lia),gZ,ln] at hv
    obtain⟨t,e⟩:=val _ v hv
    rw[adN ns pos 0] at e
    exact⟨t,e⟩
  .simp only[bW,iT,or_false];exact fQ (cG e)
  .rw[vd];exact fQ (vG (cG e))
end
def apQ(K:aZ)(tl td:TE):TE:=λσ H Q=>tl σ H λx H1=>td σ H1 λy H2=>∃(a:aC)(ns:List Int)(k:Int),x=.ref a/\y=.int k/\cj K H2 a (ns.map V.int)/\Q (.int (maxD k ns)) H2
section
variable{X:Cx}{l de:Expr}{tl td:TE}{p pos kp:Pos}
theorem amU(hc:X.calm=aq)(hl:PE X l tl)(hd:PE X de td)(hg:Gl X "max")(hm:X.mg "max"=aj)(he:bR [l] X.env=(aM,eval l X.env)::bR [] X.env:=by rfl):PE X (.Call (.Name "max" p) [l] [⟨aa "default",de,kp⟩] pos) (apQ X.K tl td):=by
 intro au s σ H Q I h;refine Ko (zH I hg hm (u:=.builtin "max") rfl ?_);have he2:jA pos (bR [l] X.env)=(aM,eval l X.env)::jA pos (bR [] X.env):=by rw[he];rfl
 refine callWith_kw (e:=l) (rest:=[]) ?_ (he:=he2) (hplain:=by rw[he2];rfl);show aW _ _ (Nb (jA pos (bR [l] X.env))) _ _ s;rw[he];show aW _ _ (Nb ((aM,eval l X.env)::jA pos (bR [] X.env))) _ _ s;refine ZQ (bY (hl au s σ H _ I h) λv s1 ⟨x,H1,I1,r1,q1⟩=>ZW ?_);refine kws_cons (bY (hd au s1 σ H1 _ I1 q1) λu s2 ⟨y,H2,I2,r2,a,ns,k,ex,ey,ha,q2⟩=>kws_nil ?_);subst ex ey;cases r1
 obtain⟨t,rfl⟩:=r2
 obtain⟨aK,rv,pl,_⟩:=I2.list ha
 refine akl (I2.ok.hd hc) pl.isList (intsAre_of rv) λv h' tk hv kk=>⟨.int (maxD k ns),H2,I2.kept kk,?_,q2⟩
 by_cases hn:ns=[]
 .rw[bG hn] at hv;rw[hn,hv]
  exact⟨t,rfl⟩
 .rw[bH hn] at hv
  obtain⟨t',e⟩:=hv
  rw[e];cases ns with
  |nil=>exact absurd rfl hn
  |cons n ns=>exact⟨t',rfl⟩
end
end L2
namespace L2
open PySem PySem.Spec PyProof.Rows PySem.W
noncomputable def fW:aD->Option Key
 |.int i=>aa (.inl i)
 |.str x=>aa (.inr x)
 |_=>aj
def keysOf:List aD->Option (List Key)
 |[]=>aa []
 |d::r=>match fW d,keysOf r with
  |some k,some t=>aa (k::t)
  |_,_=>aj
def jC:aD->Option (List Key)
 |.tuple ds=>keysOf ds
 |_=>aj
def dh{κ:Type}(f:aD->Option κ):List (aD×aD)->Option (List κ)
 |[]=>aa []
 |p::r=>match f p.1,dh f r with
  |some k,some t=>aa (k::t)
  |_,_=>aj
def o8(H:Hp)(a:aC)(aA:List (aD×aD))(vs:List V):Prop:=
 (∃ks,dh fW aA=aa ks/\∃ep,H a=aa (.dK (ks.zip vs) ep))\/∃ks,(aA≠[]/\dh jC aA=aa ks)/\∃ep,H a=aa (.dT (ks.zip vs) ep)
theorem rdK(h:∃ep,H a=aa (.dK aA ep)):Ai H a aA:=let ⟨ep,e⟩:=h;⟨ep,.inl e⟩
theorem rdT(h:∃ep,H a=aa (.dT aA ep)):Gm H a aA:=let ⟨ep,e⟩:=h;⟨ep,.inl e⟩
mutual
def RZ(H:Hp):aD->V->Prop
 |.none,v=>v=.non
 |.bool b,v=>v=.bl b
 |.int i,v=>v=.int i
 |.str x,v=>v=.str x
 |.list ds,v=>∃a vs,v=.ref a/\H a=aa (.lst vs)/\cu H ds vs
 |.tuple ds,v=>∃a vs,v=.ref a/\H a=aa (.tup vs)/\cu H ds vs
 |.dict aA,v=>∃a vs,v=.ref a/\o8 H a aA vs/\gA H aA vs
def cu(H:Hp):List aD->List V->Prop
 |[],vs=>vs=[]
 |d::ds,vs=>∃v r,vs=v::r/\RZ H d v/\cu H ds r
def gA(H:Hp):List (aD×aD)->List V->Prop
 |[],vs=>vs=[]
 |p::r,vs=>∃v t,vs=v::t/\RZp H p v/\gA H r t
def RZp(H:Hp):aD×aD->V->Prop
 |(_,d),v=>RZ H d v
end
theorem o8.same(s:cH H H')(h:o8 H a aA vs):o8 H' a aA vs:=by
 rcases h with⟨ks,e,ep,h⟩|⟨ks,e,ep,h⟩
 .exact .inl ⟨ks,e,ep,s _ _ h⟩
 .exact .inr ⟨ks,e,ep,s _ _ h⟩
mutual
theorem RZ.same(s:cH H H'):∀{d:aD}{v:V},RZ H d v->RZ H' d v
 |.none,_,h=>h
 |.bool _,_,h=>h
 |.int _,_,h=>h
 |.str _,_,h=>h
 |.list ds,_,h=>by
  obtain⟨a,vs,e,q,r⟩:=h
  exact⟨a,vs,e,s _ _ q,cu.same s r⟩
 |.tuple ds,_,h=>by
  obtain⟨a,vs,e,q,r⟩:=h
  exact⟨a,vs,e,s _ _ q,cu.same s r⟩
 |.dict aA,_,h=>by
  obtain⟨a,vs,e,q,r⟩:=h
  exact⟨a,vs,e,q.same s,gA.same s r⟩
theorem cu.same(s:cH H H'):∀{ds:List aD}{vs:List V},cu H ds vs->cu H' ds vs
 |[],_,h=>h
 |d::ds,vs,h=>by
  obtain⟨v,r,e,q,t⟩:=h
  exact⟨v,r,e,RZ.same s q,cu.same s t⟩
theorem gA.same(s:cH H H'):∀{aA:List (aD×aD)}{vs:List V},gA H aA vs->gA H' aA vs
 |[],_,h=>h
 |(k,d)::ds,vs,h=>by
  obtain⟨v,r,e,q,t⟩:=h
  exact⟨v,r,e,RZ.same s q,gA.same s t⟩
end
theorem jG:∀{ds:List aD}{vs:List V},cu H ds vs->vs.length=ds.length
 |[],_,h=>by cases(show _=[] from h);rfl
 |e::ds,vs,h=>by
  obtain⟨u,r,e1,q,s⟩:=h
  subst e1;rw[dW,dW,jG s]
theorem Es:∀{ds:List (aD×aD)}{vs:List V},gA H ds vs->vs.length=ds.length
 |[],_,h=>by cases(show _=[] from h);rfl
 |e::ds,vs,h=>by
  obtain⟨u,r,e1,q,s⟩:=h
  subst e1;rw[dW,dW,Es s]
theorem wu:∀{ds:List aD}{vs:List V}{i:Nat}{d:aD},cu H ds vs->ds[i]?=aa d->∃v,vs[i]?=aa v/\RZ H d v
 |[],_,_,_,_,e=>by simp at e
 |x::ds,vs,i,d,h,e=>by
  obtain⟨u,r,e1,q,s⟩:=h
  subst e1;cases i with
  |zero=>cases e;exact⟨u,rfl,q⟩
  |succ i=>
   obtain⟨v,e2,h2⟩:=wu (i:=i) s (by simpa using e)
   exact⟨v,by simpa using e2,h2⟩
theorem BR:∀{ds es:List aD}{vs ws:List V},cu H ds vs->cu H es ws->cu H (ds++es) (vs++ws)
 |[],_,_,_,h,g=>by cases(show _=[] from h);exact g
 |d::ds,_,_,_,h,g=>by
  obtain⟨u,r,e1,q,s⟩:=h
  subst e1
  exact⟨u,_,rfl,q,BR s g⟩
theorem abX:∀{ds es:List aD}{vs:List V},cu H (ds++es) vs->∃us ws,vs=us++ws/\cu H ds us/\cu H es ws
 |[],_,vs,h=>⟨[],vs,rfl,rfl,h⟩
 |d::ds,es,vs,h=>by
  obtain⟨u,r,e1,q,s⟩:=h
  obtain⟨us,ws,e2,h1,h2⟩:=abX s
  exact⟨u::us,ws,by rw[e1,e2];rfl,⟨u,us,rfl,q,h1⟩,h2⟩
theorem acG:∀{ds:List aD}{vs:List V}(n:Nat),cu H ds vs->cu H (ds.take n) (vs.take n)
 |_,_,0,_=>by rw[air,air];rfl
 |[],_,n+1,h=>by cases(show _=[] from h);rfl
 |d::ds,_,n+1,h=>by
  obtain⟨u,r,e1,q,s⟩:=h
  subst e1
  exact⟨u,_,rfl,q,acG n s⟩
theorem acH:∀{ds:List aD}{vs:List V}(n:Nat),cu H ds vs->cu H (ds.drop n) (vs.drop n)
 |_,_,0,h=>h
 |[],_,n+1,h=>by cases(show _=[] from h);rfl
 |d::ds,_,n+1,h=>by
  obtain⟨u,r,e1,q,s⟩:=h
  subst e1;exact acH n s
theorem adO(hv:RZ H d v):∀{ds:List aD}{vs:List V}(i:Nat),cu H ds vs->cu H (ds.set i d) (vs.set i v)
 |[],_,_,h=>by cases(show _=[] from h);rfl
 |x::ds,_,i,h=>by
  obtain⟨u,r,e1,q,s⟩:=h
  subst e1;cases i with
  |zero=>exact⟨v,r,rfl,hv,s⟩
  |succ i=>exact⟨u,_,rfl,q,adO hv i s⟩
noncomputable def lU:aD->Bool
 |.none=>aq
 |.bool _=>aq
 |.int _=>aq
 |.str _=>aq
 |_=>aM
noncomputable def toV:aD->V
 |.none=>.non
 |.bool b=>.bl b
 |.int i=>.int i
 |.str x=>.str x
 |_=>.non
theorem amV(f:lU d=aq)(h:RZ H d v):v=toV d:=by
 cases d<;>first|exact h|cases f
theorem amW(f:lU d=aq):RZ H d (toV d):=by
 cases d<;>first|rfl|cases f
theorem Uy:∀{ds:List aD}{vs:List V},ds.all lU=aq->cu H ds vs->vs=ds.map toV
 |[],_,_,h=>h
 |d::ds,vs,f,h=>by
  obtain⟨u,r,e1,q,s⟩:=h
  rw[KN,jP] at f;rw[e1,amV f.1 q,Uy f.2 s];rfl
theorem alk(ns:List Int):cu H (ns.map lD) (ns.map V.int):=by
 induction ns with
 |nil=>rfl
 |cons n r ih=>exact⟨_,_,rfl,rfl,ih⟩
theorem Uz(ns:List Str):cu H (ns.map iD) (ns.map V.str):=by
 induction ns with
 |nil=>rfl
 |cons n r ih=>exact⟨_,_,rfl,rfl,ih⟩
mutual
def jf:aD->Bool
 |.list _=>aM
 |.tuple ds=>dY ds
 |.dict _=>aM
 |_=>aq
def dY:List aD->Bool
 |[]=>aq
 |d::r=>jf d&&dY r
end
mutual
theorem RZ.jf(t:∀a vs,H a=aa (.tup vs)->H' a=aa (.tup vs)):∀{d:aD}{v:V},jf d=aq->RZ H d v->RZ H' d v
 |.none,_,_,h=>h
 |.bool _,_,_,h=>h
 |.int _,_,_,h=>h
 |.str _,_,_,h=>h
 |.list ds,_,n,h=>nomatch n
 |.tuple ds,_,n,h=>by
  obtain⟨a,vs,e,q,r⟩:=h
  exact⟨a,vs,e,t _ _ q,cu.jf t n r⟩
 |.dict _,_,n,_=>nomatch n
theorem cu.jf(t:∀a vs,H a=aa (.tup vs)->H' a=aa (.tup vs)):∀{ds:List aD}{vs:List V},dY ds=aq->cu H ds vs->cu H' ds vs
 |[],_,_,h=>h
 |d::ds,vs,n,h=>by
  obtain⟨v,r,e,q,w⟩:=h
  have n':L2.jf d=aq/\dY ds=aq:=by rw[dY,jP] at n;exact n
  exact⟨v,r,e,RZ.jf t n'.1 q,cu.jf t n'.2 w⟩
end
mutual
def qW:aD->Bool
 |.list ds=>Ac ds
 |.tuple ds=>Ac ds
 |.dict _=>aM
 |_=>aq
def Ac:List aD->Bool
 |[]=>aq
 |d::r=>qW d&&Ac r
end
mutual
theorem RZ.rx:∀{d:aD}{v:V},qW d=aq->RZ H d v->RX H d v
 |.none,_,_,h=>h
 |.bool _,_,_,h=>h
 |.int _,_,_,h=>h
 |.str _,_,_,h=>h
 |.list ds,_,n,h=>by
  obtain⟨a,vs,e,q,r⟩:=h
  exact⟨a,vs,e,q,cu.rx n r⟩
 |.tuple ds,_,n,h=>by
  obtain⟨a,vs,e,q,r⟩:=h
  exact⟨a,vs,e,q,cu.rx n r⟩
 |.dict _,_,n,_=>nomatch n
theorem cu.rx:∀{ds:List aD}{vs:List V},Ac ds=aq->cu H ds vs->yM H ds vs
 |[],_,_,h=>h
 |d::ds,vs,n,h=>by
  obtain⟨v,r,e,q,t⟩:=h
  have n':qW d=aq/\Ac ds=aq:=by rw[Ac,jP] at n;exact n
  exact⟨v,r,e,RZ.rx n'.1 q,cu.rx n'.2 t⟩
end
inductive Vl where
 |im (d:aD)
 |ow (d:aD)
 |ce (n:Nat)
 |sc (ns:List Int)
 |ks (ds:List aD)
 |tp (p:List aD) (d:aD) (q:List aD)
abbrev oVl:=Option Vl
abbrev En:=List oVl
abbrev Ce:=List (List Int)
def own1:oVl->Option V->List aC
 |some (.ow _),some (.ref a)=>[a]
 |_,_=>[]
def bV:En->St->List aC
 |x::e,v::s=>own1 x v++bV e s
 |_,_=>[]
theorem nU:∀{ao:En}{σ:St},a∈bV ao σ↔∃(i:Nat)(d:aD),ao[i]?=aa (aa (Vl.ow d))/\σ[i]?=aa (aa (V.ref a))
 |[],σ=>by
  constructor
  .intro h;simp[bV] at h
  .rintro⟨i,d,e,_⟩;simp at e
 |x::e,[]=>by
  constructor
  .intro h;simp[bV] at h
  .rintro⟨i,d,_,e⟩;simp at e
 |x::e,v::s=>by
  rw[bV,cY,nU (ao:=e) (σ:=s)];constructor
  .rintro(h|⟨i,d,h1,h2⟩)
   .unfold own1 at h;split at h
    .rw[gk] at h;subst h
     exact⟨0,_,rfl,rfl⟩
    .simp at h
   .exact⟨i+1,d,by simpa using h1,by simpa using h2⟩
  .rintro⟨i,d,h1,h2⟩
   cases i with
   |zero=>
    simp at h1 h2;subst h1 h2;exact .inl (gk.mpr rfl)
   |succ i=>exact .inr ⟨i,d,by simpa using h1,by simpa using h2⟩
theorem Ij:∀{ao:En}{σ:St}{i j:Nat}{d e:aD},(bV ao σ).Nodup->ao[i]?=aa (aa (Vl.ow d))->σ[i]?=aa (aa (V.ref a))->ao[j]?=aa (aa (Vl.ow e))->σ[j]?=aa (aa (V.ref a))->i=j
 |[],_,i,_,_,_,_,h,_,_,_=>by simp at h
 |_::_,[],i,_,_,_,_,_,h,_,_=>by simp at h
 |x::en,v::s,i,j,d,e,nd,h1,h2,h3,h4=>by
  rw[bV,jF] at nd;cases i with
  |zero=>
   cases j with
   |zero=>rfl
   |succ j=>
    simp at h1 h2;subst h1 h2;have:a∈bV en s:=nU.mpr ⟨j,e,by simpa using h3,by simpa using h4⟩;exact absurd rfl (nd.2.2 a (gk.mpr rfl) a this)
  |succ i=>
   cases j with
   |zero=>
    simp at h3 h4;subst h3 h4;have:a∈bV en s:=nU.mpr ⟨i,d,by simpa using h1,by simpa using h2⟩;exact absurd rfl (nd.2.2 a (gk.mpr rfl) a this)
   |succ j=>rw[Ij (i:=i) (j:=j) nd.2.1 (by simpa using h1) (by simpa using h2) (by simpa using h3) (by simpa using h4)]
def YS(x y:oVl):Prop:=y=x\/∃d,x=aa (.ow d)/\y=aa (.im d)
def Fz:En->En->Prop
 |[],[]=>True
 |x::r,y::t=>YS x y/\Fz r t
 |_,_=>False
theorem Fz.refl:∀e:En,Fz e e
 |[]=>trivial
 |x::r=>⟨.inl rfl,Fz.refl r⟩
theorem Fz.trans:∀{a b c:En},Fz a b->Fz b c->Fz a c
 |[],[],[],_,_=>trivial
 |x::r,y::t,z::w,h,g=>by
  refine⟨?_,Fz.trans h.2 g.2⟩
  rcases h.1 with e|⟨d,e1,e2⟩
  .rw[<-e];exact g.1
  .rcases g.1 with e|⟨d',e3,e4⟩
   .exact .inr ⟨d,e1,e.trans e2⟩
   .rw[e2] at e3;cases e3
 |[],[],_::_,_,g=>nomatch g
 |[],_::_,_,h,_=>nomatch h
 |_::_,[],_,h,_=>nomatch h
 |_::_,_::_,[],_,g=>nomatch g
theorem Fz.len:∀{a b:En},Fz a b->b.length=a.length
 |[],[],_=>rfl
 |_::_,_::_,h=>by rw[dW,dW,Fz.len h.2]
 |[],_::_,h=>nomatch h
 |_::_,[],h=>nomatch h
theorem Fz.at:∀{a b:En}{i:Nat}{y:Vl},Fz a b->b[i]?=aa (aa y)->a[i]?=aa (aa y)\/∃d,a[i]?=aa (aa (.ow d))/\y=.im d
 |[],[],i,y,_,e=>by simp at e
 |x::r,z::t,0,y,h,e=>by
  simp at e;rcases h.1 with q|⟨d,q1,q2⟩
  .left;rw[<-q,e];rfl
  .right;rw[e] at q2;cases q2;exact⟨d,by rw[q1];rfl,rfl⟩
 |x::r,z::t,i+1,y,h,e=>by
  simpa using Fz.at (i:=i) h.2 (by simpa using e)
 |[],_::_,_,_,h,_=>nomatch h
 |_::_,[],_,_,h,_=>nomatch h
theorem amX(h:YS x y)(v:Option V):aaW (own1 y v) (own1 x v):=by
 rcases h with e|⟨d,e1,e2⟩
 .rw[e];exact Du _
 .rw[e2];exact List.nil_sublist _
theorem Fz.own:∀{a b:En}{σ:St},Fz a b->aaW (bV b σ) (bV a σ)
 |[],[],σ,_=>by cases σ<;>exact Du _
 |x::r,y::t,[],h=>Du _
 |x::r,y::t,v::s,h=>by
  rw[bV,bV];exact Km (amX h.1 v) (Fz.own h.2)
 |[],_::_,_,h=>nomatch h
 |_::_,[],_,h=>nomatch h
abbrev bB(Z Θ:List aC)(ao:En)(σ:St):List aC:=Z++(Θ++bV ao σ)
def kY(E H:Hp)(a:aC):aD->Prop
 |.list ds=>∃vs,H a=aa (.lst vs)/\cu E ds vs
 |.dict aA=>∃vs,o8 H a aA vs/\gA E aA vs
 |_=>False
theorem kY.same(s:cH E E')(h:∀o,H a=aa o->H' a=aa o)(r:kY E H a d):kY E' H' a d:=by
 cases d<;>first|exact r.elim|skip
 .obtain⟨vs,e,q⟩:=r
  exact⟨vs,h _ e,q.same s⟩
 .obtain⟨vs,e,q⟩:=r
  refine⟨vs,?_,q.same s⟩
  rcases e with⟨ks,k,ep,e⟩|⟨ks,k,ep,e⟩
  .exact .inl ⟨ks,k,ep,h _ e⟩
  .exact .inr ⟨ks,k,ep,h _ e⟩
theorem kY.rz(h:∀o,H a=aa o->E a=aa o)(r:kY E H a d):RZ E d (.ref a):=by
 cases d<;>first|exact r.elim|skip
 .obtain⟨vs,e,q⟩:=r
  exact⟨a,vs,rfl,h _ e,q⟩
 .obtain⟨vs,e,q⟩:=r
  refine⟨a,vs,rfl,?_,q⟩
  rcases e with⟨ks,k,ep,e⟩|⟨ks,k,ep,e⟩
  .exact .inl ⟨ks,k,ep,h _ e⟩
  .exact .inr ⟨ks,k,ep,h _ e⟩
structure bD(Θ:List aC)(H H':Hp):Prop where
 keep:∀a o,H a=aa o->a∉Θ->H' a=aa o
 dom:∀a,H a≠aj->H' a≠aj
theorem bD.refl(Θ:List aC)(H:Hp):bD Θ H H:=⟨λ_ _ e _=>e,λ_ e=>e⟩
theorem bD.trans(a:bD Θ H H1)(b:bD Θ H1 H2):bD Θ H H2:=⟨λc o e n=>b.keep _ _ (a.keep _ _ e n) n,λc e=>b.dom _ (a.dom _ e)⟩
theorem bD.none(k:bD Θ H H')(h:H' a=aj):H a=aj:=by
 cases e:H a with
 |none=>rfl
 |some o=>exact absurd h (k.dom a (by rw[e];exact xx _))
theorem bD.of(s:cH H H'):bD Θ H H':=⟨λa o e _=>s _ _ e,λa h=>by
 cases e:H a with
 |none=>exact absurd e h
 |some o=>rw[s _ _ e];exact xx _⟩
theorem bD.upd(h:H p=sI):bD Θ H (L2.upd H p o):=bD.of (cH.upd h)
theorem nD(k:bD Θ H H')(ht:∀a∈Θ,a∈Z)(hz:∀a,a∈Z'->a∈Z\/H a=aj):cH (er Z H) (er Z' H'):=λb o h=>by
 unfold er at h⊢;split at h
 .cases h
 .rename_i n;rw[bH,k.keep _ _ h (λm=>n (ht b m))];intro m;rcases hz b m with q|q
  .exact n q
  .rw[q] at h;cases h
def Gb(K:aZ)(E H:Hp)(Θ:List aC):Vl->V->Prop
 |.im d,v=>RZ E d v
 |.ow d,v=>∃a,v=.ref a/\kY E H a d
 |.ce n,v=>∃a,v=.ref a/\Θ[n]?=aa a
 |.sc ns,v=>∃a,v=.ref a/\cj K E a (ns.map V.int)
 |.ks ns,v=>∃a,v=.ref a/\cU K E a (ns.map toV)
 |.tp _ _ _,_=>False
def NT(o:Option HO):Prop:=∃u,o=aa u/\∀vs,u≠.tup vs
theorem NT.ne(h:NT o):o≠aj:=by
 obtain⟨u,rfl,_⟩:=h
 exact xx _
theorem kY.nt(r:kY E H a d):NT (H a):=by
 cases d<;>first|exact r.elim|skip
 .obtain⟨vs,e,q⟩:=r
  exact⟨_,e,λ_ z=>nomatch z⟩
 .obtain⟨vs,e,q⟩:=r
  rcases e with⟨ks,k,ep,e⟩|⟨ks,k,ep,e⟩
  .exact⟨_,e,λ_ z=>nomatch z⟩
  .exact⟨_,e,λ_ z=>nomatch z⟩
structure qJ(Θ:List aC)(C:Ce)(H:Hp):Prop where
 len:C.length=Θ.length
 at_:∀(n:Nat)(a:aC)(ns:List Int),Θ[n]?=aa a->C[n]?=aa ns->H a=aa (.lst (ns.map V.int))
structure Sm(K:aZ)(Z Θ:List aC)(ao:En)(C:Ce)(σ:St)(H:Hp):Prop where
 len:σ.length=ao.length
 nd:(bB Z Θ ao σ).Nodup
 dom:∀a∈Z,NT (H a)
 slot:∀(i:Nat)(x:Vl),ao[i]?=aa (aa x)->∃v,σ[i]?=aa (aa v)/\Gb K (er (bB Z Θ ao σ) H) H Θ x v
 cell:qJ Θ C H
theorem cH.Jv{K:aZ}{a:aC}(e:cH H H')(h:cU K H a xs):cU K H' a xs:=by
 rcases h with(h|⟨o,h⟩)|h
 .exact .inl (.inl (e _ _ h))
 .exact .inl (.inr ⟨o,e _ _ h⟩)
 .exact .inr h
theorem qJ.dom(c:qJ Θ C H):∀a∈Θ,NT (H a):=λa m=>by
 obtain⟨n,hn,e⟩:=vB m
 have e1:Θ[n]?=aa a:=by rw[jb hn,e]
 have h2:n<C.length:=by rw[c.len];exact hn
 exact⟨_,c.at_ n a C[n] e1 (jb h2),λ_ z=>nomatch z⟩
section
variable{K:aZ}{C C':Ce}{σ:St}{H H':Hp}
theorem Sm.yN(S:Sm K Z Θ ao C σ H):∀a∈bB Z Θ ao σ,NT (H a):=λa m=>by
 rcases cY.mp m with m|m
 .exact S.dom a m
 .rcases cY.mp m with m|m
  .exact S.cell.dom a m
  .obtain⟨i,d,e1,e2⟩:=nU.mp m
   obtain⟨v,e3,b,e4,r⟩:=S.slot i _ e1
   rw[e2] at e3;cases e3;cases e4;exact r.nt
theorem Sm.Jw(S:Sm K Z Θ ao C σ H):∀a∈bB Z Θ ao σ,H a≠aj:=λa m=>(S.yN a m).ne
theorem Sm.uc(S:Sm K Z Θ ao C σ H):∀a∈Θ,a∈bB Z Θ ao σ:=λa m=>eF _ (fM _ m)
theorem Gb.same(s:cH E E')(h:∀d a,x=.ow d->v=.ref a->∀o,H a=aa o->H' a=aa o)(r:Gb K E H Θ x v):Gb K E' H' Θ x v:=by
 cases x with
 |im d=>exact RZ.same s r
 |ow d=>obtain⟨a,e,q⟩:=r;exact⟨a,e,q.same s (h d a rfl e)⟩
 |ce n=>exact r
 |sc ns=>obtain⟨a,e,q⟩:=r;exact⟨a,e,s.seq q⟩
 |ks ns=>obtain⟨a,e,q⟩:=r;exact⟨a,e,s.Jv q⟩
 |tp=>exact r
theorem Sm.qe(S:Sm K Z Θ ao C σ H)(m:a∈bV ao σ):a∉Z/\a∉Θ:=by
 have h:=S.nd;rw[jF] at h
 obtain⟨_,h2,h3⟩:=h
 rw[jF] at h2
 refine⟨λz=>h3 a z a (eF _ m) rfl,λz=>h2.2.2 a z a m rfl⟩
theorem Sm.go(S:Sm K Z Θ ao C σ H)(k:bD Θ H H')(c:qJ Θ C' H'):Sm K Z Θ ao C' σ H' where
 len:=S.len
 nd:=S.nd
 dom:=λa m=>by
  obtain⟨u,e,n⟩:=S.dom a m
  have h:=S.nd;rw[jF] at h
  exact⟨u,k.keep _ _ e λz=>h.2.2 a m a (fM _ z) rfl,n⟩
 slot:=λi x e=>by
  obtain⟨v,e1,r⟩:=S.slot i x e
  refine⟨v,e1,r.same (nD k S.uc λa m=>.inl m) λd a ex ev o ho=>k.keep _ _ ho ?_⟩
  subst ex ev
  exact(S.qe (nU.mpr ⟨i,d,e,e1⟩)).2
 cell:=c
theorem Sm.fz(S:Sm K Z Θ ao C σ H)(f:Fz ao aV):Sm K Z Θ aV C σ H:=by
 have sub:aaW (bB Z Θ aV σ) (bB Z Θ ao σ):=Km (Du _) (Km (Du _) f.own);have sm:cH (er (bB Z Θ ao σ) H) (er (bB Z Θ aV σ) H):=nD (bD.refl [] H) (λ_ m=>nomatch m) λa m=>.inl (sub.subset m)
 refine⟨by rw[f.len];exact S.len,sub.nodup S.nd,S.dom,λi x e0=>?_,S.cell⟩
 rcases f.at e0 with e|⟨d,e,ex⟩
 .obtain⟨v,e1,r⟩:=S.slot i x e
  exact⟨v,e1,r.same sm λ_ _ _ _ _ ho=>ho⟩
 .subst ex
  obtain⟨v,e1,a,ev,r⟩:=S.slot i _ e
  subst ev
  refine⟨_,e1,kY.rz (H:=H) (λo ho=>?_) (r.same sm λ_ ho=>ho)⟩
  unfold er;rw[bH]
  .exact ho
  .intro m;have hm:a∈bV ao σ:=nU.mpr ⟨i,d,e,e1⟩;rcases cY.mp m with m|m
   .exact(S.qe hm).1 m
   .rcases cY.mp m with m|m
    .exact(S.qe hm).2 m
    .obtain⟨j,d',e3,e4⟩:=nU.mp m
     have nd:=S.nd;rw[jF] at nd;have nd2:=nd.2.1;rw[jF] at nd2;rcases f.at e3 with e5|⟨_,_,e5⟩
     .have:=Ij nd2.2.1 e e1 e5 e4;subst this;rw[e0] at e3;cases e3
     .cases e5
end
section
variable{K:aZ}{Z Θ:List aC}{ao aV:En}{C C':Ce}{σ:St}{H H':Hp}{a p:aC}
theorem Sm.pop(S:Sm K (a::Z) Θ ao C σ H):Sm K Z Θ ao C σ H:=by
 have sm:cH (er (bB (a::Z) Θ ao σ) H) (er (bB Z Θ ao σ) H):=nD (bD.refl [] H) (λ_ m=>nomatch m) λb m=>.inl (dM _ m)
 exact⟨S.len,(ie.mp S.nd).2,λb m=>S.dom b (dM _ m),λi x e=>let ⟨v,e1,r⟩:=S.slot i x e;⟨v,e1,r.same sm λ_ _ _ _ _ h=>h⟩,S.cell⟩
theorem Sm.push(S:Sm K Z Θ ao C σ H)(hp:H p=aj)(o:HO)(ho:∀vs,o≠.tup vs):Sm K (p::Z) Θ ao C σ (upd H p o):=by
 have k:bD Θ H (upd H p o):=bD.upd hp;have sm:cH (er (bB Z Θ ao σ) H) (er (bB (p::Z) Θ ao σ) (upd H p o)):=nD k S.uc λb m=>by
  rcases bW.mp m with rfl|m
  .exact .inr hp
  .exact .inl m
 have c:qJ Θ C (upd H p o):=⟨S.cell.len,λn b ns e1 e2=>by
  have:=S.cell.at_ n b ns e1 e2;rw[cP (pX this hp)];exact this⟩
 refine⟨S.len,ie.mpr ⟨λm=>S.Jw p m hp,S.nd⟩,λb m=>?_,λi x e=>?_,c⟩
 .rcases bW.mp m with rfl|m
  .exact⟨o,eV,ho⟩
  .obtain⟨u,e,n⟩:=S.dom b m
   exact⟨u,by rw[cP (pX e hp)];exact e,n⟩
 .obtain⟨v,e1,r⟩:=S.slot i x e
  refine⟨v,e1,r.same sm λd b ex ev o' ho=>?_⟩
  rw[cP (pX ho hp)];exact ho
theorem Sm.Cy(S:Sm K Z Θ ao C σ H)(s:cH H H'):Sm K Z Θ ao C σ H':=
 S.go (bD.of s) ⟨S.cell.len,λn b ns e1 e2=>s _ _ (S.cell.at_ n b ns e1 e2)⟩
def Res(K:aZ)(Z Θ:List aC)(ao:En)(C:Ce)(σ:St)(H H':Hp):Vl->V->Prop
 |.im d,v=>Sm K Z Θ ao C σ H'/\RZ (er (bB Z Θ ao σ) H') d v
 |.ow d,v=>∃a,v=.ref a/\H a=aj/\Sm K (a::Z) Θ ao C σ H'/\kY (er (bB (a::Z) Θ ao σ) H') H' a d
 |.ce n,v=>Sm K Z Θ ao C σ H'/\∃a,v=.ref a/\Θ[n]?=aa a
 |.sc ns,v=>Sm K Z Θ ao C σ H'/\∃a,v=.ref a/\cj K (er (bB Z Θ ao σ) H') a (ns.map V.int)
 |.ks ns,v=>Sm K Z Θ ao C σ H'/\∃a,v=.ref a/\cU K (er (bB Z Θ ao σ) H') a (ns.map toV)
 |.tp _ _ _,_=>False
def Dg(E T:Hp):aD->V->Prop
 |.list ds,v=>∃a vs,v=.ref a/\T a=aa (.lst vs)/\cu E ds vs
 |.dict aA,v=>∃a vs,v=.ref a/\o8 T a aA vs/\gA E aA vs
 |d,v=>RZ E d v
theorem Dg.same(s:cH E E')(t:cH T T')(h:Dg E T d v):Dg E' T' d v:=by
 cases d<;>first|exact RZ.same s h|skip
 .obtain⟨a,vs,e,q,r⟩:=h
  exact⟨a,vs,e,t _ _ q,r.same s⟩
 .obtain⟨a,vs,e,q,r⟩:=h
  exact⟨a,vs,e,q.same t,r.same s⟩
theorem RZ.bor(t:cH E T)(h:RZ E d v):Dg E T d v:=by
 cases d<;>first|exact h|skip
 .obtain⟨a,vs,e,q,r⟩:=h
  exact⟨a,vs,e,t _ _ q,r⟩
 .obtain⟨a,vs,e,q,r⟩:=h
  exact⟨a,vs,e,q.same t,r⟩
abbrev gK(Z Θ:List aC)(ao:En)(σ:St)(H:Hp)(d:aD)(v:V):Prop:=Dg (er (bB Z Θ ao σ) H) (er Θ H) d v
theorem wz(h:∀a,a∈Z'->a∈Z):cH (er Z H) (er Z' H):=nD (bD.refl [] H) (λ_ m=>nomatch m) λb m=>.inl (h b m)
theorem afd:cH (er (bB Z Θ ao σ) H) (er Θ H):=wz λa m=>eF _ (fM _ m)
theorem Fz.sub(f:Fz ao aV):∀a,a∈bB Z Θ aV σ->a∈bB Z Θ ao σ:=λa m=>
 (Km (Du _) (Km (Du _) f.own)).subset m
theorem Xz(S:Sm K Z Θ ao C σ H)(k:bD Θ H H')(f:Fz ao aV):cH (er (bB Z Θ ao σ) H) (er (bB Z Θ aV σ) H'):=nD k S.uc λa m=>.inl (f.sub a m)
theorem aeO(k:bD Θ H H'):cH (er Θ H) (er Θ H'):=nD k (λ_ m=>m) λa m=>.inl m
theorem gK.go(h:gK Z Θ ao σ H d v)(S:Sm K Z Θ ao C σ H)(k:bD Θ H H')(f:Fz ao aV):gK Z Θ aV σ H' d v:=Dg.same (Xz S k f) (aeO k) h
noncomputable def dat:Vl->Option aD
 |.im d=>aa d
 |.ow d=>aa d
 |.ce _=>aj
 |.sc _=>aj
 |.ks _=>aj
 |.tp _ _ _=>aj
theorem Res.sm(h:Res K Z Θ ao C σ H H' r v):Sm K Z Θ ao C σ H':=by
 cases r with
 |im d=>exact h.1
 |ow d=>obtain⟨a,_,_,S,_⟩:=h;exact S.pop
 |ce n=>exact h.1
 |sc ns=>exact h.1
 |ks ns=>exact h.1
 |tp=>exact h.elim
theorem Res.bor(h:Res K Z Θ ao C σ H H' r v)(e:dat r=aa d):gK Z Θ ao σ H' d v:=by
 cases r with
 |im d'=>cases e;exact RZ.bor afd h.2
 |ow d'=>
  cases e
  obtain⟨a,rfl,_,S,r⟩:=h
  have na:a∉Θ:=λm=>(ie.mp S.nd).1 (eF _ (fM _ m))
  have sm:cH (er (bB (a::Z) Θ ao σ) H') (er (bB Z Θ ao σ) H'):=wz λb m=>dM _ m
  have ha:∀o,H' a=aa o->er Θ H' a=aa o:=λo ho=>by unfold er;rw[bH na];exact ho
  cases d<;>first|exact r.elim|skip
  .obtain⟨vs,e,q⟩:=r
   exact⟨a,vs,rfl,ha _ e,q.same sm⟩
  .obtain⟨vs,e,q⟩:=r
   refine⟨a,vs,rfl,?_,q.same sm⟩
   rcases e with⟨ks,k,ep,e⟩|⟨ks,k,ep,e⟩
   .exact .inl ⟨ks,k,ep,ha _ e⟩
   .exact .inr ⟨ks,k,ep,ha _ e⟩
 |ce n=>cases e
 |sc ns=>cases e
 |ks ns=>cases e
 |tp=>cases e
noncomputable def still:Vl->Vl
 |.ow d=>.im d
 |r=>r
theorem Res.still(h:Res K Z Θ ao C σ H H' r v):Res K Z Θ ao C σ H H' (still r) v:=by
 cases r with
 |ow d=>
  obtain⟨a,rfl,hn,S,r⟩:=h
  refine⟨S.pop,kY.rz (H:=H') (λo ho=>?_) (r.same (wz λb m=>dM _ m) λ_ h=>h)⟩
  unfold er;rw[bH (show ¬a∈bB Z Θ ao σ from(ie.mp S.nd).1)];exact ho
 |im d=>exact h
 |ce n=>exact h
 |sc ns=>exact h
 |ks ns=>exact h
 |tp=>exact h
theorem Res.from(h:Res K Z Θ ao C σ H H' r v)(k:bD Θ H0 H):Res K Z Θ ao C σ H0 H' r v:=by
 cases r with
 |ow d=>
  obtain⟨a,e,hn,S,r⟩:=h
  exact⟨a,e,k.none hn,S,r⟩
 |im d=>exact h
 |ce n=>exact h
 |sc ns=>exact h
 |ks ns=>exact h
 |tp=>exact h
theorem IK(S:Sm K Z Θ ao C σ H)(h:H a=aa (.tup vs)):er (bB Z Θ ao σ) H a=aa (.tup vs):=by
 unfold er;rw[bH]
 .exact h
 .intro m
  obtain⟨u,e,n⟩:=S.yN a m
  rw[h] at e;exact n vs (jy e).symm
def rst(r:Vl)(ao aV:En):En:=match r with
 |.im d=>if jf d then ao else aV
 |_=>aV
theorem Res.rst(S:Sm K Z Θ ao C σ H)(k:bD Θ H H')(h:Res K Z Θ aV C' σ H H' r v):Res K Z Θ (rst r ao aV) C' σ H H' r v:=by
 cases r with
 |im d=>
  by_cases f:L2.jf d=aq
  .have:L2.rst (.im d) ao aV=ao:=bG f;rw[this];have S':=S.go k h.1.cell
   exact⟨S',h.2.jf (λa vs e=>IK S' (jh e)) f⟩
  .have:L2.rst (.im d) ao aV=aV:=bH f;rw[this];exact h
 |ow d=>exact h
 |ce n=>exact h
 |sc ns=>exact h
 |ks ns=>exact h
 |tp=>exact h
theorem Fz.rst(r:Vl)(f:Fz ao aV):Fz ao (rst r ao aV):=by
 cases r with
 |im d=>
  show Fz ao (if L2.jf d then ao else aV);split
  .exact Fz.refl _
  .exact f
 |ow d=>exact f
 |ce n=>exact f
 |sc ns=>exact f
 |ks ns=>exact f
 |tp=>exact f
theorem jV(S:Sm K Z Θ ao C σ H)(f:lU d=aq)(hv:v=toV d):Res K Z Θ ao C σ H H (.im d) v:=⟨S,by rw[hv];exact amW f⟩
theorem rH(S:Sm K Z Θ ao C σ H)(r:cu (er (bB Z Θ ao σ) H) ds vs)(hp:H p=aj):Res K Z Θ ao C σ H (upd H p (.lst vs)) (.ow (.list ds)) (.ref p):=by
 refine⟨p,rfl,hp,S.push hp _ (λ_ z=>nomatch z),vs,eV,r.same (nD (bD.upd (Θ:=Θ) hp) S.uc λb m=>?_)⟩
 rcases bW.mp m with rfl|m
 .exact .inr hp
 .exact .inl m
theorem amY(S:Sm K Z Θ ao C σ H)(ho:∀vs,o≠.tup vs)(d:o8 (upd H p o) p aA vs)(r:gA (er (bB Z Θ ao σ) H) aA vs)(hp:H p=aj):Res K Z Θ ao C σ H (upd H p o) (.ow (.dict aA)) (.ref p):=by
 refine⟨p,rfl,hp,S.push hp _ ho,vs,d,r.same (nD (bD.upd (Θ:=Θ) hp) S.uc λb m=>?_)⟩
 rcases bW.mp m with rfl|m
 .exact .inr hp
 .exact .inl m
theorem Nm(S:Sm K Z Θ ao C σ H)(r:cu (er (bB Z Θ ao σ) H) ds vs)(hp:H p=aj):Res K Z Θ ao C σ H (upd H p (.tup vs)) (.im (.tuple ds)) (.ref p):=by
 have S':=S.Cy (cH.upd (o:=.tup vs) hp)
 refine⟨S',p,vs,rfl,?_,r.same (nD (bD.upd (Θ:=Θ) hp) S.uc λb m=>.inl m)⟩
 unfold er;rw[bH (λm=>S.Jw p m hp),eV]
end
theorem hide{P:Prop}(h:∀G:Prop,(P->G)->G):P:=h P id
inductive afM{α β:Type}(o:Option α)(g:α->Option β)(y:β):Prop
 |mk (x:α) (h1:o=aa x) (h2:g x=aa y):afM o g y
theorem fZ(h:o.bind g=aa y):afM o g y:=by
 cases o with
 |none=>cases h
 |some x=>exact⟨x,rfl,h⟩
def vg:Vl->Option aD
 |.im y=>aa y
 |_=>aj
theorem IV(h:vg x=aa y):x=.im y:=by
 cases x<;>cases h;rfl
def Qe:aD->Option Str
 |.str z=>aa z
 |_=>aj
theorem amZ(h:Qe d=aa z):d=.str z:=by
 cases d<;>cases h;rfl
def intD:aD->Option Int
 |.int k=>aa k
 |_=>aj
theorem VN(h:intD d=aa k):d=.int k:=by
 cases d<;>cases h;rfl
abbrev FE:=En->Ce->Option (Vl×En×Ce)
abbrev FB:=En->Ce->Option (aD×En×Ce)
abbrev FT:=En->Ce->Option (Bool×Ce)
abbrev Am:=En->Ce->Option (List aD×En×Ce)
abbrev FA:=En->Ce->Option (List Vl×En×Ce)
inductive tE(K:aZ)(f:FE)(σ:St)(H:Hp)(Q:VK):Prop
 |mk (Z Θ:List aC) (ao:En) (C:Ce) (r:Vl) (aV:En) (C':Ce) (S:Sm K Z Θ ao C σ H) (hf:f ao C=aa (r,aV,C')) (q:∀v H',bD Θ H H'->Fz ao aV->Res K Z Θ aV C' σ H H' r v->Q v H'):tE K f σ H Q
inductive eX(K:aZ)(f:FB)(σ:St)(H:Hp)(Q:VK):Prop
 |mk (Z Θ:List aC) (ao:En) (C:Ce) (d:aD) (aV:En) (C':Ce) (S:Sm K Z Θ ao C σ H) (hf:f ao C=aa (d,aV,C')) (q:∀v H',bD Θ H H'->Fz ao aV->Sm K Z Θ aV C' σ H'->gK Z Θ aV σ H' d v->Q v H'):eX K f σ H Q
inductive gM(K:aZ)(f:FT)(σ:St)(H:Hp)(Q:Bool->Hp->Prop):Prop
 |mk (Z Θ:List aC) (ao:En) (C:Ce) (b:Bool) (C':Ce) (S:Sm K Z Θ ao C σ H) (hf:f ao C=aa (b,C')) (q:∀H',bD Θ H H'->Sm K Z Θ ao C' σ H'->Q b H'):gM K f σ H Q
inductive Qf(E T:Hp):List aD->List V->Prop
 |nil:Qf E T [] []
 |cons {d:aD} {v:V} {ds:List aD} {vs:List V}:Dg E T d v->Qf E T ds vs->Qf E T (d::ds) (v::vs)
abbrev Pq(Z Θ:List aC)(ao:En)(σ:St)(H:Hp)(ds:List aD)(vs:List V):Prop:=Qf (er (bB Z Θ ao σ) H) (er Θ H) ds vs
inductive wX(K:aZ)(f:Am)(σ:St)(H:Hp)(Q:List V->Hp->Prop):Prop
 |mk (Z Θ:List aC) (ao:En) (C:Ce) (ds:List aD) (aV:En) (C':Ce) (S:Sm K Z Θ ao C σ H) (hf:f ao C=aa (ds,aV,C')) (q:∀vs H',bD Θ H H'->Fz ao aV->Sm K Z Θ aV C' σ H'->Pq Z Θ aV σ H' ds vs->Q vs H'):wX K f σ H Q
theorem PE.weak(h:PE X e t)(w:∀σ H Q,t' σ H Q->t σ H Q):PE X e t':=λau s σ H Q I q=>h au s σ H Q I (w σ H Q q)
theorem PT.weak(h:PT X e t)(w:∀σ H Q,t' σ H Q->t σ H Q):PT X e t':=λau s σ H Q I q=>h au s σ H Q I (w σ H Q q)
theorem PA.weak(h:PA X e t)(w:∀σ H Q,t' σ H Q->t σ H Q):PA X e t':=λp au s σ H Q I q=>h p au s σ H Q I (w σ H Q q)
theorem PS.weak(h:PS X e t)(w:∀D σ H,t' D σ H->t D σ H):PS X e t':=λau s σ H D I q=>h au s σ H D I (w D σ H q)
theorem je.weak(h:je X e t)(w:∀D σ H,t' D σ H->t D σ H):je X e t':=λau s σ H D I q=>h au s σ H D I (w D σ H q)
theorem PW.weak(h:PW X e t)(w:∀σ H Q,t' σ H Q->t σ H Q):PW X e t':=λwh au s σ H Q I q=>h wh au s σ H Q I (w σ H Q q)
def aU(i:Nat):FE:=λao C=>match ao[i]? with
 |some (some (.im d))=>aa (.im d,ao,C)
 |some (some (.ow d))=>aa (.im d,ao.set i (aa (.im d)),C)
 |some (some (.ce n))=>aa (.ce n,ao,C)
 |some (some (.sc ns))=>aa (.sc ns,ao,C)
 |some (some (.ks ns))=>aa (.ks ns,ao,C)
 |_=>aj
def aH(i:Nat):FB:=λao C=>match ao[i]? with
 |some (some x)=>(dat x).map λd=>(d,ao,C)
 |_=>aj
noncomputable def bM (d:aD):FE:=λao C=>aa (.im d,ao,C)
def aG(f:FE):FB:=λao C=>match f ao C with
 |some (r,e',C')=>(dat r).map λd=>(d,e',C')
 |none=>aj
theorem aeP:∀{ao:En}{i:Nat}{d:aD},ao[i]?=aa (aa (.ow d))->Fz ao (ao.set i (aa (.im d)))
 |[],i,d,e=>by simp at e
 |x::r,0,d,e=>by simp at e;subst e;exact⟨.inr ⟨d,rfl,rfl⟩,Fz.refl r⟩
 |x::r,i+1,d,e=>⟨.inl rfl,aeP (by simpa using e)⟩
theorem jB(h:PE X e (qj i)):PE X e (tE X.K (aU i)):=h.weak λσ H Q aY=>by
 obtain⟨Z,Θ,ao,C,r,aV,C',S,hf,q⟩:=aY
 unfold aU at hf;split at hf;all_goals first|(rename_i d hd;cases hf)|cases hf
 .obtain⟨v,e1,r⟩:=S.slot i _ hd
  exact⟨v,e1,q v H (bD.refl _ _) (Fz.refl _) ⟨S,r⟩⟩
 .have f:=aeP hd
  obtain⟨v,e1,r⟩:=S.slot i _ hd
  have S':=S.fz f
  refine⟨v,e1,q v H (bD.refl _ _) f ⟨S',?_⟩⟩
  have hi:i<ao.length:=by
   have:=jO.mp hd;exact this.1
  obtain⟨v',e2,r'⟩:=S'.slot i (.im d) (by rw[Rj,bG rfl,bG hi])
  rw[e1] at e2;cases e2;exact r'
 .obtain⟨v,e1,r⟩:=S.slot i _ hd
  exact⟨v,e1,q v H (bD.refl _ _) (Fz.refl _) ⟨S,r⟩⟩
 .obtain⟨v,e1,r⟩:=S.slot i _ hd
  exact⟨v,e1,q v H (bD.refl _ _) (Fz.refl _) ⟨S,r⟩⟩
 .obtain⟨v,e1,r⟩:=S.slot i _ hd
  exact⟨v,e1,q v H (bD.refl _ _) (Fz.refl _) ⟨S,r⟩⟩
theorem j7(h:PE X e (qj i)):PE X e (eX X.K (aH i)):=h.weak λσ H Q aY=>by
 obtain⟨Z,Θ,ao,C,d,aV,C',S,hf,q⟩:=aY
 unfold aH at hf;split at hf
 .rename_i x hx
  obtain⟨v,e1,r⟩:=S.slot i _ hx
  have ex:dat x=aa d/\ao=aV/\C=C':=by
   cases hd:dat x with
   |none=>rw[hd] at hf;cases hf
   |some d'=>rw[hd] at hf;cases hf;exact⟨rfl,rfl,rfl⟩
  obtain⟨ex,rfl,rfl⟩:=ex
  refine⟨v,e1,q v H (bD.refl _ _) (Fz.refl _) S ?_⟩
  cases x with
  |im d'=>cases ex;exact RZ.bor afd r
  |ow d'=>
   cases ex
   obtain⟨a,rfl,r⟩:=r
   have na:=(S.qe (nU.mpr ⟨i,_,hx,e1⟩)).2;have ha:∀o,H a=aa o->er Θ H a=aa o:=λo ho=>by unfold er;rw[bH na];exact ho
   cases d<;>first|exact r.elim|skip
   .obtain⟨vs,e,q⟩:=r
    exact⟨a,vs,rfl,ha _ e,q⟩
   .obtain⟨vs,e,q⟩:=r
    refine⟨a,vs,rfl,?_,q⟩
    rcases e with⟨ks,k,ep,e⟩|⟨ks,k,ep,e⟩
    .exact .inl ⟨ks,k,ep,ha _ e⟩
    .exact .inr ⟨ks,k,ep,ha _ e⟩
  |ce n=>cases ex
  |sc ns=>cases ex
  |ks ns=>cases ex
  |tp=>cases ex
 .cases hf
theorem bN(h:PE X e (tC v))(f:lU d=aq:=by rfl)(hv:v=toV d:=by rfl):PE X e (tE X.K (bM d)):=h.weak λσ H Q aY=>by
 obtain⟨Z,Θ,ao,C,r,aV,C',S,hf,q⟩:=aY
 cases hf;exact q v H (bD.refl _ _) (Fz.refl _) (jV S f hv)
theorem aL(h:PE X e (tE X.K f)):PE X e (eX X.K (aG f)):=h.weak λσ H Q aY=>by
 obtain⟨Z,Θ,ao,C,d,aV,C',S,hf,q⟩:=aY
 unfold aG at hf;split at hf
 .rename_i r e' C1 hr;cases hd:dat r with
  |none=>rw[hd] at hf;cases hf
  |some d'=>
   rw[hd] at hf;cases hf
   exact⟨Z,Θ,ao,C,r,aV,C',S,hr,λv H' k f R=>q v H' k f R.sm (R.bor hd)⟩
 .cases hf
noncomputable def gB:Nat:=1000000
theorem vU(h:n<=gB):n<=cJ:=by rw[jQ];unfold gB at h;lia
def jD(K:aZ)(r:R2)(op:aD->aD->oVl):Prop:=
 ∀(Z Θ:List aC)(ao:En)(C:Ce)(σ:St)(H:Hp)(x y:V)(dx dy:aD)(res:Vl),Sm K Z Θ ao C σ H->gK Z Θ ao σ H dx x->gK Z Θ ao σ H dy y->op dx dy=aa res->
  ∀Q:VK,(∀v H',bD Θ H H'->Res K Z Θ ao C σ H H' res v->Q v H')->r x y H Q
def aJ(op:aD->aD->oVl)(fa fb:FB):FE:=λao C=>match fa ao C with
 |some (x,e1,C1)=>match fb e1 C1 with
  |some (y,e2,C2)=>match op x y with
   |some r=>aa (r,rst r ao e2,C2)
   |none=>aj
  |none=>aj
 |none=>aj
theorem Mv{K:aZ}{r:R2}(L:jD K r op):∀σ H Q,tE K (aJ op fa fb) σ H Q->JR r (eX K fa) (eX K fb) σ H Q:=by
 rintro σ H Q ⟨Z,Θ,ao,C,res,aV,C',S,hf,q⟩;unfold aJ at hf;split at hf
 .rename_i x e1 C1 h1;split at hf
  .rename_i y e2 C2 h2;split at hf
   .rename_i r0 h3;cases hf
    refine⟨Z,Θ,ao,C,x,e1,C1,S,h1,λv H1 k1 f1 S1 b1=>⟨Z,Θ,e1,C1,y,e2,C',S1,h2,λu H2 k2 f2 S2 b2=>?_⟩⟩
    refine L Z Θ e2 C' σ H2 v u x y res S2 (b1.go S1 k2 f2) b2 h3 Q λz H3 k3 R=>?_
    have k:=(k1.trans k2).trans k3;exact q z H3 k ((f1.trans f2).rst res) ((R.from (k1.trans k2)).rst S k)
   .cases hf
  .cases hf
 .cases hf
theorem eY(ho:dU X (pZ o) r)(L:jD X.K r op)(ha:PE X a (eX X.K fa))(hb:PE X b (eX X.K fb)):PE X (.BinOp a o b pos) (tE X.K (aJ op fa fb)):=(apy ho ha hb).weak (Mv L)
theorem rM(ho:dU X (iG o) r)(L:jD X.K r op)(ha:PE X a (eX X.K fa))(hb:PE X b (eX X.K fb))(hm:G4 o b=aM):PE X (.Compare a [o] [b] pos) (tE X.K (aJ op fa fb)):=(amw ho ha hb hm).weak (Mv L)
theorem lF(ho:t7 X r)(L:jD X.K r op)(ha:PE X a (eX X.K fa))(hb:PE X b (eX X.K fb))(hs:BK b):PE X (.Subscript a b pos) (tE X.K (aJ op fa fb)):=(Jj ho ha hb hs).weak (Mv L)
theorem gK.int(h:gK Z Θ ao σ H (.int i) x):x=.int i:=h
theorem gK.str(h:gK Z Θ ao σ H (.str i) x):x=.str i:=h
theorem gK.tup(h:gK Z Θ ao σ H (.tuple ds) x):∃a vs,x=.ref a/\H a=aa (.tup vs)/\cu (er (bB Z Θ ao σ) H) ds vs:=by
 obtain⟨a,vs,e,q,r⟩:=h
 exact⟨a,vs,e,jh q,r⟩
theorem gK.lst(h:gK Z Θ ao σ H (.list ds) x):∃a vs,x=.ref a/\H a=aa (.lst vs)/\cu (er (bB Z Θ ao σ) H) ds vs:=by
 obtain⟨a,vs,e,q,r⟩:=h
 exact⟨a,vs,e,jh q,r⟩
theorem gK.dct(h:gK Z Θ ao σ H (.dict aA) x):∃a vs,x=.ref a/\o8 H a aA vs/\gA (er (bB Z Θ ao σ) H) aA vs:=by
 obtain⟨a,vs,e,q,r⟩:=h
 exact⟨a,vs,e,q.same (qK _ _),r⟩
theorem gK.flat(f:lU d=aq)(h:gK Z Θ ao σ H d x):x=toV d:=by
 cases d<;>first|exact h|cases f
theorem gK.rx(n:qW d=aq)(h:gK Z Θ ao σ H d x):RX H d x:=by
 cases d<;>first|exact h|skip
 .obtain⟨a,vs,e,q,r⟩:=h
  exact⟨a,vs,e,jh q,(r.same (qK _ _)).rx n⟩
 .obtain⟨a,vs,e,q,r⟩:=h
  exact⟨a,vs,e,jh q,(r.same (qK _ _)).rx n⟩
 .cases n
section
variable{X:Cx}
def bU:aD->aD->oVl
 |.int i,.int j=>aa (.im (.int (i+j)))
 |.str x,.str y=>if x.length+y.length<=gB then aa (.im (.str (x++y))) else aj
 |.list xs,.list ys=>if xs.length+ys.length<=gB then aa (.ow (.list (xs++ys))) else aj
 |.tuple xs,.tuple ys=>if xs.isEmpty then aa (.im (.tuple ys)) else if xs.length+ys.length<=gB then aa (.im (.tuple (xs++ys))) else aj
 |_,_=>aj
def afe(K:aZ):R2:=λx y H Q=>∃a b ys,x=.ref a/\y=.ref b/\cU K H a []/\cU K H b ys/\Q (.ref b) H
theorem am0:dU X (pZ .Add) (afe X.K):=by
 intro au s σ H x y v u Q I rx ry h
 obtain⟨a,b,ys,rfl,rfl,ha,hb,q⟩:=h
 cases rx;cases ry
 obtain⟨aK,r1,p1,_⟩:=I.tuple ha
 obtain⟨its2,r2,p2,_⟩:=I.tuple hb
 obtain⟨⟨cls,dd,data,sl⟩,ho,hc,n,hd⟩:=id p1
 obtain⟨⟨cls2,dd2,data2,sl2⟩,ho2,hc2,n2,hd2⟩:=id p2
 simp only at hc hd hc2 hd2;subst hc hd hc2 hd2;exact aaP ⟨_,ho,rfl⟩ ⟨_,ho2,rfl⟩ Z8 aaC Zw Zv (Zq _ _)
  (tuple_addW0 a b aK.toArray its2.toArray n n2 dd dd2 sl sl2 (by cases r1;rfl)) ⟨ho,ho2,⟨.ref b,H,I,rfl,q⟩⟩
def afg(K:aZ):R2:=λx y H Q=>(((sE λi j=>.int (i+j)) x y H Q\/∃i j,x=.str i/\y=.str j/\i.length+j.length<=cJ/\Q (.str (i++j)) H)\/afG x y H Q)\/afe K x y H Q\/afa K x y H Q
theorem p6:dU X (pZ .Add) (afg X.K):=((aoi.or ajj).or aox).or (am0.or amD)
theorem qg{K:aZ}:jD K (afg K) bU:=by
 intro Z Θ ao C σ H x y dx dy res S bx fV e Q q;unfold bU at e;split at e
 .cases e;cases bx.int;cases fV.int;exact .inl (.inl (.inl ⟨_,_,rfl,rfl,q _ _ (bD.refl _ _) (jV S rfl rfl)⟩))
 .split at e
  .rename_i hl;cases e;cases bx.str;cases fV.str;exact .inl (.inl (.inr ⟨_,_,rfl,rfl,vU hl,q _ _ (bD.refl _ _) (jV S rfl rfl)⟩))
  .cases e
 .split at e
  .rename_i hl;cases e
   obtain⟨a,vs,rfl,ha,r1⟩:=bx.lst
   obtain⟨b,ws,rfl,hb,r2⟩:=fV.lst
   exact .inl (.inr ⟨a,b,vs,ws,rfl,rfl,ha,hb,by rw[jG r1,jG r2];exact vU hl,λp hp=>q _ _ (bD.upd hp) (rH S (BR r1 r2) hp)⟩)
  .cases e
 .split at e
  .rename_i xs ys he;cases e;have:xs=[]:=List.isEmpty_iff.mp he;subst this;have by2:=fV
   obtain⟨a,vs,rfl,ha,r1⟩:=bx.tup
   obtain⟨b,ws,rfl,hb,r2⟩:=fV.tup
   cases(show vs=[] from r1)
   exact .inr (.inl ⟨a,b,ws,rfl,rfl,cU.of ha,cU.of hb,q _ _ (bD.refl _ _) ⟨S,by2⟩⟩)
  split at e
  .rename_i xs ys he hl;cases e
   obtain⟨a,vs,rfl,ha,r1⟩:=bx.tup
   obtain⟨b,ws,rfl,hb,r2⟩:=fV.tup
   have l1:=jG r1;have l2:=jG r2;have hv:vs≠[]:=λz=>by
    subst z;cases xs with
    |nil=>exact he rfl
    |cons _ _=>cases l1
   refine .inr (.inr ⟨a,b,vs,ws,rfl,rfl,cU.of ha,cU.of hb,hv,by rw[l1,l2];exact vU hl,λz=>?_,λ_ p hp=>q _ _ (bD.upd hp) (Nm S (BR r1 r2) hp)⟩);subst z;have:ys=[]:=List.eq_nil_of_length_eq_zero l2.symm;subst this;rw[mj] at q;refine q _ _ (bD.refl _ _) ⟨S,?_⟩;exact bx
  .cases e
 .cases e
def Pr:aD->aD->oVl
 |.int i,.int j=>aa (.im (.int (i-j)))
 |_,_=>aj
theorem VP{K:aZ}(h:∀dx dy res,op dx dy=aa res->∃i j d,dx=.int i/\dy=.int j/\res=.im d/\lU d=aq/\g i j=toV d):jD K (sE g) op:=by
 intro Z Θ ao C σ H x y dx dy res S bx fV e Q q
 obtain⟨i,j,d,rfl,rfl,rfl,f,hv⟩:=h _ _ _ e
 cases bx.int;cases fV.int
 exact⟨_,_,rfl,rfl,q _ _ (bD.refl _ _) (jV S f hv)⟩
theorem Ot{K:aZ}(h:∀dx dy res,op dx dy=aa res->∃i j d,dx=.int i/\dy=.int j/\res=.im d/\lU d=aq/\g i j=toV d/\Cn i j):jD K (rI Cn g) op:=by
 intro Z Θ ao C σ H x y dx dy res S bx fV e Q q
 obtain⟨i,j,d,rfl,rfl,rfl,f,hv,c⟩:=h _ _ _ e
 cases bx.int;cases fV.int
 exact⟨_,_,rfl,rfl,c,q _ _ (bD.refl _ _) (jV S f hv)⟩
theorem aoJ{K:aZ}:jD K (sE λi j=>.int (i-j)) Pr:=VP λdx dy res e=>by
 unfold Pr at e;split at e<;>cases e
 exact⟨_,_,_,rfl,rfl,rfl,rfl,rfl⟩
def mQ:aD->aD->oVl
 |.int i,.int j=>if 0<j then aa (.im (.int (i%j))) else aj
 |_,_=>aj
theorem wA{K:aZ}:jD K (rI (λ_ j=>0<j) λi j=>.int (i%j)) mQ:=Ot λdx dy res e=>by
 unfold mQ at e;split at e
 .split at e
  .rename_i h;cases e;exact⟨_,_,_,rfl,rfl,rfl,rfl,rfl,h⟩
  .cases e
 .cases e
def zO:aD->aD->oVl
 |.int i,.int j=>if 0<j/\j<1073741824 then aa (.im (.int (i / j))) else aj
 |_,_=>aj
theorem VR{K:aZ}:jD K (rI afA λi j=>.int (i / j)) zO:=Ot λdx dy res e=>by
 unfold zO at e;split at e
 .split at e
  .rename_i h;cases e;exact⟨_,_,_,rfl,rfl,rfl,rfl,rfl,h⟩
  .cases e
 .cases e
def yh:aD->aD->oVl
 |.int i,.int j=>if 0<=j/\j<=1000000/\i.natAbs<2^64 then aa (.im (.int (i^j.toNat))) else aj
 |_,_=>aj
theorem Ou{K:aZ}:jD K (rI afB λi j=>.int (i^j.toNat)) yh:=Ot λdx dy res e=>by
 unfold yh at e;split at e
 .split at e
  .rename_i h;cases e;exact⟨_,_,_,rfl,rfl,rfl,rfl,rfl,h⟩
  .cases e
 .cases e
def jX:aD->aD->oVl
 |.int i,.int j=>if(-(2^64)<i/\i<2^64)\/(-(2^64)<j/\j<2^64) then aa (.im (.int (i*j))) else aj
 |_,_=>aj
theorem rN{K:aZ}:jD K (rI Ju λi j=>.int (i*j)) jX:=Ot λdx dy res e=>by
 unfold jX at e;split at e
 .split at e
  .rename_i h;cases e;exact⟨_,_,_,rfl,rfl,rfl,rfl,rfl,h⟩
  .cases e
 .cases e
end
section
variable{X:Cx}
noncomputable def yO:aD->aD->Option Bool
 |.int i,.int j=>aa (i==j)
 |.str x,.str y=>aa (x==y)
 |.bool a,.bool b=>aa (a==b)
 |d,e=>if qW d&&qW e&&(nP d&&nP e) then aa (Br d e) else aj
def jl(d e:aD):oVl:=(yO d e).map λb=>.im (.bool b)
def oh(d e:aD):oVl:=(yO d e).map λb=>.im (.bool (!b))
theorem ajB(hu:X.A.units+64<iM):dU X (iG .Eq) (λx y H Q=>∃d e,RX H d x/\RX H e y/\nP d=aq/\nP e=aq/\Q (.bl (Br d e)) H):=by
 intro au s σ H x y v u Q I rx ry h
 obtain⟨d,e,hd,he,h1,h2,q⟩:=h
 obtain⟨as,ra⟩:=RD.reads I (hd.rd (K:=X.K)) rx
 obtain⟨bs,rb⟩:=RD.reads I (he.rd (K:=X.K)) ry
 exact PySem.SeqAt.compareEq_shaped ra rb h1 h2 hu ⟨.bl _,H,I,rfl,q⟩
def afN:R2:=λx y H Q=>rEq x y H Q\/∃d e,RX H d x/\RX H e y/\nP d=aq/\nP e=aq/\Q (.bl (Br d e)) H
def afO:R2:=λx y H Q=>rNe x y H Q\/∃d e,RX H d x/\RX H e y/\nP d=aq/\nP e=aq/\Q (.bl (!PyData.eqv d e)) H
theorem nW(hu:X.A.units+64<iM):dU X (iG .Eq) afN:=apA.or (ajB hu)
theorem Cd(hu:X.A.units+64<iM):dU X (iG .NotEq) afO:=apB.or (ajt hu)
theorem abY(h:yO d e=aa b):(lU d=aq/\lU e=aq/\Yb (toV d) (toV e)=aq/\b=decide (toV d=toV e))\/(qW d=aq/\qW e=aq/\nP d=aq/\nP e=aq/\b=Br d e):=by
 unfold yO at h;split at h
 .cases h;exact .inl ⟨rfl,rfl,rfl,Vx.symm⟩
 .cases h;exact .inl ⟨rfl,rfl,rfl,Vy.symm⟩
 .cases h;exact .inl ⟨rfl,rfl,rfl,WT.symm⟩
 .split at h
  .rename_i q;cases h;rw[jP,jP,jP] at q;exact .inr ⟨q.1.1,q.1.2,q.2.1,q.2.2,rfl⟩
  .cases h
theorem nZ{K:aZ}:jD K afN jl:=by
 intro Z Θ ao C σ H x y dx dy res S bx fV e Q q;unfold jl at e;cases h:yO dx dy with
 |none=>rw[h] at e;cases e
 |some b=>
  rw[h] at e;cases e;have fin:=q (.bl b) H (bD.refl _ _) (jV S rfl rfl);rcases abY h with⟨f1,f2,sc,eb⟩|⟨n1,n2,s1,s2,eb⟩
  .rw[bx.flat f1,fV.flat f2];rw[eb] at fin;exact .inl ⟨sc,fin⟩
  .rw[eb] at fin;exact .inr ⟨dx,dy,bx.rx n1,fV.rx n2,s1,s2,fin⟩
theorem Cz{K:aZ}:jD K afO oh:=by
 intro Z Θ ao C σ H x y dx dy res S bx fV e Q q;unfold oh at e;cases h:yO dx dy with
 |none=>rw[h] at e;cases e
 |some b=>
  rw[h] at e;cases e;have fin:=q (.bl (!b)) H (bD.refl _ _) (jV S rfl rfl);rcases abY h with⟨f1,f2,sc,eb⟩|⟨n1,n2,s1,s2,eb⟩
  .rw[bx.flat f1,fV.flat f2];rw[eb] at fin;exact .inl ⟨sc,fin⟩
  .rw[eb] at fin;exact .inr ⟨dx,dy,bx.rx n1,fV.rx n2,s1,s2,fin⟩
def strLt(x y:Str):Bool:=decide (x.cps.toList<y.cps.toList)
def afh(xs ys:List aD):Option Bool:=match keysOf xs,keysOf ys with
 |some ks,some js=>if ks.map cA=js.map cA then aa (dO ks js) else aj
 |_,_=>aj
def uY:aD->aD->oVl
 |.int i,.int j=>aa (.im (.bool (decide (i<j))))
 |.str x,.str y=>aa (.im (.bool (strLt x y)))
 |.tuple xs,.tuple ys=>(afh xs ys).map λb=>.im (.bool b)
 |_,_=>aj
theorem zg:∀{ds:List aD}{ks:List Key}{vs:List V},keysOf ds=aa ks->cu E ds vs->vs=ks.map kV
 |[],ks,vs,h,r=>by cases h;exact r
 |d::ds,ks,vs,h,r=>by
  unfold keysOf at h;split at h
  .rename_i k t h1 h2;cases h
   obtain⟨u,w,e1,q,s⟩:=r
   rw[e1,zg h2 s];have:u=kV k:=by
    cases d<;>first|(cases h1;exact q)|cases h1
   rw[this];rfl
  .cases h
def aqT:R2:=λx y H Q=>(∃a b,x=kV a/\y=kV b/\cA a=cA b/\Q (.bl (kLt a b)) H)\/∃a b ks js,x=.ref a/\y=.ref b/\H a=aa (.tup (ks.map kV))/\H b=aa (.tup (js.map kV))/\ks.map cA=js.map cA/\Q (.bl (dO ks js)) H
theorem Fq{K:aZ}:jD K aqT uY:=by
 intro Z Θ ao C σ H x y dx dy res S bx fV e Q q;unfold uY at e;split at e
 .cases e;cases bx.int;cases fV.int;exact .inl ⟨.inl _,.inl _,rfl,rfl,rfl,q _ _ (bD.refl _ _) (jV S rfl rfl)⟩
 .cases e;cases bx.str;cases fV.str;exact .inl ⟨.inr _,.inr _,rfl,rfl,rfl,q _ _ (bD.refl _ _) (jV S rfl rfl)⟩
 .rename_i xs ys;unfold afh at e;split at e
  .rename_i ks js h1 h2;split at e
   .rename_i ht;cases e
    obtain⟨a,vs,rfl,ha,r1⟩:=bx.tup
    obtain⟨b,ws,rfl,hb,r2⟩:=fV.tup
    rw[zg h1 r1] at ha;rw[zg h2 r2] at hb;exact .inr ⟨a,b,ks,js,rfl,rfl,ha,hb,ht,q _ _ (bD.refl _ _) (jV S rfl rfl)⟩
   .cases e
  .cases e
 .cases e
def lV:aD->aD->oVl
 |.int i,.int j=>aa (.im (.bool (decide (i<=j))))
 |.str x,.str y=>aa (.im (.bool (!strLt y x)))
 |_,_=>aj
def afP:R2:=λx y H Q=>(sE λi j=>.bl (decide (i<=j))) x y H Q\/∃i j,x=.str i/\y=.str j/\Q (.bl (!(decide (j.cps.toList<i.cps.toList)))) H
theorem uG:dU X (iG .LtE) afP:=apC.or akb
theorem uP{K:aZ}:jD K afP lV:=by
 intro Z Θ ao C σ H x y dx dy res S bx fV e Q q;unfold lV at e;split at e
 .cases e;cases bx.int;cases fV.int;exact .inl ⟨_,_,rfl,rfl,q _ _ (bD.refl _ _) (jV S rfl rfl)⟩
 .cases e;cases bx.str;cases fV.str;exact .inr ⟨_,_,rfl,rfl,q _ _ (bD.refl _ _) (jV S rfl rfl)⟩
 .cases e
def Qg:aD->aD->oVl
 |.int i,.int j=>aa (.im (.bool (decide (j<i))))
 |_,_=>aj
def Qh:aD->aD->oVl
 |.int i,.int j=>aa (.im (.bool (decide (j<=i))))
 |_,_=>aj
theorem apR{K:aZ}:jD K (sE λi j=>.bl (decide (j<i))) Qg:=VP λdx dy res e=>by
 unfold Qg at e;split at e<;>cases e
 exact⟨_,_,_,rfl,rfl,rfl,rfl,rfl⟩
theorem apS{K:aZ}:jD K (sE λi j=>.bl (decide (j<=i))) Qh:=VP λdx dy res e=>by
 unfold Qh at e;split at e<;>cases e
 exact⟨_,_,_,rfl,rfl,rfl,rfl,rfl⟩
def isNone:aD->Bool
 |.none=>aq
 |_=>aM
def Pu(d e:aD):oVl:=if isNone e then aa (.im (.bool (isNone d))) else aj
def Ov(d e:aD):oVl:=if isNone e then aa (.im (.bool (!isNone d))) else aj
theorem Mw(h:gK Z Θ ao σ H d x):decide (x=V.non)=isNone d:=by
 cases d<;>first
  |(cases(show x=_ from h);rfl)
  |(obtain⟨a,vs,e,_⟩:=h;subst e;rfl)
theorem aoK{K:aZ}:jD K (λx y H Q=>y=.non/\Q (.bl (decide (x=.non))) H) Pu:=by
 intro Z Θ ao C σ H x y dx dy res S bx fV e Q q;unfold Pu at e;split at e
 .rename_i hn;cases e;have hy:y=.non:=of_decide_eq_true ((Mw fV).trans hn)
  exact⟨hy,by rw[Mw bx];exact q _ _ (bD.refl _ _) (jV S rfl rfl)⟩
 .cases e
theorem am1{K:aZ}:jD K (λx y H Q=>y=.non/\Q (.bl (!decide (x=.non))) H) Ov:=by
 intro Z Θ ao C σ H x y dx dy res S bx fV e Q q;unfold Ov at e;split at e
 .rename_i hn;cases e;have hy:y=.non:=of_decide_eq_true ((Mw fV).trans hn)
  exact⟨hy,by rw[Mw bx];exact q _ _ (bD.refl _ _) (jV S rfl rfl)⟩
 .cases e
end
section
variable{X:Cx}{σ:St}{H:Hp}
theorem Inv.Qx(I:Inv X au σ H s)(h:H a=aa (.dK [] yP)):Inv X au σ (upd H a (.dT [] yP)) s:=by
 obtain⟨z,hm,vs,r,o,es,h1,h2,h3,h4,h5,h6⟩:=I.hok a _ h
 cases r;have e0:es.toList=[]:=by
  cases hh:es.toList with
  |nil=>rfl
  |cons x xs=>rw[hh] at h5;cases h5
 have:=BP (t':=s.toks) (ob:=.dT [] yP) I (by rw[h];trivial) (Z4 a s.heap) ⟨_,h1⟩ ⟨lC _,hm,[],.nil,o,es,h1,h2,h3,e0,lO⟩;exact this
theorem Inv.YT(I:Inv X au σ (upd H a (.dT [] yP)) s)(h:H a=aa (.dK [] yP)):Inv X au σ H s:=by
 obtain⟨z,hm,xs,r,o,es,h1,h2,h3,h4,h5⟩:=I.hok a _ eV
 cases r;have e0:es=#[]:=by
  cases es;simp at h4;rw[h4]
 subst e0;have:=BP (t':=s.toks) (ob:=.dK [] yP) I (by rw[eV];trivial) (Z4 a s.heap) ⟨_,h1⟩ (Oo (lC _) hm .nil ⟨o,#[],h1,h2,h3,λi hi=>absurd hi bI,.nil,lO⟩);rw[adl] at this;have e:upd H a (.dK [] yP)=H:=by
  funext b;by_cases hb:b=a
  .subst hb;rw[eV,h]
  .exact cP hb
 rw[e] at this;exact this
end
def vh(H:Hp)(a:aC)(y:V)(r:Option V):Prop:=n6 H a y r\/((∃ep,H a=aa (.dK [] ep))/\(∃(b:aC)(ks:List Key),y=.ref b/\H b=aa (.tup (ks.map kV)))/\r=aj)
section
variable{X:Cx}{σ:St}{H:Hp}{s:bh}{a:aC}{y v:V}{u r:aN}{A:gV}
theorem vh.re(ha:H a=aa (.dK [] yP)){ks:List Key}(hb:H b=aa (.tup (ks.map kV))):n6 (upd H a (.dT [] yP)) a (.ref b) aj:=by
 have:(upd H a (.dT [] yP)) b=aa (.tup (ks.map kV)):=by rw[cP (Xp hb ha (λz=>nomatch z))];exact hb
 exact n6.t (aA:=[]) (k:=ks) eV this
theorem apT(hu:A.units+1<iM)(I:Inv X au σ H s)(g:vh H a y o)(ry:RelV y u)(h:∀s',Inv X au σ H s'->Q (.bool o.isSome) s'):aW (model X.prog X.w) A (iG .In u (.ref a)) Q E s:=by
 rcases g with g|⟨⟨ep,ha⟩,⟨b,ks,rfl,hb⟩,rfl⟩
 .exact afI hu I g ry h
 .exact afI hu (I.Qx ha) (vh.re ha hb) ry λs' I'=>h s' (I'.YT ha)
theorem alm(hu:A.units+1<iM)(I:Inv X au σ H s)(g:vh H a y o)(ry:RelV y u)(h:∀s',Inv X au σ H s'->Q (.bool (!o.isSome)) s'):aW (model X.prog X.w) A (iG .NotIn u (.ref a)) Q E s:=by
 rcases g with g|⟨⟨ep,ha⟩,⟨b,ks,rfl,hb⟩,rfl⟩
 .exact ady hu I g ry h
 .exact ady hu (I.Qx ha) (vh.re ha hb) ry λs' I'=>h s' (I'.YT ha)
theorem aoL(hu:X.A.units+1<iM):dU X (iG .In) (λy x H Q=>∃a o,x=.ref a/\vh H a y o/\Q (.bl o.isSome) H):=by
 intro au s σ H x y v u Q I rx ry h
 obtain⟨a,o,rfl,g,q⟩:=h
 cases ry;exact apT hu I g rx λs' I'=>⟨.bl _,H,I',rfl,q⟩
theorem akm(hu:X.A.units+1<iM):dU X (iG .NotIn) (λy x H Q=>∃a o,x=.ref a/\vh H a y o/\Q (.bl (!o.isSome)) H):=by
 intro au s σ H x y v u Q I rx ry h
 obtain⟨a,o,rfl,g,q⟩:=h
 cases ry;exact alm hu I g rx λs' I'=>⟨.bl _,H,I',rfl,q⟩
theorem am2(hu:X.A.units+1<iM):t7 X (λx y H Q=>∃a v,x=.ref a/\n6 H a y (aa v)/\Q v H):=by
 intro value slice au s σ H x y v u Q I rx ry h hs
 obtain⟨a,z,rfl,g,q⟩:=h
 cases rx;have hT:=ai4 I g;have h2:aW (model X.prog X.w) X.A (zB (.ref a) u) (EP X au σ Q) X.xe s:=aj4 hu I g ry λw' s' I' r'=>⟨z,H,I',r',q⟩
 unfold subscriptTail;refine aF ?_;rw[getitemInPython_of_ne hT.not_modules];refine aF (wpAny_specialOf hT PySem.F.slot_dict_getitem.lookup ?_);have fin:aW (model X.prog X.w) X.A (aa6 slice aM (.ref a) u) (λr s₃=>aW (model X.prog X.w) X.A (letTemporaryGo value (.ref a) r >>= λ_=>pure r) (EP X au σ Q) X.xe s₃) X.xe s:=by
  rw[hs];exact wpAny_operating (sO h2 (λr s₃ h₃=>aF (wpAny_letTemporaryGo (bA h₃))) λ_ _ x=>x)
 first
  |exact bA (aF fin)
  |exact aF (bA (aF fin))
  |exact aF fin
end
def qi{κ:Type}[DecidableEq κ](f:aD->Option κ)(k:κ):List (aD×aD)->Option aD
 |[]=>aj
 |p::r=>if f p.1=aa k then aa p.2 else qi f k r
def rQ(aA:List (aD×aD))(d:aD):Option (Option aD):=match fW d with
 |some k=>if(dh fW aA).isSome then aa (qi fW k aA) else aj
 |none=>match jC d with
  |some ks=>if(dh jC aA).isSome then aa (qi jC ks aA) else aj
  |none=>aj
theorem UG[DecidableEq κ]:∀{aA:List (aD×aD)}{ks:List κ}{vs:List V},dh f aA=aa ks->gA E aA vs->
  (∃d v,qi f k aA=aa d/\oW (ks.zip vs) k=aa v/\RZ E d v)\/(qi f k aA=aj/\oW (ks.zip vs) k=aj)
 |[],ks,vs,h,r=>by
  cases h
  cases(show vs=[] from r)
  exact .inr ⟨rfl,rfl⟩
 |(p,d)::aA,ks,vs,h,r=>by
  unfold dh at h;split at h
  .rename_i k' t h1 h2;cases h
   obtain⟨v,w,rfl,q,s⟩:=r
   by_cases e:k'=k
   .subst e;refine .inl ⟨d,v,?_,?_,q⟩
    .unfold qi;rw[bG h1]
    .exact Hu (p:=(k',v)) rfl
   .have e1:qi f k ((p,d)::aA)=qi f k aA:=by
     show(if f p=aa k then aa d else qi f k aA)=_
     rw[bH];intro z;rw[h1] at z;exact e (jy z)
    have e2:oW ((k'::t).zip (v::w)) k=oW (t.zip w) k:=Hv (p:=(k',v)) e;rw[e1,e2];exact UG h2 s
  .cases h
theorem uz:∀{aA:List (aD×aD)}{ks:List κ},dh f aA=aa ks->ks.length=aA.length
 |[],ks,h=>by cases h;rfl
 |p::aA,ks,h=>by
  unfold dh at h;split at h
  .rename_i k' t h1 h2;cases h;rw[dW,dW,uz h2]
  .cases h
theorem aoM(h:fW d=aa k)(r:RZ E d v):v=kV k:=by
 cases d<;>first|(cases h;exact r)|cases h
theorem aoN(h:fW d=aa k)(g:jC d=aa ks):False:=by
 cases d<;>first|(cases h;done)|(cases g;done)
theorem vV(h:dh fW aA=aa ks)(g:dh jC aA=aa js):aA=[]:=by
 cases aA with
 |nil=>rfl
 |cons p r=>
  unfold dh at h g;split at h
  .rename_i h1 h2;split at g
   .rename_i h3 h4
    exact(aoN h1 h3).elim
   .cases g
  .cases h
theorem gK.get(h:gK Z Θ ao σ H (.dict aA) x)(hy:gK Z Θ ao σ H d y)(e:rQ aA d=aa o):
  ∃a r,x=.ref a/\vh H a y r/\((∃v,r=aa v/\∃d',o=aa d'/\RZ (er (bB Z Θ ao σ) H) d' v/\n6 H a y (aa v))\/(r=aj/\o=aj)):=by
 obtain⟨a,vs,rfl,dt,rd⟩:=h.dct
 unfold rQ at e;split at e
 .rename_i k hk;split at e
  .rename_i hs;cases e;have yk:y=kV k:=by
    cases d<;>first|(cases hk;exact hy)|cases hk
   have dk:∃ks,dh fW aA=aa ks/\∃ep,H a=aa (.dK (ks.zip vs) ep):=by
    rcases dt with h|⟨ks,⟨ne,h2⟩,_⟩
    .exact h
    .obtain⟨ks',h1⟩:=xg.mp hs
     exact absurd (vV h1 h2) ne
   obtain⟨ks,h1,ep,ha⟩:=dk
   have g:=n6.k (k:=k) ha;rw[<-yk] at g;rcases UG (k:=k) h1 rd with⟨d',v,e1,e2,r⟩|⟨e1,e2⟩
   .rw[e2] at g
    exact⟨a,aa v,rfl,.inl g,.inl ⟨v,rfl,d',e1,r,g⟩⟩
   .rw[e2] at g
    exact⟨a,aj,rfl,.inl g,.inr ⟨rfl,e1⟩⟩
  .cases e
 .split at e
  .rename_i ks hks;split at e
   .rename_i hs;cases e
    obtain⟨b,hb,rfl⟩:∃b,H b=aa (.tup (ks.map kV))/\y=.ref b:=by
     cases d<;>first|cases hks|skip
     obtain⟨b,ws,rfl,hb,r⟩:=hy.tup
     rw[zg hks r] at hb
     exact⟨b,hb,rfl⟩
    rcases dt with⟨js,h1,ha⟩|⟨js,⟨ne,h1⟩,ep,ha⟩
    .obtain⟨js',h2⟩:=xg.mp hs
     have:=vV h1 h2;subst this;cases h1
     exact⟨a,aj,rfl,.inr ⟨ha,⟨b,ks,rfl,hb⟩,rfl⟩,.inr ⟨rfl,rfl⟩⟩
    .have g:=n6.t (k:=ks) ha hb;rcases UG (k:=ks) h1 rd with⟨d',v,e1,e2,r⟩|⟨e1,e2⟩
     .rw[e2] at g
      exact⟨a,aa v,rfl,.inl g,.inl ⟨v,rfl,d',e1,r,g⟩⟩
     .rw[e2] at g
      exact⟨a,aj,rfl,.inl g,.inr ⟨rfl,e1⟩⟩
   .cases e
  .cases e
noncomputable def inD (d:aD) (ds:List aD):Bool:=ds.any λe=>u6 (toV e) (toV d)
def inB(d:aD):aD->Option Bool
 |.list ds=>if lU d&&ds.all lU then aa (inD d ds) else aj
 |.tuple ds=>if lU d&&ds.all lU then aa (inD d ds) else aj
 |.dict aA=>(rQ aA d).map (·.isSome)
 |_=>aj
def lW(d e:aD):oVl:=(inB d e).map λb=>.im (.bool b)
def tG(d e:aD):oVl:=(inB d e).map λb=>.im (.bool (!b))
def afQ(K:aZ):R2:=λx y H Q=>Qu K aM x y H Q\/∃a o,y=.ref a/\vh H a x o/\Q (.bl o.isSome) H
def adP(K:aZ):R2:=λx y H Q=>Qu K aq x y H Q\/∃a o,y=.ref a/\vh H a x o/\Q (.bl (!o.isSome)) H
theorem wB(hu:X.A.units+1<iM):dU X (iG .In) (afQ X.K):=aj3.or (aoL hu)
theorem Hq(hu:X.A.units+1<iM):dU X (iG .NotIn) (adP X.K):=aiO.or (akm hu)
theorem TJ(f:lU d=aq):rO (toV d)=aq:=by
 cases d<;>first|rfl|cases f
theorem afi:inV (toV d) (ds.map toV)=inD d ds:=by
 unfold inV inD;rw[aaX];rfl
theorem adQ{ds:List aD}(f:ds.all lU=aq):(ds.map toV).all rO=aq:=by
 rw[List.all_map,nR];intro d hd;exact TJ (nR.mp f d hd)
theorem acI{K:aZ}{ao:En}{σ:St}{H:Hp}{x y:V}{b:Bool}(bx:gK Z Θ ao σ H dx x)(fV:gK Z Θ ao σ H dy y)(e:inB dx dy=aa b):
  (∃p xs,y=.ref p/\(cj K H p xs\/cU K H p xs)/\rO x=aq/\xs.all rO=aq/\inV x xs=b)\/∃a o,y=.ref a/\vh H a x o/\o.isSome=b:=by
 unfold inB at e;split at e
 .split at e
  .rename_i ds hf;rw[jP] at hf;cases e
   obtain⟨a,vs,rfl,ha,r⟩:=fV.lst
   rw[Uy hf.2 r] at ha;rw[bx.flat hf.1];exact .inl ⟨a,_,rfl,.inl (cj.of ha),TJ hf.1,adQ hf.2,afi⟩
  .cases e
 .split at e
  .rename_i ds hf;rw[jP] at hf;cases e
   obtain⟨a,vs,rfl,ha,r⟩:=fV.tup
   rw[Uy hf.2 r] at ha;rw[bx.flat hf.1];exact .inl ⟨a,_,rfl,.inr (cU.of ha),TJ hf.1,adQ hf.2,afi⟩
  .cases e
 .rename_i aA;cases hl:rQ aA dx with
  |none=>rw[hl] at e;cases e
  |some o=>
   rw[hl] at e;cases e
   obtain⟨a,r,rfl,g,q⟩:=fV.get bx hl
   refine .inr ⟨a,r,rfl,g,?_⟩;rcases q with⟨v,rfl,d',rfl,_⟩|⟨rfl,rfl⟩<;>rfl
 .cases e
theorem wI{K:aZ}:jD K (afQ K) lW:=by
 intro Z Θ ao C σ H x y dx dy res S bx fV e Q q;unfold lW at e;cases h:inB dx dy with
 |none=>rw[h] at e;cases e
 |some b=>
  rw[h] at e;cases e;have fin:=q (.bl b) H (bD.refl _ _) (jV S rfl rfl);rcases acI (K:=K) bx fV h with⟨p,xs,e1,e2,e3,e4,e5⟩|⟨a,o,e1,e2,e3⟩
  .rw[<-e5] at fin;exact .inl ⟨p,xs,e1,e2,e3,e4,fin⟩
  .rw[<-e3] at fin;exact .inr ⟨a,o,e1,e2,fin⟩
theorem Hz{K:aZ}:jD K (adP K) tG:=by
 intro Z Θ ao C σ H x y dx dy res S bx fV e Q q;unfold tG at e;cases h:inB dx dy with
 |none=>rw[h] at e;cases e
 |some b=>
  rw[h] at e;cases e;have fin:=q (.bl (!b)) H (bD.refl _ _) (jV S rfl rfl);rcases acI (K:=K) bx fV h with⟨p,xs,e1,e2,e3,e4,e5⟩|⟨a,o,e1,e2,e3⟩
  .rw[<-e5] at fin;exact .inl ⟨p,xs,e1,e2,e3,e4,fin⟩
  .rw[<-e3] at fin;exact .inr ⟨a,o,e1,e2,fin⟩
def qX:aD->aD->Option aD
 |.list ds,.int i=>fL ds i
 |.tuple ds,.int i=>fL ds i
 |.str z,.int i=>if z.length<=gB then(fL z.cps.toList i).map λc=>.str ⟨#[c]⟩ else aj
 |.dict aA,d=>match rQ aA d with
  |some (some e)=>aa e
  |_=>aj
 |_,_=>aj
def bf(d e:aD):oVl:=(qX d e).map .im
def afR(K:aZ):R2:=λx y H Q=>rIx K x y H Q\/∃a v,x=.ref a/\n6 H a y (aa v)/\Q v H
theorem j8(hu:X.A.units+1<iM):t7 X (afR X.K):=aou.or (am2 hu)
theorem adR(r:cu E ds vs)(e:fL ds i=aa d):∃v,fL vs i=aa v/\RZ E d v:=by
 unfold fL at e⊢;rw[jG r];cases h:pN ds.length i with
 |none=>rw[h] at e;cases e
 |some j=>
  rw[h] at e;exact wu r e
theorem lG{K:aZ}:jD K (afR K) bf:=by
 intro Z Θ ao C σ H x y dx dy res S bx fV e Q q;unfold bf at e;cases h:qX dx dy with
 |none=>rw[h] at e;cases e
 |some d=>
  rw[h] at e;cases e;unfold qX at h;split at h
  .obtain⟨a,vs,rfl,ha,r⟩:=bx.lst
   cases fV.int
   obtain⟨v,e1,r1⟩:=adR r h
   exact .inl (.inl ⟨a,vs,_,v,rfl,rfl,cj.of ha,e1,q _ _ (bD.refl _ _) ⟨S,r1⟩⟩)
  .obtain⟨a,vs,rfl,ha,r⟩:=bx.tup
   cases fV.int
   obtain⟨v,e1,r1⟩:=adR r h
   exact .inl (.inr (.inl ⟨a,vs,_,v,rfl,rfl,cU.of ha,e1,q _ _ (bD.refl _ _) ⟨S,r1⟩⟩))
  .split at h
   .rename_i z i hz;cases bx.str;cases fV.int;cases hc:fL z.cps.toList i with
    |none=>rw[hc] at h;cases h
    |some c=>
     rw[hc] at h;cases h;exact .inl (.inr (.inr ⟨z,i,c,rfl,rfl,vU hz,hc,q _ _ (bD.refl _ _) (jV S rfl rfl)⟩))
   .cases h
  .split at h
   .rename_i aA e' hl;cases h
    obtain⟨a,r,rfl,g,hq⟩:=bx.get fV hl
    rcases hq with⟨v,rfl,d',e1,r1,g1⟩|⟨_,e1⟩
    .cases e1;exact .inr ⟨a,v,rfl,g1,q _ _ (bD.refl _ _) ⟨S,r1⟩⟩
    .cases e1
   .cases h
  .cases h
def Jx:aD->Option Bool
 |.none=>aa aM
 |.bool b=>aa b
 |.int i=>aa (i != 0)
 |.str x=>if x.length<=gB then aa ((x.length:Int) != 0) else aj
 |.list ds=>aa (!ds.isEmpty)
 |.tuple ds=>aa (!ds.isEmpty)
 |.dict aA=>if(dh fW aA).isSome then aa (!aA.isEmpty) else aj
def qP(f:FB):FT:=λao C=>match f ao C with
 |some (d,_,C')=>match Jx d with
  |some b=>aa (b,C')
  |none=>aj
 |none=>aj
def dB(f:FE):FT:=λao C=>match f ao C with
 |some (.im (.bool b),_,C')=>aa (b,C')
 |_=>aj
def yj(f:FT):FT:=λao C=>match f ao C with
 |some (b,C')=>aa (!b,C')
 |none=>aj
def lH(f g:FT):FT:=λao C=>match f ao C with
 |some (true,C')=>g ao C'
 |some (false,C')=>aa (aM,C')
 |none=>aj
def wQ(f g:FT):FT:=λao C=>match f ao C with
 |some (true,C')=>aa (aq,C')
 |some (false,C')=>g ao C'
 |none=>aj
theorem aoO{K:aZ}{ao:En}{σ:St}{H:Hp}{x:V}{b:Bool}(h:gK Z Θ ao σ H d x)(e:Jx d=aa b):Yc K x H b:=by
 cases d with
 |none=>cases e;cases(show x=_ from h);rfl
 |bool c=>cases e;cases(show x=_ from h);rfl
 |int i=>cases e;cases(show x=_ from h);rfl
 |str z=>
  simp only[Jx] at e;split at e
  .rename_i hz;cases e;cases(show x=_ from h);exact⟨vU hz,rfl⟩
  .cases e
 |list ds=>
  cases e
  obtain⟨a,vs,rfl,ha,r⟩:=h.lst
  refine .inl ⟨vs,cj.of ha,?_⟩;have:=jG r;cases ds<;>cases vs<;>first|rfl|cases this
 |tuple ds=>
  cases e
  obtain⟨a,vs,rfl,ha,r⟩:=h.tup
  refine .inr (.inl ⟨vs,cU.of ha,?_⟩);have:=jG r;cases ds<;>cases vs<;>first|rfl|cases this
 |dict aA=>
  simp only[Jx] at e;split at e
  .rename_i hs;cases e
   obtain⟨a,vs,rfl,da,r⟩:=h.dct
   rcases da with⟨ks,h1,ep,ha⟩|⟨ks,⟨ne,h2⟩,ha⟩
   .refine .inr (.inr ⟨_,ep,ha,?_⟩);have l1:=uz h1;have l2:=Es r;cases aA<;>cases ks<;>cases vs<;>first|rfl|cases l1|cases l2
   .obtain⟨ks',h1⟩:=xg.mp hs
    exact absurd (vV h1 h2) ne
  .cases e
section
variable{a b:Expr}
theorem uH(h:PE X a (eX X.K f))(he:∀whole,isTrue a X.env whole=(do let v <-whole;tD a.pos;nA [v] (truthy v)):=by intro _;rfl):PT X a (gM X.K (qP f)):=
 (akZ h he).weak λσ H Q aY=>by
  obtain⟨Z,Θ,ao,C,b,C',S,hf,q⟩:=aY
  unfold qP at hf;split at hf
  .rename_i d e1 C1 h1;split at hf
   .rename_i b' hb;cases hf
    exact⟨Z,Θ,ao,C,d,e1,C',S,h1,λv H' k f S' bo=>⟨b,aoO bo hb,q H' k (S.go k S'.cell)⟩⟩
   .cases hf
  .cases hf
theorem acJ{K:aZ}(w:∀σ H Q,tE K f σ H Q->t σ H Q):∀σ H Q,gM K (dB f) σ H Q->Xr t σ H Q:=by
 rintro σ H Q ⟨Z,Θ,ao,C,b,C',S,hf,q⟩;unfold dB at hf;split at hf
 .rename_i b' e1 C1 h1;cases hf;refine w _ _ _ ⟨Z,Θ,ao,C,.im (.bool b),e1,C',S,h1,λv H' k f R=>?_⟩
  obtain⟨S',r⟩:=R
  exact⟨b,r,q H' k (S.go k S'.cell)⟩
 .cases hf
theorem gq(ho:dU X (iG o) r)(L:jD X.K r op)(ha:PE X a (eX X.K fa))(hb:PE X b (eX X.K fb))(hm:G4 o b=aM):
  PT X (.Compare a [o] [b] pos) (gM X.K (dB (aJ op fa fb))):=(amx ho ha hb hm).weak (acJ (Mv L))
theorem IW(h:PT X a (gM X.K f)):PT X (.UnaryOp .Not a pos) (gM X.K (yj f)):=(aob h).weak λσ H Q aY=>by
 obtain⟨Z,Θ,ao,C,b,C',S,hf,q⟩:=aY
 unfold yj at hf;split at hf
 .rename_i b' C1 h1;cases hf
  exact⟨Z,Θ,ao,C,b',C',S,h1,q⟩
 .cases hf
theorem aln{K:aZ}:∀σ H Q,gM K (lH f g) σ H Q->afw (gM K f) (gM K g) σ H Q:=by
 rintro σ H Q ⟨Z,Θ,ao,C,b,C',S,hf,q⟩;unfold lH at hf;split at hf
 .rename_i C1 h1
  exact⟨Z,Θ,ao,C,aq,C1,S,h1,λH1 k1 S1=>Aa ⟨Z,Θ,ao,C1,b,C',S1,hf,λH2 k2 S2=>q H2 (k1.trans k2) S2⟩⟩
 .rename_i C1 h1;cases hf
  exact⟨Z,Θ,ao,C,aM,C',S,h1,λH1 k1 S1=>z9 (q H1 k1 S1)⟩
 .cases hf
theorem am3{K:aZ}:∀σ H Q,gM K (wQ f g) σ H Q->tOr (gM K f) (gM K g) σ H Q:=by
 rintro σ H Q ⟨Z,Θ,ao,C,b,C',S,hf,q⟩;unfold wQ at hf;split at hf
 .rename_i C1 h1;cases hf
  exact⟨Z,Θ,ao,C,aq,C',S,h1,λH1 k1 S1=>Aa (q H1 k1 S1)⟩
 .rename_i C1 h1
  exact⟨Z,Θ,ao,C,aM,C1,S,h1,λH1 k1 S1=>z9 ⟨Z,Θ,ao,C1,b,C',S1,hf,λH2 k2 S2=>q H2 (k1.trans k2) S2⟩⟩
 .cases hf
variable{rest:List Expr}
theorem xV(h:PT X a (gM X.K f)):PW X (.BoolOp .And [a] pos) (gM X.K f):=pw_and1 h
theorem I9(h:PT X a (gM X.K f)):PW X (.BoolOp .Or [a] pos) (gM X.K f):=pw_or1 h
theorem oN(h:PT X a (gM X.K f))(hb:PW X (.BoolOp .And (b::rest) pos) (gM X.K g)):PW X (.BoolOp .And (a::b::rest) pos) (gM X.K (lH f g)):=(pw_and h hb).weak aln
theorem Jk(h:PT X a (gM X.K f))(hb:PW X (.BoolOp .Or (b::rest) pos) (gM X.K g)):PW X (.BoolOp .Or (a::b::rest) pos) (gM X.K (wQ f g)):=(pw_or h hb).weak am3
end
def yD(op op':aD->aD->oVl)(fa fb fc:FB):FE:=λao C=>match fa ao C with
 |some (x,e1,C1)=>match fb e1 C1 with
  |some (y,e2,C2)=>match op x y with
   |some (.im (.bool true))=>match fc e2 C2 with
    |some (z,e3,C3)=>match op' y z with
     |some (.im (.bool b))=>aa (.im (.bool b),ao,C3)
     |_=>aj
    |none=>aj
   |some (.im (.bool false))=>aa (.im (.bool aM),ao,C2)
   |_=>aj
  |none=>aj
 |none=>aj
theorem alo{K:aZ}{r r':R2}(L:jD K r op)(L':jD K r' op'):∀σ H Q,tE K (yD op op' fa fb fc) σ H Q->aeA r r' (eX K fa) (eX K fb) (eX K fc) σ H Q:=by
 rintro σ H Q ⟨Z,Θ,ao,C,res,aV,C',S,hf,q⟩;unfold yD at hf;split at hf
 .rename_i x e1 C1 h1;split at hf
  .rename_i y e2 C2 h2
   refine⟨Z,Θ,ao,C,x,e1,C1,S,h1,λv H1 k1 f1 S1 b1=>⟨Z,Θ,e1,C1,y,e2,C2,S1,h2,λu H2 k2 f2 S2 b2=>?_⟩⟩
   split at hf
   .rename_i h3;split at hf
    .rename_i z e3 C3 h4;split at hf
     .rename_i b h5;cases hf;refine L Z Θ e2 C2 σ H2 v u x y _ S2 (b1.go S1 k2 f2) b2 h3 _ λw H3 k3 R=>⟨aq,R.2,Aa ⟨Z,Θ,e2,C2,z,e3,C',R.1,h4,λw2 H4 k4 f4 S4 b4=>?_⟩⟩
      refine L' Z Θ e3 C' σ H4 u w2 y z _ S4 ((b2.go S2 k3 (Fz.refl _)).go R.1 k4 f4) b4 h5 Q λw3 H5 k5 R5=>?_
      have k:=(((k1.trans k2).trans k3).trans k4).trans k5;exact q w3 H5 k (Fz.refl _) ⟨S.go k R5.1.cell,R5.2⟩
     .cases hf
    .cases hf
   .rename_i h3;cases hf;refine L Z Θ e2 C' σ H2 v u x y _ S2 (b1.go S1 k2 f2) b2 h3 _ λw H3 k3 R=>⟨aM,R.2,z9 ?_⟩
    have k:=(k1.trans k2).trans k3;exact q _ H3 k (Fz.refl _) ⟨S.go k R.1.cell,rfl⟩
   .cases hf
  .cases hf
 .cases hf
theorem Ow(ho:dU X (iG o) r)(L:jD X.K r op)(ho':dU X (iG o') r')(L':jD X.K r' op')(ha:PE X a (eX X.K fa))(hb:PE X b (eX X.K fb))(hc:PE X c (eX X.K fc))
  (hm:lastMarks [o,o'] [b,c]=aM:=by with_unfolding_all rfl):PT X (.Compare a [o,o'] [b,c] pos) (gM X.K (dB (yD op op' fa fb fc))):=(akY ho ho' ha hb hc hm).weak (acJ (alo L L'))
def uQ(f g:FE):FE:=λao C=>match f ao C with
 |some (.im (.bool true),_,C')=>g ao C'
 |some (.im (.bool false),_,C')=>aa (.im (.bool aM),ao,C')
 |_=>aj
def Px(f:FE):FE:=λao C=>match f ao C with
 |some (.im (.bool b),_,C')=>aa (.im (.bool (!b)),ao,C')
 |_=>aj
def yE(c:FT)(f g:FE):FE:=λao C=>match c ao C with
 |some (true,C')=>f ao C'
 |some (false,C')=>g ao C'
 |none=>aj
def Jy(f:FB):FE:=λao C=>match f ao C with
 |some (.int i,_,C')=>aa (.im (.int (-i)),ao,C')
 |_=>aj
section
variable{X:Cx}{rest:List Expr}
theorem Ja{o}(h:PE X a (tE X.K f)):PE X (.BoolOp o [a] pos) (tE X.K f):=aoc h
theorem Fb(ha:PE X a (tE X.K f))(hb:PE X (.BoolOp .And (b::rest) pos) (tE X.K g)):PE X (.BoolOp .And (a::b::rest) pos) (tE X.K (uQ f g)):=(aod ha hb).weak λσ H Q aY=>by
 obtain⟨Z,Θ,ao,C,r,aV,C',S,hf,q⟩:=aY
 unfold uQ at hf;split at hf
 .rename_i e1 C1 h1
  refine⟨Z,Θ,ao,C,_,e1,C1,S,h1,λv H1 k1 f1 R1=>⟨aq,R1.2,Aa ⟨Z,Θ,ao,C1,r,aV,C',S.go k1 R1.1.cell,hf,λw H2 k2 f2 R2=>q w H2 (k1.trans k2) f2 (R2.from k1)⟩⟩⟩
 .rename_i e1 C1 h1;cases hf
  exact⟨Z,Θ,ao,C,_,e1,C',S,h1,λv H1 k1 f1 R1=>⟨aM,R1.2,z9 (q _ H1 k1 (Fz.refl _) ⟨S.go k1 R1.1.cell,rfl⟩)⟩⟩
 .cases hf
theorem aoP(ha:PE X a (tE X.K f)):PE X (.UnaryOp .Not a pos) (tE X.K (Px f)):=(aoe ha).weak λσ H Q aY=>by
 obtain⟨Z,Θ,ao,C,r,aV,C',S,hf,q⟩:=aY
 unfold Px at hf;split at hf
 .rename_i b e1 C1 h1;cases hf
  exact⟨Z,Θ,ao,C,_,e1,C',S,h1,λv H1 k1 f1 R1=>⟨b,R1.2,q _ H1 k1 (Fz.refl _) ⟨S.go k1 R1.1.cell,rfl⟩⟩⟩
 .cases hf
theorem XC(hc:PT X c (gM X.K t))(ha:PE X a (tE X.K f))(hb:PE X b (tE X.K g)):PE X (.IfExp c a b pos) (tE X.K (yE t f g)):=(akV hc ha hb).weak λσ H Q aY=>by
 obtain⟨Z,Θ,ao,C,r,aV,C',S,hf,q⟩:=aY
 unfold yE at hf;split at hf
 .rename_i C1 h1
  exact⟨Z,Θ,ao,C,aq,C1,S,h1,λH1 k1 S1=>Aa ⟨Z,Θ,ao,C1,r,aV,C',S1,hf,λw H2 k2 f2 R2=>q w H2 (k1.trans k2) f2 (R2.from k1)⟩⟩
 .rename_i C1 h1
  exact⟨Z,Θ,ao,C,aM,C1,S,h1,λH1 k1 S1=>z9 ⟨Z,Θ,ao,C1,r,aV,C',S1,hf,λw H2 k2 f2 R2=>q w H2 (k1.trans k2) f2 (R2.from k1)⟩⟩
 .cases hf
theorem aeQ(ha:PE X a (eX X.K f)):PE X (.UnaryOp .USub a pos) (tE X.K (Jy f)):=(apz aok ha).weak λσ H Q aY=>by
 obtain⟨Z,Θ,ao,C,r,aV,C',S,hf,q⟩:=aY
 unfold Jy at hf;split at hf
 .rename_i i e1 C1 h1;cases hf
  exact⟨Z,Θ,ao,C,_,e1,C',S,h1,λv H1 k1 f1 S1 b1=>⟨i,b1,q _ H1 k1 (Fz.refl _) ⟨S.go k1 S1.cell,rfl⟩⟩⟩
 .cases hf
end
def ym(K:aZ)(E:Hp)(Θ:List aC):Vl->V->Prop
 |.im d,v=>RZ E d v
 |.ow _,_=>False
 |.ce n,v=>∃a,v=.ref a/\Θ[n]?=aa a
 |.sc ns,v=>∃a,v=.ref a/\cj K E a (ns.map V.int)
 |.ks ns,v=>∃a,v=.ref a/\cU K E a (ns.map toV)
 |.tp _ _ _,_=>False
inductive ye(K:aZ)(E:Hp)(Θ:List aC):List Vl->List V->Prop
 |nil:ye K E Θ [] []
 |cons {x:Vl} {v:V} {xs:List Vl} {vs:List V}:ym K E Θ x v->ye K E Θ xs vs->ye K E Θ (x::xs) (v::vs)
theorem ym.same{K:aZ}(s:cH E E'){x:Vl}{v:V}(h:ym K E Θ x v):ym K E' Θ x v:=by
 cases x with
 |im d=>exact RZ.same s h
 |ow d=>exact h
 |ce n=>exact h
 |sc ns=>obtain⟨a,e,q⟩:=h;exact⟨a,e,s.seq q⟩
 |ks ns=>obtain⟨a,e,q⟩:=h;exact⟨a,e,s.Jv q⟩
 |tp=>exact h
inductive yQ(K:aZ)(f:FA)(σ:St)(H:Hp)(Q:List V->Hp->Prop):Prop
 |mk (Z Θ:List aC) (ao:En) (C:Ce) (xs:List Vl) (aV:En) (C':Ce) (S:Sm K Z Θ ao C σ H) (hf:f ao C=aa (xs,aV,C')) (q:∀vs H',bD Θ H H'->Fz ao aV->Sm K Z Θ aV C' σ H'->ye K (er (bB Z Θ aV σ) H') Θ xs vs->Q vs H'):yQ K f σ H Q
noncomputable def aX:FA:=λao C=>aa ([],ao,C)
def aB(f:FE)(g:FA):FA:=λao C=>match f ao C with
 |some (r,e1,C1)=>match g e1 C1 with
  |some (xs,e2,C2)=>aa (still r::xs,e2,C2)
  |none=>aj
 |none=>aj
noncomputable def cL:Am:=λao C=>aa ([],ao,C)
def cF(f:FB)(g:Am):Am:=λao C=>match f ao C with
 |some (d,e1,C1)=>match g e1 C1 with
  |some (ds,e2,C2)=>aa (d::ds,e2,C2)
  |none=>aj
 |none=>aj
theorem Res.arg{K:aZ}{ao:En}{C:Ce}{σ:St}{r:Vl}{v:V}(h:Res K Z Θ ao C σ H H' r v):Sm K Z Θ ao C σ H'/\ym K (er (bB Z Θ ao σ) H') Θ (L2.still r) v:=by
 have g:=h.still;cases r with
 |im d=>exact g
 |ow d=>exact g
 |ce n=>exact g
 |sc ns=>exact g
 |ks ns=>exact g
 |tp=>exact h.elim
theorem bF:PA X [] (yQ X.K aX):=wg.weak λσ H Q aY=>by
 obtain⟨Z,Θ,ao,C,xs,aV,C',S,hf,q⟩:=aY
 cases hf;exact q [] H (bD.refl _ _) (Fz.refl _) S .nil
theorem aO{f:FE}{g:FA}(h:PE X e (tE X.K f))(hr:PA X es (yQ X.K g))(hs:bR (e::es) X.env=(aM,eval e X.env)::bR es X.env:=by rfl):PA X (e::es) (yQ X.K (aB f g)):=(rG h hr hs).weak λσ H Q aY=>by
 obtain⟨Z,Θ,ao,C,xs,aV,C',S,hf,q⟩:=aY
 unfold aB at hf;split at hf
 .rename_i r e1 C1 h1;split at hf
  .rename_i ys e2 C2 h2;cases hf
   refine⟨Z,Θ,ao,C,r,e1,C1,S,h1,λv H1 k1 f1 R1=>?_⟩
   obtain⟨S1,a1⟩:=R1.arg
   exact⟨Z,Θ,e1,C1,ys,aV,C',S1,h2,λvs H2 k2 f2 S2 a2=>q _ H2 (k1.trans k2) (f1.trans f2) S2 (.cons (a1.same (Xz S1 k2 f2)) a2)⟩
  .cases hf
 .cases hf
theorem dG:PA X [] (wX X.K cL):=wg.weak λσ H Q aY=>by
 obtain⟨Z,Θ,ao,C,xs,aV,C',S,hf,q⟩:=aY
 cases hf;exact q [] H (bD.refl _ _) (Fz.refl _) S .nil
theorem dm(h:PE X e (eX X.K f))(hr:PA X es (wX X.K g))(hs:bR (e::es) X.env=(aM,eval e X.env)::bR es X.env:=by rfl):PA X (e::es) (wX X.K (cF f g)):=(rG h hr hs).weak λσ H Q aY=>by
 obtain⟨Z,Θ,ao,C,xs,aV,C',S,hf,q⟩:=aY
 unfold cF at hf;split at hf
 .rename_i d e1 C1 h1;split at hf
  .rename_i ys e2 C2 h2;cases hf
   exact⟨Z,Θ,ao,C,d,e1,C1,S,h1,λv H1 k1 f1 S1 b1=>⟨Z,Θ,e1,C1,ys,aV,C',S1,h2,λvs H2 k2 f2 S2 b2=>q _ H2 (k1.trans k2) (f1.trans f2) S2 (.cons (b1.go S1 k2 f2) b2)⟩⟩
  .cases hf
 .cases hf
noncomputable def Ft:List Vl->Option (List aD)
 |[]=>aa []
 |.im d::r=>match Ft r with
  |some ds=>aa (d::ds)
  |none=>aj
 |_=>aj
theorem UJ{K:aZ}:∀{xs:List Vl}{ds:List aD}{vs:List V},Ft xs=aa ds->ye K E Θ xs vs->cu E ds vs
 |[],ds,vs,h,a=>by cases h;cases a;rfl
 |.im d::r,ds,vs,h,a=>by
  unfold Ft at h;split at h
  .rename_i t ht;cases h;cases a with
   |cons a1 a2=>exact⟨_,_,rfl,a1,UJ ht a2⟩
  .cases h
 |.ow _::r,ds,vs,h,a=>by cases h
 |.ce _::r,ds,vs,h,a=>by cases h
 |.sc _::r,ds,vs,h,a=>by cases h
 |.ks _::r,ds,vs,h,a=>by cases h
 |.tp _ _ _::r,ds,vs,h,a=>by cases h
def dR(g:FA):FE:=λao C=>match g ao C with
 |some (xs,e',C')=>match Ft xs with
  |some ds=>if ds.length<=gB then aa (.ow (.list ds),e',C') else aj
  |none=>aj
 |none=>aj
def jd(g:FA):FE:=λao C=>match g ao C with
 |some (xs,e',C')=>match Ft xs with
  |some ds=>if ds.length<=gB then aa (.im (.tuple ds),e',C') else aj
  |none=>aj
 |none=>aj
theorem gJ{g:FA}(h:PA X es (yQ X.K g)):PE X (.List es pos) (tE X.K (dR g)):=(aon h).weak λσ H Q aY=>by
 obtain⟨Z,Θ,ao,C,r,aV,C',S,hf,q⟩:=aY
 unfold dR at hf;split at hf
 .rename_i xs e1 C1 h1;split at hf
  .rename_i ds hd;split at hf
   .rename_i hl;cases hf
    refine⟨Z,Θ,ao,C,xs,aV,C',S,h1,λvs H1 k1 f1 S1 a1=>?_⟩
    have r:=UJ hd a1
    exact⟨by rw[jG r];exact vU hl,λp hp=>q _ _ (k1.trans (bD.upd hp)) f1 ((rH S1 r hp).from k1)⟩
   .cases hf
  .cases hf
 .cases hf
theorem lR{x1}{g:FA}(h:PA X es (yQ X.K g)):PE X (.Tuple es x1 pos) (tE X.K (jd g)):=(WW h).weak λσ H Q aY=>by
 obtain⟨Z,Θ,ao,C,r,aV,C',S,hf,q⟩:=aY
 unfold jd at hf;split at hf
 .rename_i xs e1 C1 h1;split at hf
  .rename_i ds hd;split at hf
   .rename_i hl;cases hf
    refine⟨Z,Θ,ao,C,xs,aV,C',S,h1,λvs H1 k1 f1 S1 a1=>?_⟩
    have r:=UJ hd a1
    exact⟨by rw[jG r];exact vU hl,λp hp=>q _ _ (k1.trans (bD.upd hp)) f1 ((Nm S1 r hp).from k1)⟩
   .cases hf
  .cases hf
 .cases hf
def Ox:FE:=λao C=>aa (.ow (.dict []),ao,C)
theorem acK:PE X (.Dict [] [] pos) (tE X.K Ox):=ak3.weak λσ H Q aY=>by
 obtain⟨Z,Θ,ao,C,r,aV,C',S,hf,q⟩:=aY
 cases hf;exact λp hp=>q _ _ (bD.upd hp) (Fz.refl _) (amY (vs:=[]) S (λ_ z=>nomatch z) (.inl ⟨[],rfl,0,eV⟩) rfl hp)
def lM(K:aZ)(r:List V->Hp->VK->Prop)(op:List aD->oVl):Prop:=
 ∀(Z Θ:List aC)(ao:En)(C:Ce)(σ:St)(H:Hp)(xs:List V)(ds:List aD)(res:Vl),Sm K Z Θ ao C σ H->Pq Z Θ ao σ H ds xs->op ds=aa res->
  ∀Q:VK,(∀v H',bD Θ H H'->Res K Z Θ ao C σ H H' res v->Q v H')->r xs H Q
def cM(op:List aD->oVl)(g:Am):FE:=λao C=>match g ao C with
 |some (ds,e',C')=>match op ds with
  |some r=>aa (r,rst r ao e',C')
  |none=>aj
 |none=>aj
theorem acL{K:aZ}(L:lM K r op){g:Am}:∀σ H Q,tE K (cM op g) σ H Q->YD r (wX K g) σ H Q:=by
 rintro σ H Q ⟨Z,Θ,ao,C,res,aV,C',S,hf,q⟩;unfold cM at hf;split at hf
 .rename_i ds e1 C1 h1;split at hf
  .rename_i r0 h2;cases hf
   refine⟨Z,Θ,ao,C,ds,e1,C',S,h1,λvs H1 k1 f1 S1 b1=>L Z Θ e1 C' σ H1 vs ds res S1 b1 h2 Q λz H2 k2 R=>?_⟩
   exact q z H2 (k1.trans k2) (f1.rst res) ((R.from k1).rst S (k1.trans k2))
  .cases hf
 .cases hf
section
variable{X:Cx}{x:Str}{p pos:Pos}{e:Expr}{g:Am}{id T:String}
theorem zq(hc:iY X (.builtin id) r)(L:lM X.K r op)(hg:Gl X x)(hm:X.mg x=aj)(hv:ur x=aa (.builtin id))(ha:PA X (e::es) (wX X.K g))(hn:x≠"__name__":=by decide)(hdb:(x==("__debug__":Str))=aM:=by decide)
  (he:bR (e::es) X.env=(aM,eval e X.env)::bR es X.env:=by rfl)(hpl:(jA pos (bR es X.env)).any (·.1)=aM:=by rfl):PE X (.Call (.Name x p) (e::es) [] pos) (tE X.K (cM op g)):=(Mt hc hg hm hv ha hn hdb he hpl).weak (acL L)
theorem sY(hc:iY X (.type T) r)(L:lM X.K r op)(hg:Gl X x)(hm:X.mg x=aj)(hv:ur x=aa (.type T))(ha:PA X (e::es) (wX X.K g))(hn:x≠"__name__":=by decide)(hdb:(x==("__debug__":Str))=aM:=by decide)
  (he:bR (e::es) X.env=(aM,eval e X.env)::bR es X.env:=by rfl)(hpl:(jA pos (bR es X.env)).any (·.1)=aM:=by rfl):PE X (.Call (.Name x p) (e::es) [] pos) (tE X.K (cM op g)):=(aj2 hc hg hm hv ha hn hdb he hpl).weak (acL L)
end
abbrev FN:=List Vl->Ce->Option (Vl×Ce)
def CT:Vl->Bool
 |.tp _ _ _=>aq
 |_=>aM
def Qi(K:aZ)(Z Θ:List aC)(C:Ce)(H H':Hp):Vl->V->Prop
 |.tp p d q,v=>∃t a vs us,v=.ref t/\H' t=aa (.tup (vs++.ref a::us))/\H a=aj/\Sm K (a::Z) Θ [] C [] H'/\kY (er (bB (a::Z) Θ [] []) H') H' a d/\cu (er (bB (a::Z) Θ [] []) H') p vs/\cu (er (bB (a::Z) Θ [] []) H') q us
 |r,v=>Res K Z Θ [] C [] H H' r v
theorem Qi.res{K:aZ}{C:Ce}{r:Vl}{v:V}(n:CT r=aM)(h:Qi K Z Θ C H H' r v):Res K Z Θ [] C [] H H' r v:=by
 cases r<;>first|exact h|cases n
def spT(K:aZ)(f:FN):Sp:=λvs H Q _=>∃Z Θ C xs r C',Sm K Z Θ [] C [] H/\ye K (er (bB Z Θ [] []) H) Θ xs vs/\f xs C=aa (r,C')/\
 ∀v H',bD Θ H H'->Qi K Z Θ C' H H' r v->Q v H'
def bL(f:FN)(g:FA):FE:=λao C=>match g ao C with
 |some (xs,e',C1)=>match f xs C1 with
  |some (r,C2)=>if CT r then aj else aa (r,rst r ao e',C2)
  |none=>aj
 |none=>aj
theorem uI(h:∀a,a∈P↔a∈P'):er P H=er P' H:=by
 funext b;unfold er;by_cases hb:b∈P
 .rw[bG hb,bG ((h b).mp hb)]
 .rw[bH hb,bH (λz=>hb ((h b).mpr z))]
theorem V0(a:aC):a∈bB (Z++bV ao σ) Θ [] []↔a∈bB Z Θ ao σ:=by
 simp only[bB,bV,cY,mj];constructor
 .rintro((h|h)|h)
  .exact .inl h
  .exact .inr (.inr h)
  .exact .inr (.inl h)
 .rintro(h|h|h)
  .exact .inl (.inl h)
  .exact .inr h
  .exact .inl (.inr h)
section
variable{K:aZ}{ao:En}{σ:St}{H H':Hp}{a:aC}
theorem Sm.Fv(S:Sm K Z Θ ao C σ H)(ha:H a=aj)(k:bD Θ H H')(h':NT (H' a))(c:qJ Θ C' H'):Sm K (a::Z) Θ ao C' σ H':=by
 have sm:cH (er (bB Z Θ ao σ) H) (er (bB (a::Z) Θ ao σ) H'):=nD k S.uc λb m=>by
  rcases bW.mp m with rfl|m
  .exact .inr ha
  .exact .inl m
 refine⟨S.len,ie.mpr ⟨λm=>S.Jw a m ha,S.nd⟩,λb m=>?_,λi x e=>?_,c⟩
 .rcases bW.mp m with rfl|m
  .exact h'
  .obtain⟨u,e,n⟩:=S.dom b m
   exact⟨u,k.keep _ _ e λz=>by
    have h:=S.nd;rw[jF] at h;exact h.2.2 b m b (fM _ z) rfl,n⟩
 .obtain⟨v,e1,r⟩:=S.slot i x e
  refine⟨v,e1,r.same sm λd b ex ev o' ho=>k.keep _ _ ho ?_⟩
  subst ex ev
  exact(S.qe (nU.mpr ⟨i,d,e,e1⟩)).2
theorem Sm.bare(S:Sm K Z Θ ao C σ H):Sm K (Z++bV ao σ) Θ [] C [] H:=by
 refine⟨rfl,?_,λb m=>?_,λi x e=>by simp at e,S.cell⟩
 .have h:=S.nd
  show((Z++bV ao σ)++(Θ++[])).Nodup
  rw[mj,kE];have p:(Z++(Θ++bV ao σ)).Perm (Z++(bV ao σ++Θ)):=ahi Z ahj;exact p.nodup h
 .rcases cY.mp m with m|m
  .exact S.dom b m
  .exact S.yN b (eF _ (eF _ m))
theorem Res.back(S:Sm K Z Θ ao C σ H)(k:bD Θ H H')(h:Res K (Z++bV ao σ) Θ [] C' [] H H' r v):Res K Z Θ ao C' σ H H' r v:=by
 have e1:er (bB (Z++bV ao σ) Θ [] []) H'=er (bB Z Θ ao σ) H':=uI V0;cases r with
 |im d=>
  obtain⟨S',r⟩:=h
  rw[e1] at r
  exact⟨S.go k S'.cell,r⟩
 |ow d=>
  obtain⟨a,rfl,hn,S',r⟩:=h
  have e2:er (bB (a::(Z++bV ao σ)) Θ [] []) H'=er (bB (a::Z) Θ ao σ) H':=uI λb=>by
   show b∈a::bB (Z++bV ao σ) Θ [] []↔b∈a::bB Z Θ ao σ;rw[bW,bW,V0]
  rw[e2] at r
  exact⟨a,rfl,hn,S.Fv hn k (S'.dom a cX) S'.cell,r⟩
 |ce n=>exact⟨S.go k h.1.cell,h.2⟩
 |sc ns=>
  obtain⟨S',a,rfl,q⟩:=h
  rw[e1] at q
  exact⟨S.go k S'.cell,a,rfl,q⟩
 |ks ns=>
  obtain⟨S',a,rfl,q⟩:=h
  rw[e1] at q
  exact⟨S.go k S'.cell,a,rfl,q⟩
 |tp=>exact h
end
section
variable{X:Cx}{x:Str}{k:Nat}{p pos:Pos}{e:Expr}{f:FN}{g:FA}
theorem alp{K:aZ}:∀σ H Q,tE K (bL f g) σ H Q->Xu (spT K f) [] E0 (yQ K g) σ H Q:=by
 rintro σ H Q ⟨Z,Θ,ao,C,res,aV,C',S,hf,q⟩;unfold bL at hf;split at hf
 .rename_i xs e1 C1 h1;split at hf
  .rename_i r C2 h2;split at hf
   .cases hf
   rename_i nt;cases hf
   refine⟨Z,Θ,ao,C,xs,e1,C1,S,h1,λvs H1 k1 f1 S1 a1=>?_⟩
   show spT K f (vs++[]) H1 Q E0;rw[mj];have e2:er (bB (Z++bV e1 σ) Θ [] []) H1=er (bB Z Θ e1 σ) H1:=uI V0;rw[<-e2] at a1
   exact⟨Z++bV e1 σ,Θ,C1,xs,res,C',S1.bare,a1,h2,λv H2 k2 R=>q v H2 (k1.trans k2) (f1.rst res) (((Res.back S1 k2 (R.res (Bool.eq_false_iff.mpr nt))).from k1).rst S (k1.trans k2))⟩
  .cases hf
 .cases hf
theorem mF(F:dJ X.prog X.w X.K X.mg X.base x k ps (spT X.K f))(hr:jZ k X.A)(hg:Gl X x)(ha:PA X (e::es) (yQ X.K g))(hdb:(x==("__debug__":Str))=aM:=by decide)
  (he:bR (e::es) X.env=(aM,eval e X.env)::bR es X.env:=by rfl)(hpl:(jA pos (bR es X.env)).any (·.1)=aM:=by rfl):PE X (.Call (.Name x p) (e::es) [] pos) (tE X.K (bL f g)):=(apP F hr hg ha hdb he hpl).weak alp
end
theorem TQ:∀{ao:En}{σ:St},(∀(i j:Nat)(d e:aD)(a:aC),ao[i]?=aa (aa (Vl.ow d))->σ[i]?=aa (aa (V.ref a))->ao[j]?=aa (aa (Vl.ow e))->σ[j]?=aa (aa (V.ref a))->i=j)->(bV ao σ).Nodup
 |[],σ,_=>by cases σ<;>exact lO
 |_::_,[],_=>lO
 |x::en,v::s,h=>by
  rw[bV,jF]
  refine⟨?_,TQ λi j d e a h1 h2 h3 h4=>?_,λa ha b hb e=>?_⟩
  .unfold own1;split
   .exact ie.mpr ⟨bI,lO⟩
   .exact lO
  .have:=h (i+1) (j+1) d e a (by simpa using h1) (by simpa using h2) (by simpa using h3) (by simpa using h4);lia
  .subst e;unfold own1 at ha;split at ha
   .rw[gk] at ha;subst ha
    obtain⟨j,d,h1,h2⟩:=nU.mp hb
    have:=h 0 (j+1) _ d a rfl rfl (by simpa using h1) (by simpa using h2);lia
   .simp at ha
theorem get_set{α:Type}{l:List α}{x y:α}(h:(l.set i x)[j]?=aa y):(j=i/\y=x/\i<l.length)\/(j≠i/\l[j]?=aa y):=by
 by_cases e:i=j
 .subst e;rw[Rj,bG rfl] at h;split at h
  .rename_i hl;cases h;exact .inl ⟨rfl,rfl,hl⟩
  .cases h
 .rw[xq e] at h;exact .inr ⟨λz=>e z.symm,h⟩
theorem adS{α:Type}{l:List α}{x:α}(h:i<l.length):(l.set i x)[i]?=aa x:=by
 rw[Rj,bG rfl,bG h]
theorem uC(h:a∈bV (ao.set i (aa x)) (σ.set i (aa v))):a∈bV ao σ\/(∃d,x=.ow d)/\v=.ref a:=by
 obtain⟨j,d,h1,h2⟩:=nU.mp h
 rcases get_set h1 with⟨rfl,e,_⟩|⟨n,h1⟩
 .rcases get_set h2 with⟨_,e2,_⟩|⟨n,_⟩
  .cases e;cases e2;exact .inr ⟨⟨d,rfl⟩,rfl⟩
  .exact absurd rfl n
 .rcases get_set h2 with⟨e,_,_⟩|⟨_,h2⟩
  .exact absurd e n
  .exact .inl (nU.mpr ⟨j,d,h1,h2⟩)
section
variable{K:aZ}{Z Θ:List aC}{C:Ce}{σ:St}{H:Hp}{a:aC}{i:Nat}{v:V}
theorem Sm.dZ(S:Sm K Z Θ ao C σ H):Z.Nodup/\Θ.Nodup/\(bV ao σ).Nodup/\(∀b∈Z,b∉Θ):=by
 have h:=S.nd;rw[jF,jF] at h
 obtain⟨h1,⟨h2,h3,_⟩,h4⟩:=h
 exact⟨h1,h2,h3,λb m m'=>h4 b m b (fM _ m') rfl⟩
theorem Dh(h1:Z.Nodup)(h2:Θ.Nodup)(h3:O.Nodup)(h4:∀b∈Z,b∉Θ)(h5:∀b∈O,b∉Z/\b∉Θ):(Z++(Θ++O)).Nodup:=by
 rw[jF,jF]
 refine⟨h1,⟨h2,h3,λb m c m' e=>?_⟩,λb m c m' e=>?_⟩
 .subst e;exact(h5 b m').2 m
 .subst e;rcases cY.mp m' with m'|m'
  .exact h4 b m m'
  .exact(h5 b m').1 m
theorem Sm.wR(S:Sm K Z Θ ao C σ H){x:Vl}(hx:∀d,x≠.ow d)(r:Gb K (er (bB Z Θ ao σ) H) H Θ x v):Sm K Z Θ (ao.set i (aa x)) C (σ.set i (aa v)) H:=by
 have sub:∀b,b∈bV (ao.set i (aa x)) (σ.set i (aa v))->b∈bV ao σ:=λb m=>by
  rcases uC m with m|⟨⟨d,e⟩,_⟩
  .exact m
  .exact absurd e (hx d)
 have dZ:=S.dZ;have sm:cH (er (bB Z Θ ao σ) H) (er (bB Z Θ (ao.set i (aa x)) (σ.set i (aa v))) H):=wz λb m=>by
  rcases cY.mp m with m|m
  .exact fM _ m
  .rcases cY.mp m with m|m
   .exact eF _ (fM _ m)
   .exact eF _ (eF _ (sub b m))
 refine⟨by rw[Bc,Bc];exact S.len,?_,S.dom,λj y e=>?_,S.cell⟩
 .refine Dh dZ.1 dZ.2.1 (TQ λp q d e b h1 h2 h3 h4=>?_) dZ.2.2.2 λb m=>S.qe (sub b m)
  rcases get_set h1 with⟨rfl,e1,_⟩|⟨n1,h1⟩
  .cases e1;exact absurd rfl (hx d)
  .rcases get_set h3 with⟨rfl,e1,_⟩|⟨n2,h3⟩
   .cases e1;exact absurd rfl (hx e)
   .rcases get_set h2 with⟨e2,_,_⟩|⟨_,h2⟩
    .exact absurd e2 n1
    .rcases get_set h4 with⟨e4,_,_⟩|⟨_,h4⟩
     .exact absurd e4 n2
     .exact Ij dZ.2.2.1 h1 h2 h3 h4
 .rcases get_set e with⟨rfl,e1,hl⟩|⟨n,e⟩
  .cases e1
   exact⟨v,adS (by rw[S.len];exact hl),r.same sm λd b ex _=>absurd ex (hx d)⟩
  .obtain⟨u,e1,r1⟩:=S.slot j y e
   exact⟨u,by rw[xq (j5 n)];exact e1,r1.same sm λ_ _ _ _ _ h=>h⟩
theorem Sm.afS(S:Sm K (a::Z) Θ ao C σ H){d:aD}(r:kY (er (bB (a::Z) Θ ao σ) H) H a d):Sm K Z Θ (ao.set i (aa (.ow d))) C (σ.set i (aa (.ref a))) H:=by
 have sub:∀b,b∈bV (ao.set i (aa (.ow d))) (σ.set i (aa (.ref a)))->b∈bV ao σ\/b=a:=λb m=>by
  rcases uC m with m|⟨_,e⟩
  .exact .inl m
  .cases e;exact .inr rfl
 have dZ:=S.dZ;have J0:=ie.mp dZ.1;have sm:cH (er (bB (a::Z) Θ ao σ) H) (er (bB Z Θ (ao.set i (aa (.ow d))) (σ.set i (aa (.ref a)))) H):=wz λb m=>by
  rcases cY.mp m with m|m
  .exact fM _ (dM _ m)
  .rcases cY.mp m with m|m
   .exact eF _ (fM _ m)
   .rcases sub b m with m|rfl
    .exact eF _ (eF _ m)
    .exact fM _ cX
 have afT:a∉bV ao σ:=λm=>(S.qe m).1 cX
 refine⟨by rw[Bc,Bc];exact S.len,?_,λb m=>S.dom b (dM _ m),λj y e=>?_,S.cell⟩
 .refine Dh J0.2 dZ.2.1 (TQ λp q d1 e b h1 h2 h3 h4=>?_) (λb m=>dZ.2.2.2 b (dM _ m)) λb m=>?_
  .rcases get_set h1 with⟨rfl,e1,_⟩|⟨n1,h1⟩
   .rcases get_set h3 with⟨e3,_,_⟩|⟨n2,h3⟩
    .exact e3.symm
    .rcases get_set h2 with⟨_,e2,_⟩|⟨n,_⟩
     .cases e2;rcases get_set h4 with⟨e4,_,_⟩|⟨_,h4⟩
      .exact e4.symm
      .exact absurd (nU.mpr ⟨q,e,h3,h4⟩) afT
     .exact absurd rfl n
   .rcases get_set h2 with⟨e2,_,_⟩|⟨_,h2'⟩
    .exact absurd e2 n1
    .have mp:=nU.mpr ⟨p,d1,h1,h2'⟩;rcases get_set h3 with⟨rfl,e3,_⟩|⟨n2,h3⟩
     .rcases get_set h4 with⟨_,e4,_⟩|⟨n,_⟩
      .cases e4;exact absurd mp afT
      .exact absurd rfl n
     .rcases get_set h4 with⟨e4,_,_⟩|⟨_,h4⟩
      .exact absurd e4 n2
      .exact Ij dZ.2.2.1 h1 h2' h3 h4
  .rcases sub b m with m|rfl
   .obtain⟨p,q⟩:=S.qe m
    exact⟨λz=>p (dM _ z),q⟩
   .exact⟨J0.1,dZ.2.2.2 b cX⟩
 .rcases get_set e with⟨rfl,e1,hl⟩|⟨n,e⟩
  .cases e1
   exact⟨_,adS (by rw[S.len];exact hl),a,rfl,r.same sm λ_ h=>h⟩
  .obtain⟨u,e1,r1⟩:=S.slot j y e
   exact⟨u,by rw[xq (j5 n)];exact e1,r1.same sm λ_ _ _ _ _ h=>h⟩
theorem Res.set(h:Res K Z Θ ao C σ H0 H r v):Sm K Z Θ (ao.set i (aa r)) C (σ.set i (aa v)) H:=by
 cases r with
 |im d=>exact h.1.wR (λ_ e=>nomatch e) h.2
 |ow d=>obtain⟨a,rfl,_,S,r⟩:=h;exact S.afS r
 |ce n=>exact h.1.wR (λ_ e=>nomatch e) h.2
 |sc ns=>exact h.1.wR (λ_ e=>nomatch e) h.2
 |ks ns=>exact h.1.wR (λ_ e=>nomatch e) h.2
 |tp=>exact h.elim
end
inductive Fl where
 |nx|rt (r:Vl)|bk|ct
abbrev FS:=En->Ce->Option (Fl×En×Ce)
structure lg(Θ Θ':List aC)(H:Hp):Prop where
 ex:∃Δ,Θ'=Θ++Δ/\∀a∈Δ,H a=aj
theorem lg.refl(Θ:List aC)(H:Hp):lg Θ Θ H:=⟨[],by rw[mj],λ_ m=>nomatch m⟩
structure eE(K:aZ)(Z Θ:List aC)(ao:En)(σ:St)(H:Hp)(Θ':List aC)(aV:En)(C':Ce)(σ':St)(H':Hp):Prop where
 th:lg Θ Θ' H
 kp:bD (Θ++bV ao σ) H H'
 own:∀a∈bV aV σ',a∈bV ao σ\/H a=aj
 sm:Sm K Z Θ' aV C' σ' H'
def Py(K:aZ)(Z Θ:List aC)(C:Ce)(own:List aC)(H H':Hp):Vl->V->Prop
 |.im d,v=>Sm K Z Θ [] C [] H'/\RZ (er (bB Z Θ [] []) H') d v
 |.ow d,v=>∃a,v=.ref a/\(a∈own\/H a=aj)/\Sm K (a::Z) Θ [] C [] H'/\kY (er (bB (a::Z) Θ [] []) H') H' a d
 |.ce n,v=>Sm K Z Θ [] C [] H'/\∃a,v=.ref a/\Θ[n]?=aa a
 |.sc ns,v=>Sm K Z Θ [] C [] H'/\∃a,v=.ref a/\cj K (er (bB Z Θ [] []) H') a (ns.map V.int)
 |.ks ns,v=>Sm K Z Θ [] C [] H'/\∃a,v=.ref a/\cU K (er (bB Z Θ [] []) H') a (ns.map toV)
 |.tp p d q,v=>∃t a vs us,v=.ref t/\H' t=aa (.tup (vs++.ref a::us))/\(a∈own\/H a=aj)/\Sm K (a::Z) Θ [] C [] H'/\kY (er (bB (a::Z) Θ [] []) H') H' a d/\cu (er (bB (a::Z) Θ [] []) H') p vs/\cu (er (bB (a::Z) Θ [] []) H') q us
structure Qy(K:aZ)(Z Θ:List aC)(ao:En)(σ:St)(H:Hp)(Θ':List aC)(C':Ce)(r:Vl)(v:V)(H':Hp):Prop where
 th:lg Θ Θ' H
 kp:bD (Θ++bV ao σ) H H'
 ok:Py K Z Θ' C' (bV ao σ) H H' r v
def Qj(K:aZ)(Z Θ:List aC)(ao:En)(σ:St)(H:Hp)(aV:En)(C':Ce)(D:Ends):Fl->Prop
 |.nx=>∀Θ' σ' H',eE K Z Θ ao σ H Θ' aV C' σ' H'->D.nx σ' H'
 |.bk=>∀Θ' σ' H',eE K Z Θ ao σ H Θ' aV C' σ' H'->D.bk σ' H'
 |.ct=>∀Θ' σ' H',eE K Z Θ ao σ H Θ' aV C' σ' H'->D.ct σ' H'
 |.rt r=>∀Θ' v H',Qy K Z Θ ao σ H Θ' C' r v H'->D.rt v H'
inductive tS(K:aZ)(f:FS)(D:Ends)(σ:St)(H:Hp):Prop
 |mk (Z Θ:List aC) (ao:En) (C:Ce) (fl:Fl) (aV:En) (C':Ce) (S:Sm K Z Θ ao C σ H) (hf:f ao C=aa (fl,aV,C')) (q:Qj K Z Θ ao σ H aV C' D fl):tS K f D σ H
section
variable{K:aZ}{C C1 C2:Ce}{σ σ1 σ2:St}{H H1 H2:Hp}
theorem lg.trans(h:lg Θ Θ1 H)(k:∀a,H a≠aj->H1 a≠aj)(g:lg Θ1 Θ2 H1):lg Θ Θ2 H:=by
 obtain⟨Δ,e,n⟩:=h.ex
 obtain⟨Δ',e',n'⟩:=g.ex
 refine⟨Δ++Δ',by rw[e',e,kE],λa m=>?_⟩
 rcases cY.mp m with m|m
 .exact n a m
 .cases h:H a with
  |none=>rfl
  |some o=>exact absurd (n' a m) (k a (by rw[h];exact xx _))
theorem acM(th:lg Θ Θ1 H)(k1:bD (Θ++bV ao σ) H H1)(ow:∀a∈bV e1 σ1,a∈bV ao σ\/H a=aj)(k2:bD (Θ1++bV e1 σ1) H1 H2):bD (Θ++bV ao σ) H H2:=by
 refine⟨λa o e n=>k2.keep a o (k1.keep a o e n) λm=>n ?_,λa e=>k2.dom a (k1.dom a e)⟩
 have hn:H a≠aj:=by rw[e];exact xx _
 rcases cY.mp m with m|m
 .obtain⟨Δ,e',n'⟩:=th.ex
  rw[e'] at m;rcases cY.mp m with m|m
  .exact fM _ m
  .exact absurd (n' a m) hn
 .rcases ow a m with m|m
  .exact eF _ m
  .exact absurd m hn
theorem eE.trans(p:eE K Z Θ ao σ H Θ1 e1 C1 σ1 H1)(q:eE K Z Θ1 e1 σ1 H1 Θ2 e2 C2 σ2 H2):eE K Z Θ ao σ H Θ2 e2 C2 σ2 H2 where
 th:=p.th.trans p.kp.dom q.th
 kp:=acM p.th p.kp p.own q.kp
 own:=λa m=>by
  rcases q.own a m with m|m
  .exact p.own a m
  .exact .inr (p.kp.none m)
 sm:=q.sm
theorem eE.ret(p:eE K Z Θ ao σ H Θ1 e1 C1 σ1 H1)(q:Qy K Z Θ1 e1 σ1 H1 Θ2 C2 r v H2):Qy K Z Θ ao σ H Θ2 C2 r v H2 where
 th:=p.th.trans p.kp.dom q.th
 kp:=acM p.th p.kp p.own q.kp
 ok:=by
  have h:=q.ok;cases r with
  |im d=>exact h
  |ow d=>
   obtain⟨a,e,m,S,r⟩:=h
   refine⟨a,e,?_,S,r⟩
   rcases m with m|m
   .exact p.own a m
   .exact .inr (p.kp.none m)
  |ce n=>exact h
  |sc ns=>exact h
  |ks ns=>exact h
  |tp=>
   obtain⟨t,a,vs,us,e,e',m,R⟩:=h
   exact⟨t,a,vs,us,e,e',m.elim (p.own a) λm=>.inr (p.kp.none m),R⟩
theorem Qj.trans(p:eE K Z Θ ao σ H Θ1 e1 C1 σ1 H1)(h:Qj K Z Θ ao σ H e2 C2 D fl):Qj K Z Θ1 e1 σ1 H1 e2 C2 D fl:=by
 cases fl with
 |nx=>exact λΘ' σ' H' q=>h Θ' σ' H' (p.trans q)
 |bk=>exact λΘ' σ' H' q=>h Θ' σ' H' (p.trans q)
 |ct=>exact λΘ' σ' H' q=>h Θ' σ' H' (p.trans q)
 |rt r=>exact λΘ' v H' q=>h Θ' v H' (p.ret q)
theorem uD(k:bD Θ H H1):bD (Θ++O) H H1:=⟨λa o e n=>k.keep a o e λm=>n (fM _ m),k.dom⟩
theorem eE.o9(k:bD Θ H H1)(f:Fz ao e1)(S:Sm K Z Θ e1 C1 σ H1):eE K Z Θ ao σ H Θ e1 C1 σ H1:=
 ⟨lg.refl _ _,uD k,λa m=>.inl (f.own.subset m),S⟩
end
def mR:FS:=λao C=>aa (.nx,ao,C)
noncomputable def bO (f g:FS):FS:=λao C=>match f ao C with
 |some (.nx,e1,C1)=>g e1 C1
 |r=>r
def kZ(c:FT)(f g:FS):FS:=λao C=>match c ao C with
 |some (true,C1)=>f ao C1
 |some (false,C1)=>g ao C1
 |none=>aj
noncomputable def gb (f:FE):FS:=λao C=>match f ao C with
 |some (r,e1,C1)=>aa (.rt r,e1,C1)
 |none=>aj
def tV(i:Nat):FS:=λao C=>match ao[i]? with
 |some (some x)=>aa (.rt x,ao,C)
 |_=>aj
noncomputable def cB (i:Nat) (f:FE):FS:=λao C=>match f ao C with
 |some (r,e1,C1)=>aa (.nx,e1.set i (aa r),C1)
 |none=>aj
section
variable{X:Cx}{st:dI}{rest:List dI}{pos:Pos}
theorem eE.same{K:aZ}{C:Ce}{σ:St}{H:Hp}(S:Sm K Z Θ ao C σ H):eE K Z Θ ao σ H Θ ao C σ H:=eE.o9 (bD.refl _ _) (Fz.refl _) S
theorem pH:je X [] (tS X.K mR):=amu.weak λD σ H aY=>by
 obtain⟨Z,Θ,ao,C,fl,aV,C',S,hf,q⟩:=aY
 cases hf;exact q Θ σ H (eE.same S)
theorem jT(h:PS X st (tS X.K f)):je X [st] (tS X.K f):=ado h
theorem alq{K:aZ}:∀D σ H,tS K (bO f g) D σ H->X3 (tS K f) (tS K g) D σ H:=by
 rintro D σ H ⟨Z,Θ,ao,C,fl,aV,C',S,hf,q⟩;unfold bO at hf;split at hf
 .rename_i e1 C1 h1
  exact⟨Z,Θ,ao,C,.nx,e1,C1,S,h1,λΘ1 σ1 H1 p=>⟨Z,Θ1,e1,C1,fl,aV,C',p.sm,hf,q.trans p⟩⟩
 .rename_i hne
  refine⟨Z,Θ,ao,C,fl,aV,C',S,hf,?_⟩
  cases fl with
  |nx=>exact absurd hf (hne _ _)
  |bk=>exact q
  |ct=>exact q
  |rt r=>exact q
theorem b7(h:PS X st (tS X.K f))(hr:je X rest (tS X.K g)):je X (st::rest) (tS X.K (bO f g)):=(Ui h hr).weak alq
theorem pI(hc:PT X c (gM X.K t))(ha:je X a (tS X.K f))(hb:je X b (tS X.K g)):PS X (.If c a b pos) (tS X.K (kZ t f g)):=(apw hc ha hb).weak λD σ H aY=>by
 obtain⟨Z,Θ,ao,C,fl,aV,C',S,hf,q⟩:=aY
 unfold kZ at hf;split at hf
 .rename_i C1 h1
  exact⟨Z,Θ,ao,C,aq,C1,S,h1,λH1 k1 S1=>Aa ⟨Z,Θ,ao,C1,fl,aV,C',S1,hf,q.trans (eE.o9 k1 (Fz.refl _) S1)⟩⟩
 .rename_i C1 h1
  exact⟨Z,Θ,ao,C,aM,C1,S,h1,λH1 k1 S1=>z9 ⟨Z,Θ,ao,C1,fl,aV,C',S1,hf,q.trans (eE.o9 k1 (Fz.refl _) S1)⟩⟩
 .cases hf
theorem Sm.none{K:aZ}{C:Ce}{σ:St}{H:Hp}(S:Sm K Z Θ ao C σ H):Sm K Z Θ [] C [] H:=by
 have dZ:=S.dZ
 exact⟨rfl,Dh dZ.1 dZ.2.1 lO dZ.2.2.2 (λ_ m=>nomatch m),S.dom,λi x e=>by simp at e,S.cell⟩
theorem zu:cH (er (bB Z Θ ao σ) H) (er (bB Z Θ [] []) H):=wz λb m=>by
 rcases cY.mp m with m|m
 .exact fM _ m
 .rcases cY.mp m with m|m
  .exact eF _ (fM _ m)
  .nomatch m
theorem Res.ret{K:aZ}{ao:En}{C:Ce}{σ:St}{H H':Hp}{r:Vl}{v:V}(h:Res K Z Θ ao C σ H H' r v):Py K Z Θ C O H H' r v:=by
 cases r with
 |im d=>exact⟨h.1.none,h.2.same zu⟩
 |ow d=>obtain⟨a,e,n,S,r⟩:=h;exact⟨a,e,.inr n,S.none,r.same zu λ_ h=>h⟩
 |ce n=>exact⟨h.1.none,h.2⟩
 |sc ns=>obtain⟨S,a,e,q⟩:=h;exact⟨S.none,a,e,zu.seq q⟩
 |ks ns=>obtain⟨S,a,e,q⟩:=h;exact⟨S.none,a,e,zu.Jv q⟩
 |tp=>exact h.elim
theorem aoQ(h:PE X e (tE X.K f)):PS X (.Return (aa e) pos) (tS X.K (gb f)):=(WN h).weak λD σ H aY=>by
 obtain⟨Z,Θ,ao,C,fl,aV,C',S,hf,q⟩:=aY
 unfold gb at hf;split at hf
 .rename_i r e1 C1 h1;cases hf
  exact⟨Z,Θ,ao,C,r,aV,C',S,h1,λv H1 k f R=>q Θ v H1 ⟨lg.refl _ _,uD k,R.ret⟩⟩
 .cases hf
theorem zF(h:PE X e (qj i)):PS X (.Return (aa e) pos) (tS X.K (tV i)):=(WN h).weak λD σ H aY=>by
 obtain⟨Z,Θ,ao,C,fl,aV,C',S,hf,q⟩:=aY
 unfold tV at hf;split at hf
 .rename_i x hx;cases hf
  obtain⟨v,e1,r⟩:=S.slot i x hx
  refine⟨v,e1,q Θ v H ⟨lg.refl _ _,bD.refl _ _,?_⟩⟩
  cases x with
  |im d=>exact⟨S.none,RZ.same zu r⟩
  |ow d=>
   obtain⟨a,rfl,r⟩:=r
   have m:a∈bV ao σ:=nU.mpr ⟨i,d,hx,e1⟩;have sm:cH (er (bB Z Θ ao σ) H) (er (bB (a::Z) Θ [] []) H):=wz λb mb=>by
    rcases cY.mp mb with mb|mb
    .rcases bW.mp mb with rfl|mb
     .exact eF _ (eF _ m)
     .exact fM _ mb
    .rcases cY.mp mb with mb|mb
     .exact eF _ (fM _ mb)
     .nomatch mb
   have dZ:=S.dZ
   refine⟨a,rfl,.inl m,⟨rfl,Dh (ie.mpr ⟨(S.qe m).1,dZ.1⟩) dZ.2.1 lO (λb mb=>?_) (λ_ m=>nomatch m),λb mb=>?_,λi x e=>by simp at e,S.cell⟩,r.same sm λ_ h=>h⟩
   .rcases bW.mp mb with rfl|mb
    .exact(S.qe m).2
    .exact dZ.2.2.2 b mb
   .rcases bW.mp mb with rfl|mb
    .exact r.nt
    .exact S.dom b mb
  |ce n=>exact⟨S.none,r⟩
  |sc ns=>obtain⟨a,e,q⟩:=r;exact⟨S.none,a,e,zu.seq q⟩
  |ks ns=>obtain⟨a,e,q⟩:=r;exact⟨S.none,a,e,zu.Jv q⟩
  |tp=>exact r.elim
 .cases hf
theorem UL{K:aZ}{f:FE}(w:∀σ H Q,tE K f σ H Q->t σ H Q):∀D σ H,tS K (cB i f) D σ H->CP t (uN i) D σ H:=by
 rintro D σ H ⟨Z,Θ,ao,C,fl,aV,C',S,hf,q⟩;unfold cB at hf;split at hf
 .rename_i r e1 C1 h1;cases hf;refine w _ _ _ ⟨Z,Θ,ao,C,r,e1,C',S,h1,λv H1 k f R=>q Θ _ H1 ⟨lg.refl _ _,uD k,λa m=>?_,R.set⟩⟩;rcases uC m with m|⟨⟨d,e⟩,e2⟩
  .exact .inl (f.own.subset m)
  .subst e
   obtain⟨b,e3,n,_⟩:=R
   rw[e2] at e3;cases e3;exact .inr n
 .cases hf
theorem aeR(hN:X.N.Nodup)(hi:X.N[i]?=aa x)(hx:Loc X.env.scope x)(he:PE X e (tE X.K f))(hs:sW e (aa (.Name x pos')) pos.line X.env=pure aM:=by rfl)(hf:X.fn x=aq\/X.env.scope.names.lookup x=aa .local:=by first|exact .inl rfl|exact .inr rfl|assumption):
  PS X (.Assign [.Name x pos'] e pos) (tS X.K (cB i f)):=(Oj hN hi hx he hs hf).weak (UL λ_ _ _ h=>h)
end
abbrev FG:=aD->En->Option En
abbrev J1:=List aD->En->Option En
def Gr(K:aZ)(g:TG)(fg:FG):Prop:=∀(Z Θ:List aC)(ao:En)(C:Ce)(σ:St)(H:Hp)(v:V)(d:aD)(aV:En),Sm K Z Θ ao C σ H->RZ (er (bB Z Θ ao σ) H) d v->fg d ao=aa aV->
 ∀Q:St->Hp->Prop,(∀σ',Sm K Z Θ aV C σ' H->(∀a∈bV aV σ',a∈bV ao σ)->Q σ' H)->g v σ H Q
def Qk(K:aZ)(g:Dd)(fg:J1):Prop:=∀(Z Θ:List aC)(ao:En)(C:Ce)(σ:St)(H:Hp)(vs:List V)(ds:List aD)(aV:En),Sm K Z Θ ao C σ H->cu (er (bB Z Θ ao σ) H) ds vs->fg ds ao=aa aV->
 ∀Q:St->Hp->Prop,(∀σ',Sm K Z Θ aV C σ' H->(∀a∈bV aV σ',a∈bV ao σ)->Q σ' H)->g vs σ H Q
noncomputable def eZ (i:Nat):FG:=λd ao=>aa (ao.set i (aa (.im d)))
def Fw:J1:=λds ao=>match ds with
 |[]=>aa ao
 |_=>aj
def wC(g:FG)(u:J1):J1:=λds ao=>match ds with
 |d::r=>match g d ao with
  |some e1=>u r e1
  |none=>aj
 |[]=>aj
def Gs(n:Nat)(u:J1):FG:=λd ao=>match d with
 |.tuple ds=>if ds.length=n then u ds ao else aj
 |_=>aj
theorem aeS(h:∀a∈bV e1 σ1,a∈bV ao σ):cH (er (bB Z Θ ao σ) H) (er (bB Z Θ e1 σ1) H):=wz λb m=>by
 rcases cY.mp m with m|m
 .exact fM _ m
 .rcases cY.mp m with m|m
  .exact eF _ (fM _ m)
  .exact eF _ (eF _ (h b m))
section
variable{K:aZ}
theorem oM:Gr K (uN i) (eZ i):=by
 intro Z Θ ao C σ H v d aV S r e Q q;cases e;refine q _ (S.wR (λ_ z=>nomatch z) r) λa m=>?_
 rcases uC m with m|⟨⟨_,z⟩,_⟩
 .exact m
 .cases z
theorem V1:Qk K X4 Fw:=by
 intro Z Θ ao C σ H vs ds aV S r e Q q;unfold Fw at e;split at e
 .cases e
  exact⟨r,q _ S λ_ m=>m⟩
 .cases e
theorem By(h:Gr K g fg)(hu:Qk K u fu):Qk K (Xq g u) (wC fg fu):=by
 intro Z Θ ao C σ H vs ds aV S r e Q q;unfold wC at e;split at e
 .rename_i d r'
  obtain⟨v,ws,rfl,r1,r2⟩:=r
  split at e
  .rename_i e1 h1
   refine⟨v,ws,rfl,h Z Θ ao C σ H v d e1 S r1 h1 _ λσ1 S1 o1=>?_⟩
   exact hu Z Θ e1 C σ1 H ws r' aV S1 (r2.same (aeS o1)) e Q λσ2 S2 o2=>q σ2 S2 λa m=>o1 a (o2 a m)
  .cases e
 .cases e
theorem W2(hu:Qk K u fu):Gr K (X5 K n u) (Gs n fu):=by
 intro Z Θ ao C σ H v d aV S r e Q q;unfold Gs at e;split at e
 .rename_i ds;split at e
  .rename_i hl
   obtain⟨a,vs,rfl,ha,r⟩:=r
   exact⟨a,vs,rfl,cU.of (jh ha),(jG r).trans hl,hu Z Θ ao C σ H vs ds aV S r e Q q⟩
  .cases e
 .cases e
end
def Gd(f:FE)(g:FG):FS:=λao C=>match f ao C with
 |some (r,e1,C1)=>match still r with
  |.im d=>match g d e1 with
   |some e2=>aa (.nx,e2,C1)
   |none=>aj
  |_=>aj
 |none=>aj
theorem Res.yo{K:aZ}{ao:En}{C:Ce}{σ:St}{H H':Hp}{r:Vl}{v:V}(h:Res K Z Θ ao C σ H H' r v)(e:L2.still r=.im d):Sm K Z Θ ao C σ H'/\RZ (er (bB Z Θ ao σ) H') d v:=by
 have g:=h.still;rw[e] at g;exact g
section
variable{pos:Pos}
theorem W3{tg e:Expr}{g:TG}(he:PE X e (tE X.K f))(hg:PG X tg g)(L:Gr X.K g fg)(hs:xN [tg] e pos.line X.env=pure aM:=by rfl)(hw:xO [tg] e X.env=pure aj:=by rfl)(h1:(sU [tg] X.env).map (·.2)=[assign tg X.env]:=by rfl):
  PS X (.Assign [tg] e pos) (tS X.K (Gd f fg)):=(Iu he hg hs hw h1).weak λD σ H aY=>by
 obtain⟨Z,Θ,ao,C,fl,aV,C',S,hf,q⟩:=aY
 unfold Gd at hf;split at hf
 .rename_i r e1 C1 h1;split at hf
  .rename_i d hd;split at hf
   .rename_i e2 h2;cases hf
    refine⟨Z,Θ,ao,C,r,e1,C',S,h1,λv H1 k f R=>?_⟩
    obtain⟨S1,r1⟩:=R.yo hd
    exact L Z Θ e1 C' σ H1 v d aV S1 r1 h2 D.nx λσ' S' o=>q Θ σ' H1 ⟨lg.refl _ _,uD k,λa m=>.inl (f.own.subset (o a m)),S'⟩
   .cases hf
  .cases hf
 .cases hf
end
inductive tW(K:aZ)(E H:Hp)(Θ:List aC):List aC->List Vl->List V->Prop
 |nil:tW K E H Θ [] [] []
 |cons {as:List aC} {x:Vl} {v:V} {xs:List Vl} {vs:List V}:ym K E Θ x v->tW K E H Θ as xs vs->tW K E H Θ as (x::xs) (v::vs)
 |own {as:List aC} {a:aC} {d:aD} {xs:List Vl} {vs:List V}:kY E H a d->tW K E H Θ as xs vs->tW K E H Θ (as++[a]) (.ow d::xs) (.ref a::vs)
theorem tW.heap{K:aZ}{E H H':Hp}{vs:List V}(s:cH H H')(h:tW K E H Θ as xs vs):tW K E H' Θ as xs vs:=by
 induction h with
 |nil=>exact .nil
 |cons a _ ih=>exact .cons a ih
 |own r _ ih=>exact .own (r.same (cH.refl _) λo ho=>s _ _ ho) ih
inductive An(K:aZ)(f:FA)(σ:St)(H:Hp)(Q:List V->Hp->Prop):Prop
 |mk (Z Θ:List aC) (ao:En) (C:Ce) (xs:List Vl) (aV:En) (C':Ce) (S:Sm K Z Θ ao C σ H) (hf:f ao C=aa (xs,aV,C')) (q:∀vs as H',bD Θ H H'->Fz ao aV->(∀a∈as,H a=aj)->Sm K (as++Z) Θ aV C' σ H'->tW K (er (bB (as++Z) Θ aV σ) H') H' Θ as xs vs->Q vs H'):An K f σ H Q
def mU(f:FE)(g:FA):FA:=λao C=>match f ao C with
 |some (r,e1,C1)=>match g e1 C1 with
  |some (xs,e2,C2)=>aa (r::xs,e2,C2)
  |none=>aj
 |none=>aj
section
variable{K:aZ}{C:Ce}{σ:St}{H:Hp}
theorem gO:a∈bB Z Θ ao σ↔a∈Z\/a∈Θ\/a∈bV ao σ:=by rw[cY,cY]
theorem Sm.perm(S:Sm K Z Θ ao C σ H)(p:Z.Perm Z'):Sm K Z' Θ ao C σ H:=by
 have e:er (bB Z Θ ao σ) H=er (bB Z' Θ ao σ) H:=uI λa=>by rw[gO,gO,p.mem_iff]
 refine⟨S.len,(aha _ p).nodup S.nd,λa m=>S.dom a (p.mem_iff.mpr m),λi x h=>?_,S.cell⟩
 rw[<-e];exact S.slot i x h
end
theorem Fd:PA X [] (An X.K aX):=wg.weak λσ H Q aY=>by
 obtain⟨Z,Θ,ao,C,xs,aV,C',S,hf,q⟩:=aY
 cases hf;exact q [] [] H (bD.refl _ _) (Fz.refl _) (λ_ m=>nomatch m) S .nil
theorem rJ(h:PE X e (tE X.K f))(hr:PA X es (An X.K g))(hs:bR (e::es) X.env=(aM,eval e X.env)::bR es X.env:=by rfl):PA X (e::es) (An X.K (mU f g)):=(rG h hr hs).weak λσ H Q aY=>by
 obtain⟨Z,Θ,ao,C,xs,aV,C',S,hf,q⟩:=aY
 unfold mU at hf;split at hf
 .rename_i r e1 C1 h1;split at hf
  .rename_i ys e2 C2 h2;cases hf
   refine⟨Z,Θ,ao,C,r,e1,C1,S,h1,λv H1 k1 f1 R1=>?_⟩
   have plain:∀{x:Vl},Sm X.K Z Θ e1 C1 σ H1->ym X.K (er (bB Z Θ e1 σ) H1) Θ x v->r=x->An X.K g σ H1 λxs H2=>Q (v::xs) H2:=λ{x} S1 a1 ex=>by
    subst ex
    refine⟨Z,Θ,e1,C1,ys,aV,C',S1,h2,λvs as H2 k2 f2 n2 S2 a2=>q _ as H2 (k1.trans k2) (f1.trans f2) (λa m=>k1.none (n2 a m)) S2 (.cons (a1.same (nD k2 S1.uc λa m=>?_)) a2)⟩
    rcases cY.mp m with m|m
    .rcases cY.mp m with m|m
     .exact .inr (n2 a m)
     .exact .inl (fM _ m)
    .exact .inl (f2.sub (Z:=Z) a (eF _ m))
   cases r with
   |im d=>exact plain (x:=.im d) R1.1 R1.2 rfl
   |ce n=>exact plain (x:=.ce n) R1.1 R1.2 rfl
   |sc ns=>exact plain (x:=.sc ns) R1.1 R1.2 rfl
   |ks ns=>exact plain (x:=.ks ns) R1.1 R1.2 rfl
   |tp=>exact R1.elim
   |ow d=>
    obtain⟨a,rfl,hn,S1,r1⟩:=R1
    refine⟨a::Z,Θ,e1,C1,ys,aV,C',S1,h2,λvs as H2 k2 f2 n2 S2 a2=>?_⟩
    have ez:as++a::Z=(as++[a])++Z:=by rw[kE];rfl
    rw[ez] at S2 a2;have na:a∉Θ:=λm=>(S1.dZ.2.2.2 a cX) m
    refine q _ (as++[a]) H2 (k1.trans k2) (f1.trans f2) (λb m=>?_) S2 (.own (r1.same (nD k2 S1.uc λb m=>?_) λo ho=>k2.keep _ _ ho na) a2)
    .rcases cY.mp m with m|m
     .exact k1.none (n2 b m)
     .rw[gk.mp m];exact hn
    .rcases cY.mp m with m|m
     .rcases cY.mp m with m|m
      .rcases cY.mp m with m|m
       .exact .inr (n2 b m)
       .rw[gk.mp m];exact .inl cX
      .exact .inl (fM _ (dM _ m))
     .exact .inl (f2.sub (Z:=a::Z) b (eF _ m))
  .cases hf
 .cases hf
noncomputable def setM {α:Type}:List Nat->List α->List (Option α)->List (Option α)
 |i::is,x::xs,e=>setM is xs (e.set i (aa x))
 |_,_,e=>e
theorem V2{K:aZ}{H:Hp}{E:Hp}:∀{as:List aC}{xs:List Vl}{vs:List V},tW K E H Θ as xs vs->∀{is:List Nat}{ao:En}{σ:St},is.length=xs.length->cH E (er (bB (as++Z) Θ ao σ) H)->Sm K (as++Z) Θ ao C σ H->
  Sm K Z Θ (setM is xs ao) C (setM is vs σ) H/\∀a∈bV (setM is xs ao) (setM is vs σ),a∈bV ao σ\/a∈as:=by
 intro as xs vs h;induction h with
 |nil=>
  intro is ao σ hl _ S;cases is with
  |nil=>exact⟨S,λa m=>.inl m⟩
  |cons _ _=>cases hl
 |@cons as x v xs vs a1 _ ih=>
  intro is ao σ hl sm S;cases is with
  |nil=>cases hl
  |cons i is=>
   have hx:∀d,x≠.ow d:=λd z=>by subst z;exact a1
   have sl:Gb K (er (bB (as++Z) Θ ao σ) H) H Θ x v:=by
    have a2:=a1.same sm;cases x with
    |im d=>exact a2
    |ow d=>exact absurd rfl (hx d)
    |ce n=>exact a2
    |sc ns=>exact a2
    |ks ns=>exact a2
    |tp=>exact a2
   have S1:Sm K (as++Z) Θ (ao.set i (aa x)) C (σ.set i (aa v)) H:=S.wR hx sl;have o1:∀b∈bV (ao.set i (aa x)) (σ.set i (aa v)),b∈bV ao σ:=λb m=>by
    rcases uC m with m|⟨⟨d,z⟩,_⟩
    .exact m
    .exact absurd z (hx d)
   obtain⟨S2,o2⟩:=ih (is:=is) (by simpa using hl) (sm.trans (aeS o1)) S1
   refine⟨S2,λb m=>?_⟩
   rcases o2 b m with m|m
   .exact .inl (o1 b m)
   .exact .inr m
 |@own as a d xs vs r _ ih=>
  intro is ao σ hl sm S;cases is with
  |nil=>cases hl
  |cons i is=>
   have pm:((as++[a])++Z).Perm (a::(as++Z)):=by
    rw[kE];exact List.perm_middle
   have S0:=S.perm pm;have ee:er (bB ((as++[a])++Z) Θ ao σ) H=er (bB (a::(as++Z)) Θ ao σ) H:=uI λb=>by rw[gO,gO,pm.mem_iff]
   rw[ee] at sm;have S1:Sm K (as++Z) Θ (ao.set i (aa (.ow d))) C (σ.set i (aa (.ref a))) H:=S0.afS (r.same sm λ_ h=>h);have o1:∀b∈bV (ao.set i (aa (.ow d))) (σ.set i (aa (.ref a))),b∈bV ao σ\/b=a:=λb m=>by
    rcases uC m with m|⟨_,z⟩
    .exact .inl m
    .cases z;exact .inr rfl
   obtain⟨S2,o2⟩:=ih (is:=is) (by simpa using hl) (sm.trans (wz λb m=>by
    rcases cY.mp m with m|m
    .exact fM _ (dM _ m)
    .rcases cY.mp m with m|m
     .exact eF _ (fM _ m)
     .rcases o1 b m with m|rfl
      .exact eF _ (eF _ m)
      .exact fM _ cX)) S1
   refine⟨S2,λb m=>?_⟩
   rcases o2 b m with m|m
   .rcases o1 b m with m|rfl
    .exact .inl m
    .exact .inr (eF _ (gk.mpr rfl))
   .exact .inr (fM _ m)
theorem Np{K:aZ}{E H:Hp}{vs:List V}(h:tW K E H Θ as xs vs):vs.length=xs.length:=by
 induction h with
 |nil=>rfl
 |cons _ _ ih=>rw[dW,dW,ih]
 |own _ _ ih=>rw[dW,dW,ih]
def qm(is:List Nat)(g:FA):FS:=λao C=>match g ao C with
 |some (xs,e1,C1)=>if is.length=xs.length/\xs.length<=gB then aa (.nx,setM is xs e1,C1) else aj
 |none=>aj
def YW(is:List Nat):Dd:=match is with
 |[]=>X4
 |i::r=>Xq (uN i) (YW r)
theorem adT:∀{is:List Nat}{vs:List V}{σ:St}{H:Hp}{Q:St->Hp->Prop},is.length=vs.length->Q (setM is vs σ) H->YW is vs σ H Q
 |[],[],σ,H,Q,_,q=>⟨rfl,q⟩
 |i::is,v::vs,σ,H,Q,h,q=>⟨v,vs,rfl,adT (by simpa using h) q⟩
 |[],_::_,_,_,_,h,_=>by cases h
 |_::_,[],_,_,_,h,_=>by cases h
section
variable{pos:Pos}
theorem W4{kt k2 o7}(hc:X.calm=aq)(hN:X.N.Nodup)(hi:X.N[i]?=aa x)(hj:X.N[j]?=aa y)(hij:i≠j)
  (hx:X.env.scope.names.lookup x=aa .local)(hy:X.env.scope.names.lookup y=aa .local)(ha:PA X [a,b] (An X.K g))
  (hw:xO [.Tuple [.Name x px,.Name y py] kt pt] (.Tuple [a,b] k2 o7) X.env=pure (aa [x,y]))
  (hs:xN [.Tuple [.Name x px,.Name y py] kt pt] (.Tuple [a,b] k2 o7) pos.line X.env=pure aM:=by rfl):
  PS X (.Assign [.Tuple [.Name x px,.Name y py] kt pt] (.Tuple [a,b] k2 o7) pos) (tS X.K (qm [i,j] g)):=(aof hc hN hi hj hij hx hy ha hw hs).weak λD σ H aY=>by
 obtain⟨Z,Θ,ao,C,fl,aV,C',S,hf,q⟩:=aY
 unfold qm at hf;split at hf
 .rename_i xs e1 C1 h1;split at hf
  .rename_i hl;cases hf
   refine⟨Z,Θ,ao,C,xs,e1,C',S,h1,λvs as H1 k1 f1 n1 S1 a1=>?_⟩
   have l2:=Np a1
   obtain⟨S2,o2⟩:=V2 a1 hl.1 (cH.refl _) S1
   have e2:∃v w,vs=[v,w]:=by
    have:vs.length=2:=by rw[l2,<-hl.1];rfl
    match vs,this with
    |[v,w],_=>exact⟨v,w,rfl⟩
   obtain⟨v,w,rfl⟩:=e2
   refine⟨v,w,rfl,q Θ _ H1 ⟨lg.refl _ _,uD k1,λb m=>?_,S2⟩⟩
   rcases o2 b m with m|m
   .exact .inl (f1.own.subset m)
   .exact .inr (n1 b m)
  .cases hf
 .cases hf
theorem adU{es:List Expr}{g:FA}{n:Nat}{x1 pt}(ha:PA X es (An X.K g))(hg:PG X tg (X5 X.K n (YW is)))(hn:n=is.length:=by rfl)
  (hs:xN [tg] (.Tuple es x1 pt) pos.line X.env=pure aM:=by rfl)(hw:xO [tg] (.Tuple es x1 pt) X.env=pure aj:=by rfl)(h1:(sU [tg] X.env).map (·.2)=[assign tg X.env]:=by rfl):
  PS X (.Assign [tg] (.Tuple es x1 pt) pos) (tS X.K (qm is g)):=(Iu (WW ha) hg hs hw h1).weak λD σ H aY=>by
 obtain⟨Z,Θ,ao,C,fl,aV,C',S,hf,q⟩:=aY
 unfold qm at hf;split at hf
 .rename_i xs e1 C1 h1;split at hf
  .rename_i hl;cases hf
   refine⟨Z,Θ,ao,C,xs,e1,C',S,h1,λvs as H1 k1 f1 n1 S1 a1=>⟨by rw[Np a1];exact vU hl.2,λp hp=>?_⟩⟩
   have l2:=Np a1
   refine⟨p,vs,rfl,cU.of eV,by rw[l2,hn,hl.1],adT (by rw[hl.1,l2]) ?_⟩
   have kp:bD Θ H1 (upd H1 p (.tup vs)):=bD.upd hp;have S1':=S1.Cy (cH.upd (o:=.tup vs) hp);have a1':tW X.K (er (bB (as++Z) Θ e1 σ) H1) (upd H1 p (.tup vs)) Θ as xs vs:=a1.heap λb o ho=>by rw[cP (pX ho hp)];exact ho
   obtain⟨S2,o2⟩:=V2 a1' hl.1 (nD kp S1.uc λb m=>.inl m) S1'
   refine q Θ _ _ ⟨lg.refl _ _,uD (k1.trans kp),λb m=>?_,S2⟩;rcases o2 b m with m|m
   .exact .inl (f1.own.subset m)
   .exact .inr (n1 b m)
  .cases hf
 .cases hf
end
theorem acN:∀{ao:En}{σ:St}{i:Nat}{d d':aD},ao[i]?=aa (aa (.ow d))->bV (ao.set i (aa (.ow d'))) σ=bV ao σ
 |[],σ,i,d,d',h=>by simp at h
 |x::e,[],i,d,d',h=>by cases i<;>rfl
 |x::e,v::s,0,d,d',h=>by
  simp at h;subst h;show own1 (aa (.ow d')) v++bV e s=own1 (aa (.ow d)) v++bV e s;rcases v with _|v
  .rfl
  .cases v<;>rfl
 |x::e,v::s,i+1,d,d',h=>by
  show own1 x v++bV (e.set i (aa (.ow d'))) s=own1 x v++bV e s;rw[acN (by simpa using h)]
section
variable{K:aZ}{ao:En}{C:Ce}{σ:St}{H:Hp}{a:aC}{i:Nat}{o:HO}
theorem Oz(h:a∈P):er P (upd H a o)=er P H:=by
 funext b;unfold er;by_cases hb:b=a
 .subst hb;rw[bG h,bG h]
 .rw[cP hb]
theorem Sm.write(S:Sm K Z Θ ao C σ H)(e1:ao[i]?=aa (aa (.ow d)))(e2:σ[i]?=aa (aa (.ref a)))(r:kY (er (bB Z Θ ao σ) H) (upd H a o) a d'):eE K Z Θ ao σ H Θ (ao.set i (aa (.ow d'))) C σ (upd H a o):=by
 have m:a∈bV ao σ:=nU.mpr ⟨i,d,e1,e2⟩;have no:=S.qe m;have eo:bV (ao.set i (aa (.ow d'))) σ=bV ao σ:=acN e1;have mp:a∈bB Z Θ ao σ:=eF _ (eF _ m);have ep:bB Z Θ (ao.set i (aa (.ow d'))) σ=bB Z Θ ao σ:=by show _++(_++_)=_;rw[eo]
 refine⟨lg.refl _ _,⟨λb u hb n=>?_,λb hb=>?_⟩,λb mb=>.inl (by rw[eo] at mb;exact mb),⟨by rw[Bc];exact S.len,by rw[ep];exact S.nd,λb mb=>?_,λj y ej=>?_,⟨S.cell.len,λn b ns h1 h2=>?_⟩⟩⟩
 .rw[cP (λz=>n (eF _ (by rw[z];exact m)))];exact hb
 .by_cases z:b=a
  .subst z;rw[eV];exact xx _
  .rw[cP z];exact hb
 .rw[cP (λz=>no.1 (by rw[<-z];exact mb))];exact S.dom b mb
 .rw[ep,Oz mp];rcases get_set ej with⟨rfl,ex,hl⟩|⟨n,ej⟩
  .cases ex
   exact⟨_,e2,a,rfl,r⟩
  .obtain⟨v,e3,r3⟩:=S.slot j y ej
   refine⟨v,e3,r3.same (cH.refl _) λd2 b ex ev u hu=>?_⟩
   subst ex ev;rw[cP]
   .exact hu
   .intro z;subst z;exact n (Ij S.dZ.2.2.1 ej e3 e1 e2)
 .rw[cP (λz=>no.2 (by rw[<-z];exact lY h1))];exact S.cell.at_ n b ns h1 h2
end
def wJ:Option oVl->Bool
 |some (some (.ow (.list _)))=>aq
 |_=>aM
def ou(i:Nat)(f:FE):FS:=λao C=>if wJ ao[i]? then match f ao C with
  |some (r,e1,C1)=>match still r,e1[i]? with
   |.im d,some (some (.ow (.list ds)))=>if ds.length<gB then aa (.nx,e1.set i (aa (.ow (.list (ds++[d])))),C1) else aj
   |_,_=>aj
  |none=>aj
 else aj
theorem alr(h:wJ x=aq):∃ds,x=aa (aa (.ow (.list ds))):=by
 unfold wJ at h;split at h
 .exact⟨_,rfl⟩
 .cases h
section
variable{X:Cx}{pos:Pos}
theorem Cg(ho:PE X o (qj i))(he:PE X e (tE X.K f))
  (hs0:sW (.Call (.Attribute o "append" apos) [e] [] cpos) aj pos.line X.env=pure aM:=by rfl)
  (hbase:RC o "append" X.env (eval o X.env)=eval o X.env:=by rfl)
  (hfew:((jA cpos (bR [e] X.env)).all (λx=>!x.1)&&(Uj cpos (R0 [] X.env)).all (λx=>x.1.isSome)
   &&decide (([e]:List Expr).length+([]:List BL).length+(if([]:List BL).isEmpty then 0 else 1)<30))=aq:=by rfl)
  (hline:(apos.endLine==cpos.line)=aq:=by rfl)(hs:bR [e] X.env=(aM,eval e X.env)::bR [] X.env:=by rfl)(hplain:(jA cpos (bR [] X.env)).any (·.1)=aM:=by rfl):
  PS X (.Expr (.Call (.Attribute o "append" apos) [e] [] cpos) pos) (tS X.K (ou i f)):=
 (adp (Xw ag8 ZR ag6 (Df.r Tq) ho (rG he wg hs) hbase hfew hline hs hplain) hs0).weak λD σ H aY=>by
  obtain⟨Z,Θ,ao,C,fl,aV,C',S,hf,q⟩:=aY
  unfold ou at hf;split at hf
  .rename_i h0
   obtain⟨ds0,h0⟩:=alr h0
   obtain⟨v0,YX,a,rfl,vs0,ha0,r0⟩:=S.slot i _ h0
   split at hf
   .rename_i r e1 C1 h1;split at hf
    .rename_i d ds hd hi;split at hf
     .rename_i hl;cases hf
      refine⟨_,YX,.inl ⟨rfl,vs0,cj.of ha0⟩,Z,Θ,ao,C,r,e1,C',S,h1,λv H1 k f R=>?_⟩
      obtain⟨S1,r1⟩:=R.yo hd
      obtain⟨v1,ev1,a1,ea1,vs,ha1,r2⟩:=S1.slot i _ hi
      subst ea1;rw[YX] at ev1;cases ev1
      refine⟨a,vs,v,rfl,rfl,ha1,by rw[jG r2,jQ];unfold gB at hl;lia,?_⟩
      have w:eE X.K Z Θ e1 σ H1 Θ (e1.set i (aa (.ow (.list (ds++[d]))))) C' σ (upd H1 a (.lst (vs++[v]))):=S1.write hi YX ⟨_,eV,BR r2 ⟨v,[],rfl,r1,rfl⟩⟩;exact q Θ σ _ ((eE.o9 k f S1).trans w)
     .cases hf
    .cases hf
   .cases hf
  .cases hf
def pL{κ:Type}[DecidableEq κ](f:aD->Option κ)(k:κ)(dk d:aD)(aA:List (aD×aD)):List (aD×aD):=
 if(aA.any λp=>decide (f p.1=aa k))=aq then aA.map (λp=>if f p.1=aa k then(p.1,d) else p) else aA++[(dk,d)]
def putD(aA:List (aD×aD))(dk d:aD):Option (List (aD×aD)):=match fW dk with
 |some k=>if(dh fW aA).isSome then aa (pL fW k dk d aA) else aj
 |none=>match jC dk with
  |some ks=>if(dh jC aA).isSome then aa (pL jC ks dk d aA) else aj
  |none=>aj
theorem adV[DecidableEq κ]:∀{aA:List (aD×aD)}{ks:List κ}{vs:List V},dh f aA=aa ks->gA E aA vs->(aA.any λp=>decide (f p.1=aa k))=((ks.zip vs).any λkv=>decide (kv.1=k))
 |[],ks,vs,h,r=>by
  cases h
  cases(show vs=[] from r)
  rfl
 |(p,d)::aA,ks,vs,h,r=>by
  unfold dh at h;split at h
  .rename_i k' t h1 h2;cases h
   obtain⟨v,w,rfl,q,s⟩:=r
   show(decide (f p=aa k)||_)=(decide (k'=k)||_)
   rw[adV h2 s,h1];congr 1;rw[uh,decide_eq_true_iff,decide_eq_true_iff]
   exact⟨λe=>jy e,λe=>by rw[e]⟩
  .cases h
theorem adW[DecidableEq κ](hv:RZ E d v):∀{aA:List (aD×aD)}{ks:List κ}{vs:List V},dh f aA=aa ks->gA E aA vs->
  ∃vs',dh f (aA.map λp=>if f p.1=aa k then(p.1,d) else p)=aa ks/\gA E (aA.map λp=>if f p.1=aa k then(p.1,d) else p) vs'/\ks.zip vs'=(ks.zip vs).map λkv=>if kv.1=k then(kv.1,v) else kv
 |[],ks,vs,h,r=>by
  cases h
  exact⟨[],rfl,rfl,rfl⟩
 |(p,e)::aA,ks,vs,h,r=>by
  unfold dh at h;split at h
  .rename_i k' t h1 h2;cases h
   obtain⟨u,w,rfl,q,s⟩:=r
   obtain⟨vs',g1,g2,g3⟩:=adW (k:=k) hv h2 s
   have h1':f p=aa k':=h1;by_cases ek:k'=k
   .subst ek
    refine⟨v::vs',?_,?_,?_⟩
    .rw[dN];show dh f ((if f p=aa k' then(p,d) else(p,e))::_)=_;rw[bG h1'];unfold dh;rw[g1];simp only[h1']
    .rw[dN];show gA E ((if f p=aa k' then(p,d) else(p,e))::_) _;rw[bG h1']
     exact⟨v,vs',rfl,hv,g2⟩
    .show(k',v)::t.zip vs'=(if k'=k' then(k',v) else(k',u))::_
     rw[bG rfl,g3];rfl
   .have ne:¬f p=aa k:=λz=>ek (jy (h1'.symm.trans z))
    refine⟨u::vs',?_,?_,?_⟩
    .rw[dN];show dh f ((if f p=aa k then(p,d) else(p,e))::_)=_;rw[bH ne];unfold dh;rw[g1];simp only[h1']
    .rw[dN];show gA E ((if f p=aa k then(p,d) else(p,e))::_) _;rw[bH ne]
     exact⟨u,vs',rfl,q,g2⟩
    .show(k',u)::t.zip vs'=(if k'=k then(k',v) else(k',u))::_
     rw[bH ek,g3];rfl
  .cases h
theorem acO{f:aD->Option κ}{k:κ}{E:Hp}{v:V}(hk:f dk=aa k)(hv:RZ E d v):∀{aA:List (aD×aD)}{ks:List κ}{vs:List V},dh f aA=aa ks->gA E aA vs->
  dh f (aA++[(dk,d)])=aa (ks++[k])/\gA E (aA++[(dk,d)]) (vs++[v])/\(ks++[k]).zip (vs++[v])=ks.zip vs++[(k,v)]
 |[],ks,vs,h,r=>by
  cases h
  cases(show vs=[] from r)
  refine⟨?_,⟨v,[],rfl,hv,rfl⟩,rfl⟩
  show dh f [(dk,d)]=_;unfold dh dh;simp only[hk];rfl
 |(p,e)::aA,ks,vs,h,r=>by
  unfold dh at h;split at h
  .rename_i k' t h1 h2;cases h
   obtain⟨u,w,rfl,q,s⟩:=r
   obtain⟨g1,g2,g3⟩:=acO hk hv h2 s
   refine⟨?_,⟨u,_,rfl,q,g2⟩,?_⟩
   .show dh f ((p,e)::(aA++[(dk,d)]))=_;unfold dh;rw[g1];simp only[show f p=aa k' from h1];rfl
   .show(k',u)::(t++[k]).zip (w++[v])=_
    rw[g3];rfl
  .cases h
theorem BV{κ:Type}[DecidableEq κ]{f:aD->Option κ}{k:κ}{E:Hp}{dk d:aD}{v:V}(hk:f dk=aa k)(hv:RZ E d v){aA:List (aD×aD)}{ks:List κ}{vs:List V}(h:dh f aA=aa ks)(r:gA E aA vs):
  ∃ks' vs',dh f (pL f k dk d aA)=aa ks'/\gA E (pL f k dk d aA) vs'/\ks'.zip vs'=putK (ks.zip vs) k v:=by
 unfold pL putK;rw[adV h r];split
 .obtain⟨vs',g1,g2,g3⟩:=adW (k:=k) hv h r
  exact⟨ks,vs',g1,g2,g3⟩
 .obtain⟨g1,g2,g3⟩:=acO hk hv h r
  exact⟨_,_,g1,g2,g3⟩
theorem set_dict(hu:X.A.units+1<iM):yz X (λo i v H Q=>∃a H',o=.ref a/\qN H a i v H'/\∀e,Q (H' e)):=by
 intro au s σ H o i v ov iv u Q I ro ri rv h
 obtain⟨a,H',rfl,g,q⟩:=h
 cases ro;exact abO hu I g ri rv λe s' I'=>⟨H' e,I',q e⟩
theorem akn(hu:X.A.units+1<iM):yz X (λo i v H Q=>∃(a b:aC)(ks:List Key),o=.ref a/\(∃ep,H a=aa (.dK [] ep))/\i=.ref b/\H b=aa (.tup (ks.map kV))/\∀e,Q (upd H a (.dT [(ks,v)] e))):=by
 intro au s σ H o i v ov iv u Q I ro ri rv h
 obtain⟨a,b,ks,rfl,⟨ep,ha⟩,rfl,hb,q⟩:=h
 cases ro;have hb':(upd H a (.dT [] ep)) b=aa (.tup (ks.map kV)):=by rw[cP (Xp hb ha (λz=>nomatch z))];exact hb
 refine abO hu (I.Qx ha) (qN.t (aA:=[]) (k:=ks) (v:=v) eV hb' (by rw[jQ];decide)) ri rv λe s' I'=>⟨_,I',?_⟩
 show Q (upd (upd H a (.dT [] ep)) a _);rw[adl];exact q e
theorem yz.or(h:yz X t)(h':yz X t'):yz X (λo i v H Q=>t o i v H Q\/t' o i v H Q):=by
 intro au s σ H o i v ov iv u Q I ro ri rv q;rcases q with q|q
 .exact h au s σ H o i v ov iv u Q I ro ri rv q
 .exact h' au s σ H o i v ov iv u Q I ro ri rv q
theorem V3(hu:X.A.units+1<iM):yz X (λo i v H Q=>(Xv o i v H Q\/∃a H',o=.ref a/\qN H a i v H'/\∀e,Q (H' e))\/∃(a b:aC)(ks:List Key),o=.ref a/\(∃ep,H a=aa (.dK [] ep))/\i=.ref b/\H b=aa (.tup (ks.map kV))/\∀e,Q (upd H a (.dT [(ks,v)] e))):=
 (set_list.or (set_dict hu)).or (akn hu)
def CG:Option oVl->Bool
 |some (some _)=>aq
 |_=>aM
theorem am4(h:CG x=aq):∃y,x=aa (aa y):=by
 unfold CG at h;split at h
 .exact⟨_,rfl⟩
 .cases h
def Ge(i:Nat)(d dk:aD)(e:En)(C:Ce):oVl->Option (Fl×En×Ce)
 |some (.ow (.list ds))=>(intD dk).bind λz=>(pN ds.length z).bind λj=>aa (.nx,e.set i (aa (.ow (.list (ds.set j d)))),C)
 |some (.ow (.dict aA))=>(putD aA dk d).bind λkvs'=>bif decide (aA.length<gB) then aa (.nx,e.set i (aa (.ow (.dict kvs'))),C) else aj
 |some (.ce n)=>(intD dk).bind λz=>(intD d).bind λy=>(C[n]?).bind λns=>(pN ns.length z).bind λj=>aa (.nx,e,C.set n (ns.set j y))
 |_=>aj
def CV(i:Nat)(fk:FB)(fe:FE):FS:=λao C=>(fe ao C).bind λp=>(vg (still p.1)).bind λd=>(fk p.2.1 p.2.2).bind λk=>bif CG p.2.1[i]? then(k.2.1[i]?).bind (Ge i d k.1 k.2.1 k.2.2) else aj
def zR(o i v:V)(H:Hp)(Q:Hp->Prop):Prop:=(Xv o i v H Q\/∃a H',o=.ref a/\qN H a i v H'/\∀e,Q (H' e))\/∃(a b:aC)(ks:List Key),o=.ref a/\(∃ep,H a=aa (.dK [] ep))/\i=.ref b/\H b=aa (.tup (ks.map kV))/\∀e,Q (upd H a (.dT [(ks,v)] e))
section
variable{K:aZ}{e2:En}{C2:Ce}{σ:St}{H2:Hp}{i:Nat}{d dk:aD}{v w:V}{a:aC}{R:Hp->Prop}
theorem als(S2:Sm K Z Θ e2 C2 σ H2)(eu:σ[i]?=aa (aa (.ref a)))(hi:e2[i]?=aa (aa (.ow (.list ds))))(rt:kY (er (bB Z Θ e2 σ) H2) H2 a (.list ds))(r2:RZ (er (bB Z Θ e2 σ) H2) d v)(b2:gK Z Θ e2 σ H2 dk w)(hf:Ge i d dk e2 C2 (aa (.ow (.list ds)))=aa p):
  p.1=.nx/\((∀Hx,eE K Z Θ e2 σ H2 Θ p.2.1 p.2.2 σ Hx->R Hx)->zR (.ref a) w v H2 R):=by
 obtain⟨z,hz,hf⟩:=fZ hf
 obtain⟨j,hj,hf⟩:=fZ hf
 cases hf;have hz:=VN hz;subst hz
 obtain⟨vs,ha,r3⟩:=rt
 have b2:w=.int z:=b2;subst b2
 exact⟨rfl,λq=>.inl (.inl ⟨a,vs,z,j,rfl,rfl,ha,by rw[jG r3];exact hj,q _ (S2.write hi eu ⟨_,eV,adO r2 j r3⟩)⟩)⟩
theorem Nq(aA:List (aD×aD)):pL jC Gu dk d aA≠[]:=λz=>by
 unfold pL at z;split at z
 .rename_i hz;cases aA with
  |nil=>cases hz
  |cons _ _=>cases z
 .cases aA<;>cases z
theorem alu{aA:List (aD×aD)}(S2:Sm K Z Θ e2 C2 σ H2)(eu:σ[i]?=aa (aa (.ref a)))(hi:e2[i]?=aa (aa (.ow (.dict aA))))(rt:kY (er (bB Z Θ e2 σ) H2) H2 a (.dict aA))(r2:RZ (er (bB Z Θ e2 σ) H2) d v)(b2:gK Z Θ e2 σ H2 dk w)(hf:Ge i d dk e2 C2 (aa (.ow (.dict aA)))=aa p):
  p.1=.nx/\((∀Hx,eE K Z Θ e2 σ H2 Θ p.2.1 p.2.2 σ Hx->R Hx)->zR (.ref a) w v H2 R):=by
 refine hide λGG gg=>?_
 obtain⟨kvs',hp,hf⟩:=fZ hf
 cases hl:decide (aA.length<gB) with
 |false=>rw[hl] at hf;cases hf
 |true=>
 rw[hl] at hf;cases hf;have hl:=of_decide_eq_true hl;have hl':∀{κ:Type}(ks:List κ)(vs:List V),ks.length=aA.length->(ks.zip vs).length<cJ:=λks vs e=>by
  rw[Be,jQ,e];unfold gB at hl;lia
 obtain⟨vs,da,r3⟩:=rt
 unfold putD at hp;split at hp
 .rename_i k hk;split at hp
  case isFalse=>cases hp
  rename_i hs';cases hp;have wk:w=kV k:=by
   cases dk<;>first|(cases hk;exact b2)|cases hk
  rcases da with⟨ks,g1,ep,ha⟩|⟨ks,⟨ne,g2⟩,ha⟩
  .obtain⟨ks',vs',g3,g4,g5⟩:=BV hk r2 g1 r3
   subst wk;exact gg ⟨rfl,λq=>.inl (.inr ⟨a,_,rfl,qN.k (k:=k) (v:=v) ha (hl' ks vs (uz g1)),λe=>q _ (S2.write hi eu ⟨vs',.inl ⟨ks',g3,e,by rw[g5];exact eV⟩,g4⟩)⟩)⟩
  .obtain⟨Yh,g1⟩:=xg.mp hs'
   exact absurd (vV g1 g2) ne
 .split at hp
  case h_2=>cases hp
  rename_i Gu hks;split at hp
  case isFalse=>cases hp
  rename_i hs';cases hp
  obtain⟨b,hb,rfl⟩:∃b,H2 b=aa (.tup (Gu.map kV))/\w=.ref b:=by
   cases dk<;>first|cases hks|skip
   obtain⟨b,ws,rfl,hb,rr⟩:=b2.tup
   rw[zg hks rr] at hb
   exact⟨b,hb,rfl⟩
  rcases da with⟨ks,g1,ha⟩|⟨ks,⟨ne,g1⟩,ep,ha⟩
  .obtain⟨Yh,g2⟩:=xg.mp hs'
   have e0:=vV g1 g2;subst e0;cases g1;have e0:vs=[]:=r3;subst e0
   obtain⟨ks',vs',g3,g4,g5⟩:=BV (aA:=[]) (vs:=[]) (ks:=[]) hks r2 rfl rfl
   exact gg ⟨rfl,λq=>.inr ⟨a,b,Gu,rfl,ha,rfl,hb,λe=>q _ (S2.write hi eu ⟨vs',.inr ⟨ks',⟨Nq [],g3⟩,e,by rw[g5];exact eV⟩,g4⟩)⟩⟩
  .obtain⟨ks',vs',g3,g4,g5⟩:=BV hks r2 g1 r3
   exact gg ⟨rfl,λq=>.inl (.inr ⟨a,_,rfl,qN.t ha hb (hl' ks vs (uz g1)),λe=>q _ (S2.write hi eu ⟨vs',.inr ⟨ks',⟨Nq aA,g3⟩,e,by rw[g5];exact eV⟩,g4⟩)⟩)⟩
theorem alv(S2:Sm K Z Θ e2 C2 σ H2)(hth:Θ[n]?=aa a)(r2:RZ (er (bB Z Θ e2 σ) H2) d v)(b2:gK Z Θ e2 σ H2 dk w)(hf:Ge i d dk e2 C2 (aa (.ce n))=aa p):
  p.1=.nx/\((∀Hx,eE K Z Θ e2 σ H2 Θ p.2.1 p.2.2 σ Hx->R Hx)->zR (.ref a) w v H2 R):=by
 refine hide λGG gg=>?_
 obtain⟨z,hz,hf⟩:=fZ hf
 obtain⟨y,hy,hf⟩:=fZ hf
 obtain⟨ns,hns,hf⟩:=fZ hf
 obtain⟨j,hj,hf⟩:=fZ hf
 cases hf;have hz:=VN hz;have hy:=VN hy;subst hz hy;have b2:w=.int z:=b2;have ev:v=.int y:=r2;subst ev b2;have ha:=S2.cell.at_ n a ns hth hns;have am:a∈Θ:=lY hth;refine gg ⟨rfl,λq=>.inl (.inl ⟨a,_,z,j,rfl,rfl,ha,by rw[bJ];exact hj,q _ ?_⟩)⟩;have kc:bD Θ H2 (upd H2 a (.lst ((ns.map V.int).set j (.int y)))):=⟨λb o hb nb=>by rw[cP (λzz=>nb (by rw[zz];exact am))];exact hb,λb hb=>by
  by_cases zz:b=a
  .subst zz;rw[eV];exact xx _
  .rw[cP zz];exact hb⟩
 refine eE.o9 kc (Fz.refl _) (S2.go kc ⟨by rw[Bc];exact S2.cell.len,λm b ms h5 h6=>?_⟩);rcases get_set h6 with⟨rfl,e6,_⟩|⟨nm,h6⟩
 .rw[hth] at h5;cases h5;cases e6;rw[eV,List.map_set]
 .rw[cP]
  .exact S2.cell.at_ m b ms h5 h6
  .intro zz;subst zz
   obtain⟨l1,l1'⟩:=jO.mp h5
   obtain⟨l2,l2'⟩:=jO.mp hth
   rcases Nat.lt_trichotomy m n with hlt|heq|hgt
   .exact Av.mp S2.dZ.2.1 m n l1 l2 hlt (l1'.trans l2'.symm)
   .exact nm heq
   .exact Av.mp S2.dZ.2.1 n m l2 l1 hgt (l2'.trans l1'.symm)
theorem am5(S2:Sm K Z Θ e2 C2 σ H2)(eu:σ[i]?=aa (aa u))(hi:e2[i]?=aa s)(r2:RZ (er (bB Z Θ e2 σ) H2) d v)(b2:gK Z Θ e2 σ H2 dk w)(hf:Ge i d dk e2 C2 s=aa p):
  p.1=.nx/\((∀Hx,eE K Z Θ e2 σ H2 Θ p.2.1 p.2.2 σ Hx->R Hx)->zR u w v H2 R):=by
 cases s with
 |none=>cases hf
 |some s=>
 obtain⟨u',eu',sl⟩:=S2.slot i _ hi
 rw[eu] at eu';cases eu';cases s with
 |im _=>cases hf
 |sc _=>cases hf
 |ks _=>cases hf
 |tp=>cases hf
 |ce n=>
  obtain⟨a,rfl,hth⟩:=sl
  exact alv S2 hth r2 b2 hf
 |ow x=>
  obtain⟨a,rfl,rt⟩:=sl
  cases x<;>first|exact als S2 eu hi rt r2 b2 hf|exact alu S2 eu hi rt r2 b2 hf|cases hf
end
theorem W5(hu:X.A.units+1<iM)(ho:PE X o (qj i))(hk:PE X k (eX X.K fk))(he:PE X e (tE X.K fe))
  (ha:∀v,assign (.Subscript o k p) X.env v=(do
   let ov <-nA [v] (eval o X.env)
   let iv <-nA [v,ov] (eval k X.env)
   tD p
   nA [v,ov,iv] (Ie ov iv v)
   release [v,ov,iv] []):=by intro _;rfl)
  (hs:xN [.Subscript o k p] e pos.line X.env=pure aM:=by rfl)(hw:xO [.Subscript o k p] e X.env=pure aj:=by rfl)(h1:(sU [.Subscript o k p] X.env).map (·.2)=[assign (.Subscript o k p) X.env]:=by rfl):
  PS X (.Assign [.Subscript o k p] e pos) (tS X.K (CV i fk fe)):=(Iu he (WQ (t:=zR) ho hk (V3 hu) ha) hs hw h1).weak λD σ H aY=>by
 obtain⟨Z,Θ,ao,C,fl,aV,C',S,hf,q⟩:=aY
 obtain⟨p,h1,hf⟩:=fZ hf
 obtain⟨d,hd,hf⟩:=fZ hf
 obtain⟨kp,h2,hf⟩:=fZ hf
 cases h3:CG p.2.1[i]? with
 |false=>rw[h3] at hf;cases hf
 |true=>
 rw[h3] at hf
 obtain⟨s,hi,hf⟩:=fZ hf
 obtain⟨y3,h3⟩:=am4 h3
 refine⟨Z,Θ,ao,C,p.1,p.2.1,p.2.2,S,h1,λv H1 k1 f1 R1=>?_⟩
 obtain⟨S1,r1⟩:=R1.yo (IV hd)
 obtain⟨u,eu,_⟩:=S1.slot i _ h3
 refine⟨u,eu,Z,Θ,p.2.1,p.2.2,kp.1,kp.2.1,kp.2.2,S1,h2,λw H2 k2 f2 S2 b2=>?_⟩
 obtain⟨e0,go⟩:=am5 (R:=λHx=>D.nx σ Hx) S2 eu hi (r1.same (Xz S1 k2 f2)) b2 hf
 have e0:fl=.nx:=e0;subst e0;exact go λHx st=>q Θ σ _ ((eE.o9 (k1.trans k2) (f1.trans f2) S2).trans st)
end
noncomputable def intsOf:List aD->Option (List Int)
 |[]=>aa []
 |.int i::r=>match intsOf r with
  |some t=>aa (i::t)
  |none=>aj
 |_=>aj
theorem HB:∀{ds:List aD}{ns:List Int}{vs:List V},intsOf ds=aa ns->cu E ds vs->vs=ns.map V.int
 |[],ns,vs,h,r=>by cases h;exact r
 |.int i::ds,ns,vs,h,r=>by
  unfold intsOf at h;split at h
  .rename_i t ht;cases h
   obtain⟨u,w,rfl,q,s⟩:=r
   rw[HB ht s];have:u=.int i:=q;rw[this];rfl
  .cases h
 |.none::_,_,_,h,_=>by cases h
 |.bool _::_,_,_,h,_=>by cases h
 |.str _::_,_,_,h,_=>by cases h
 |.list _::_,_,_,h,_=>by cases h
 |.tuple _::_,_,_,h,_=>by cases h
 |.dict _::_,_,_,h,_=>by cases h
def Jz(i:Nat)(f:FE):FS:=λao C=>match f ao C with
 |some (.ow (.list ds),e1,C1)=>match intsOf ds with
  |some ns=>aa (.nx,e1.set i (aa (.ce C1.length)),C1++[ns])
  |none=>aj
 |_=>aj
section
variable{X:Cx}{pos:Pos}
theorem Sm.aoR{K:aZ}{e1:En}{C1:Ce}{σ:St}{H1:Hp}{a:aC}(S1:Sm K (a::Z) Θ e1 C1 σ H1)(ha:H1 a=aa (.lst (ns.map V.int))):Sm K Z (Θ++[a]) e1 (C1++[ns]) σ H1:=by
 have dZ:=S1.dZ;have J0:=ie.mp dZ.1;have cl:=S1.cell.len;have c':qJ (Θ++[a]) (C1++[ns]) H1:=by
  refine⟨by rw[fO,fO,cl];rfl,λm b ms h5 h6=>?_⟩
  by_cases hm:m<Θ.length
  .rw[pB hm] at h5;rw[pB (by rw[cl];exact hm)] at h6;exact S1.cell.at_ m b ms h5 h6
  .rw[qx az] at h5;rw[qx az] at h6;rw[cl] at h6;cases hm0:m-Θ.length with
   |zero=>rw[hm0] at h5 h6;cases h5;cases h6;exact ha
   |succ j=>rw[hm0] at h5;simp at h5
 have mm:∀b,b∈bB Z (Θ++[a]) e1 σ↔b∈bB (a::Z) Θ e1 σ:=λb=>by
  rw[gO,gO,cY,gk,bW];constructor
  .rintro(h|(h|h)|h)
   .exact .inl (.inr h)
   .exact .inr (.inl h)
   .exact .inl (.inl h)
   .exact .inr (.inr h)
  .rintro((h|h)|h|h)
   .exact .inr (.inl (.inr h))
   .exact .inl h
   .exact .inr (.inl (.inl h))
   .exact .inr (.inr h)
 refine⟨S1.len,Dh J0.2 ?_ dZ.2.2.1 (λb m=>?_) λb m=>?_,λb m=>S1.dom b (dM _ m),λj x e=>?_,c'⟩
 .rw[jF]
  exact⟨dZ.2.1,ie.mpr ⟨bI,lO⟩,λb m c m' e=>by
   rw[gk] at m';subst e m';exact dZ.2.2.2 b cX m⟩
 .intro m';rcases cY.mp m' with m'|m'
  .exact dZ.2.2.2 b (dM _ m) m'
  .rw[gk.mp m'] at m;exact J0.1 m
 .obtain⟨p1,p2⟩:=S1.qe m
  refine⟨λz=>p1 (dM _ z),λm'=>?_⟩
  rcases cY.mp m' with m'|m'
  .exact p2 m'
  .rw[gk.mp m'] at p1;exact p1 cX
 .obtain⟨v,e3,r3⟩:=S1.slot j x e
  rw[uI mm]
  refine⟨v,e3,?_⟩
  cases x with
  |im d=>exact r3
  |ow d=>exact r3
  |ce n=>
   obtain⟨b,e5,e6⟩:=r3
   exact⟨b,e5,by rw[pB (jO.mp e6).1];exact e6⟩
  |sc ns=>exact r3
  |ks ns=>exact r3
  |tp=>exact r3
theorem alw{K:aZ}:∀D σ H,tS K (Jz i f) D σ H->CP (tE K f) (uN i) D σ H:=by
 rintro D σ H ⟨Z,Θ,ao,C,fl,aV,C',S,hf,q⟩;unfold Jz at hf;split at hf
 .rename_i ds e1 C1 h1;split at hf
  .rename_i ns hns;cases hf
   refine⟨Z,Θ,ao,C,_,e1,C1,S,h1,λv H1 k f R=>?_⟩
   obtain⟨a,rfl,hn,S1,vs,ha,r⟩:=R
   have ev:=HB hns r;subst ev;have cl:=S1.cell.len;have o1:∀b∈bV (e1.set i (aa (.ce C1.length))) (σ.set i (aa (.ref a))),b∈bV e1 σ:=λb m=>by
    rcases uC m with m|⟨⟨_,z⟩,_⟩
    .exact m
    .cases z
   have S2:=S1.aoR ha;have S3:Sm K Z (Θ++[a]) (e1.set i (aa (.ce C1.length))) (C1++[ns]) (σ.set i (aa (.ref a))) H1:=
    S2.wR (λ_ z=>nomatch z) ⟨a,rfl,by rw[cl,qx (cz _),aaT];rfl⟩
   exact q (Θ++[a]) _ H1 ⟨⟨[a],rfl,λb m=>by rw[gk.mp m];exact hn⟩,uD k,λb m=>.inl (f.own.subset (o1 b m)),S3⟩
  .cases hf
 .cases hf
theorem aoS(hN:X.N.Nodup)(hi:X.N[i]?=aa x)(hx:Loc X.env.scope x)(he:PE X e (tE X.K f))(hs:sW e (aa (.Name x pos')) pos.line X.env=pure aM:=by rfl)(hf:X.fn x=aq\/X.env.scope.names.lookup x=aa .local:=by first|exact .inl rfl|exact .inr rfl|assumption):
  PS X (.Assign [.Name x pos'] e pos) (tS X.K (Jz i f)):=(Oj hN hi hx he hs hf).weak alw
def Ql(i:Nat)(f:FB):FS:=λao C=>match ao[i]? with
 |some (some (.im (.int x)))=>match f ao C with
  |some (.int y,_,C1)=>aa (.nx,ao.set i (aa (.im (.int (x+y)))),C1)
  |_=>aj
 |_=>aj
theorem aoT(hN:X.N.Nodup)(hi:X.N[i]?=aa x)(hx:Loc X.env.scope x)(he:PE X e (eX X.K f))(hf:X.fn x=aq\/X.env.scope.names.lookup x=aa .local:=by first|exact .inl rfl|exact .inr rfl|assumption):
  PS X (.AugAssign (.Name x pos') .Add e pos) (tS X.K (Ql i f)):=(aog hN hi hx he aoh hf).weak λD σ H aY=>by
 obtain⟨Z,Θ,ao,C,fl,aV,C',S,hf,q⟩:=aY
 unfold Ql at hf;split at hf
 .rename_i z h0;split at hf
  .rename_i y e1 C1 h1;cases hf
   obtain⟨v,ev,r⟩:=S.slot i _ h0
   refine⟨v,ev,Z,Θ,ao,C,_,e1,C',S,h1,λw H1 k f S1 b1=>⟨z,y,r,b1,?_⟩⟩
   have S2:=S.go k S1.cell;refine q Θ _ H1 ⟨lg.refl _ _,uD k,λa m=>?_,S2.wR (λ_ z=>nomatch z) (rfl:RZ _ (.int (z+y)) _)⟩;rcases uC m with m|⟨⟨_,z⟩,_⟩
   .exact .inl m
   .cases z
  .cases hf
 .cases hf
end
def j9(c:FT)(body:FS):Nat->FS
 |0=>λ_ _=>aj
 |n+1=>λao C=>match c ao C with
  |some (false,C1)=>aa (.nx,ao,C1)
  |some (true,C1)=>match body ao C1 with
   |some (.nx,e2,C2)=>j9 c body n e2 C2
   |some (.ct,e2,C2)=>j9 c body n e2 C2
   |some (.bk,e2,C2)=>aa (.nx,e2,C2)
   |some (.rt r,e2,C2)=>aa (.rt r,e2,C2)
   |none=>aj
  |none=>aj
def zT:Nat:=100000
def ud(c:FT)(body:FS):FS:=j9 c body zT
theorem ajC{K:aZ}{c:FT}:∀D σ H,tS K (j9 c body n) D σ H->aey (gM K c) (tS K body) D σ H:=by
 rintro D σ H ⟨Z,Θ,ao,C,fl,aV,C',S,hf,q⟩
 refine⟨λm σ1 H1=>∃Θ1 e1 C1,eE K Z Θ ao σ H Θ1 e1 C1 σ1 H1/\j9 c body m e1 C1=aa (fl,aV,C'),⟨n,Θ,ao,C,eE.same S,hf⟩,?_⟩
 rintro m σ1 H1 ⟨Θ1,e1,C1,p,hf⟩;cases m with
 |zero=>cases hf
 |succ m=>
  unfold j9 at hf;split at hf
  .rename_i C2 h1;cases hf
   exact⟨Z,Θ1,aV,C1,aM,C',p.sm,h1,λH2 k2 S2=>z9 (q Θ1 σ1 H2 (p.trans (eE.o9 k2 (Fz.refl _) S2)))⟩
  .rename_i C2 h1
   refine⟨Z,Θ1,e1,C1,aq,C2,p.sm,h1,λH2 k2 S2=>Aa ⟨λσ' H'=>∃Θ1 e1 C1,eE K Z Θ ao σ H Θ1 e1 C1 σ' H'/\j9 c body m e1 C1=aa (fl,aV,C'),λσ' H' h=>⟨m,KC m,h⟩,?_⟩⟩
   have p2:=p.trans (eE.o9 k2 (Fz.refl _) S2);split at hf
   .rename_i e3 C3 h2
    exact⟨Z,Θ1,e1,C2,.nx,e3,C3,S2,h2,λΘ3 σ3 H3 p3=>⟨Θ3,e3,C3,p2.trans p3,hf⟩⟩
   .rename_i e3 C3 h2
    exact⟨Z,Θ1,e1,C2,.ct,e3,C3,S2,h2,λΘ3 σ3 H3 p3=>⟨Θ3,e3,C3,p2.trans p3,hf⟩⟩
   .rename_i e3 C3 h2;cases hf
    exact⟨Z,Θ1,e1,C2,.bk,aV,C',S2,h2,λΘ3 σ3 H3 p3=>q Θ3 σ3 H3 (p2.trans p3)⟩
   .rename_i r e3 C3 h2;cases hf
    exact⟨Z,Θ1,e1,C2,.rt r,aV,C',S2,h2,λΘ3 v H3 p3=>q Θ3 v H3 (p2.ret p3)⟩
   .cases hf
  .cases hf
theorem HD(hp:Ma (model X.prog X.w) X.A X.env X.xe)(hc:PT X c (gM X.K t))(hb:je X body (tS X.K f)):PS X (.While c body [] pos) (tS X.K (ud t f)):=(akW hp hc hb).weak ajC
abbrev FI:=En->Ce->Option (List aD×En×Ce)
def yF(P T:List aC)(H:Hp)(J:It)(aK:List aD):Prop:=∀(i:Nat)(H2:Hp)(P2:List aC),cH (er P H) (er P2 H2)->cH (er T H) (er T H2)->(∀a∈P2,NT (H2 a))->
 (∀d,aK[i]?=aa d->J.go i H2/\∀x H3,J.JP i H2 x H3->cH H2 H3/\RZ (er P2 H3) d x)/\(i=aK.length->J.stop i H2)
inductive tI(K:aZ)(b:Bool)(f:FI)(σ:St)(H:Hp)(R:It->Hp->Prop):Prop
 |mk (Z Θ:List aC) (ao:En) (C:Ce) (aK:List aD) (aV:En) (C':Ce) (S:Sm K Z Θ ao C σ H) (hf:f ao C=aa (aK,aV,C')) (q:∀J H',bD Θ H H'->Fz ao aV->Sm K Z Θ aV C' σ H'->yF (bB Z Θ aV σ) (if b then Θ else bB Z Θ aV σ) H' J aK->R J H'):tI K b f σ H R
theorem PI.weak(h:PI X tg e t)(w:∀σ H Q,t' σ H Q->t σ H Q):PI X tg e t':=λau s σ H Q I q=>h au s σ H Q I (w σ H Q q)
theorem PI.or(h:PI X tg e t)(h':PI X tg e t'):PI X tg e (λσ H R=>t σ H R\/t' σ H R):=λau s σ H R I q=>q.elim (h au s σ H R I) (h' au s σ H R I)
section
variable{K:aZ}{H:Hp}{a:aC}{vs:List V}
theorem V4(ha:er T H a=aa (.lst vs))(r:cu (er P H) ds vs):yF P T H (Yw K a) ds:=λi H2 P2 s1 s2 n=>by
 have h2:cj K H2 a vs:=cj.of (jh (s2 _ _ ha))
 refine⟨λd hd=>?_,λhi=>⟨vs,h2,by rw[jG r,hi];exact cz _⟩⟩
 obtain⟨v,ev,rv⟩:=wu r hd
 refine⟨⟨vs,v,h2,ev⟩,λx H3 y=>?_⟩
 obtain⟨rfl,y⟩:=y
 have:=y vs h2;rw[ev] at this;cases this
 exact⟨cH.refl _,rv.same s1⟩
theorem W6(ha:er P H a=aa (.tup vs))(r:cu (er P H) ds vs):yF P T H (Yx K a) ds:=λi H2 P2 s1 s2 n=>by
 have h2:cU K H2 a vs:=cU.of (jh (s1 _ _ ha))
 refine⟨λd hd=>?_,λhi=>⟨vs,h2,by rw[jG r,hi];exact cz _⟩⟩
 obtain⟨v,ev,rv⟩:=wu r hd
 refine⟨⟨vs,v,h2,ev⟩,λx H3 y=>?_⟩
 obtain⟨rfl,y⟩:=y
 have:=y vs h2;rw[ev] at this;cases this
 exact⟨cH.refl _,rv.same s1⟩
def chars(z:Str):List aD:=z.cps.toList.map λc=>.str ⟨#[c]⟩
theorem aeT(z:Str):yF P T H (YJ z) (chars z):=λi H2 P2 s1 s2 n=>by
 refine⟨λd hd=>?_,λhi=>?_⟩
 .unfold chars at hd;rw[jw] at hd;cases hc:z.cps.toList[i]? with
  |none=>rw[hc] at hd;cases hd
  |some c=>
   rw[hc] at hd;cases hd;have hc':z.cps[i]?=aa c:=by rw[<-Kg];exact hc
   have hlt:i<z.cps.size:=by
    obtain⟨h,_⟩:=ag4.mp hc'
    exact h
   refine⟨hlt,λx H3 y=>?_⟩
   obtain⟨rfl,c',ec,rfl⟩:=y
   rw[hc'] at ec;cases ec
   exact⟨cH.refl _,rfl⟩
 .show z.cps.size<=i;rw[hi];unfold chars;rw[bJ,m9];exact cz _
def gf(lo:Int)(n:Nat):List aD:=(gG n).map λ(k:Nat)=>.int (lo+(k:Int))
theorem alx(lo:Int)(n:Nat):yF P T H (Qs lo n) (gf lo n):=λi H2 P2 s1 s2 nn=>by
 refine⟨λd hd=>?_,λhi=>?_⟩
 .unfold gf at hd;rw[jw] at hd;by_cases hlt:i<n
  .rw[ahv hlt] at hd;cases hd
   refine⟨hlt,λx H3 y=>?_⟩
   obtain⟨rfl,rfl⟩:=y
   exact⟨cH.refl _,rfl⟩
  .rw[Dr (by rw[pC];lia)] at hd;cases hd
 .show n<=i;rw[hi];unfold gf;rw[bJ,pC];exact cz _
end
def YZ:aD->Option (List aD)
 |.list ds=>aa ds
 |.tuple ds=>aa ds
 |.str z=>aa (chars z)
 |_=>aj
def iB(f:FB):FI:=λao C=>match f ao C with
 |some (d,e1,C1)=>match YZ d with
  |some aK=>aa (aK,e1,C1)
  |none=>aj
 |none=>aj
def iV(f:FE):FI:=λao C=>match f ao C with
 |some (r,e1,C1)=>match still r with
  |.im d=>match YZ d with
   |some aK=>aa (aK,e1,C1)
   |none=>aj
  |_=>aj
 |none=>aj
def jM(f:FB):FI:=λao C=>match f ao C with
 |some (.int j,_,C1)=>if -(2^62)<=j/\j<2^62 then aa (gf 0 j.toNat,ao,C1) else aj
 |_=>aj
section
variable{tg e:Expr}
theorem Ad(h:PE X e (eX X.K f))(hgo:∀i u,Bb tg i u=pure ():=by intro _ _;rfl):PI X tg e (tI X.K aq (iB f)):=(((Vv h).or (WR h)).or (aeE h hgo)).weak λσ H R aY=>by
 obtain⟨Z,Θ,ao,C,aK,aV,C',S,hf,q⟩:=aY
 unfold iB at hf;split at hf
 .rename_i d e1 C1 h1;split at hf
  .rename_i ys hi;cases hf;cases d<;>first|cases hi|skip
   .refine .inr ⟨Z,Θ,ao,C,_,aV,C',S,h1,λv H1 k f S1 b=>⟨_,b,q _ H1 k f S1 (aeT _)⟩⟩
   .refine .inl (.inl ⟨Z,Θ,ao,C,_,aV,C',S,h1,λv H1 k f S1 b=>?_⟩)
    obtain⟨a,vs,rfl,ha,r⟩:=b
    exact⟨a,rfl,⟨vs,cj.of (jh ha)⟩,q _ H1 k f S1 (V4 ha r)⟩
   .refine .inl (.inr ⟨Z,Θ,ao,C,_,aV,C',S,h1,λv H1 k f S1 b=>?_⟩)
    obtain⟨a,vs,rfl,ha,r⟩:=b
    exact⟨a,rfl,⟨vs,cU.of (jh ha)⟩,q _ H1 k f S1 (W6 ha r)⟩
  .cases hf
 .cases hf
theorem JB(h:PE X e (tE X.K f))(hgo:∀i u,Bb tg i u=pure ():=by intro _ _;rfl):PI X tg e (tI X.K aM (iV f)):=(((Vv h).or (WR h)).or (aeE h hgo)).weak λσ H R aY=>by
 obtain⟨Z,Θ,ao,C,aK,aV,C',S,hf,q⟩:=aY
 unfold iV at hf;split at hf
 .rename_i r e1 C1 h1;split at hf
  .rename_i d hd;split at hf
   .rename_i ys hi;cases hf;cases d<;>first|cases hi|skip
    .refine .inr ⟨Z,Θ,ao,C,_,aV,C',S,h1,λv H1 k f R=>?_⟩
     obtain⟨S1,b⟩:=R.yo hd
     exact⟨_,b,q _ H1 k f S1 (aeT _)⟩
    .refine .inl (.inl ⟨Z,Θ,ao,C,_,aV,C',S,h1,λv H1 k f R=>?_⟩)
     obtain⟨S1,a,vs,rfl,ha,r⟩:=R.yo hd
     exact⟨a,rfl,⟨vs,cj.of (jh ha)⟩,q _ H1 k f S1 (V4 ha r)⟩
    .refine .inl (.inr ⟨Z,Θ,ao,C,_,aV,C',S,h1,λv H1 k f R=>?_⟩)
     obtain⟨S1,a,vs,rfl,ha,r⟩:=R.yo hd
     exact⟨a,rfl,⟨vs,cU.of (jh ha)⟩,q _ H1 k f S1 (W6 ha r)⟩
   .cases hf
  .cases hf
 .cases hf
theorem vW(hg:Gl X "range")(hm:X.mg "range"=aj)(ha:PE X a (eX X.K f))(hs:bR [a] X.env=(aM,eval a X.env)::bR [] X.env:=by rfl)(hs':bR [a] X.env=[(aM,eval a X.env)]:=by rfl):PI X tg (.Call (.Name "range" p) [a] [] pos) (tI X.K b (jM f)):=
 (abG hg hm (dm ha dG hs) hs').weak λσ H R aY=>by
  obtain⟨Z,Θ,ao,C,aK,aV,C',S,hf,q⟩:=aY
  unfold jM at hf;split at hf
  .rename_i j e1 C1 h1;split at hf
   .rename_i hj;cases hf
    refine⟨Z,Θ,ao,C,[.int j],e1,C',S,by unfold cF cL;rw[h1],λvs H1 k f S1 b1=>?_⟩
    cases b1 with
    |cons b1 b2=>
     cases b2
     exact⟨j,by rw[show _=V.int j from b1],hj.1,hj.2,q _ H1 k (Fz.refl _) (S.go k S1.cell) (alx 0 j.toNat)⟩
   .cases hf
  .cases hf
end
def jY(g:FG)(body:FS):List aD->FS
 |[]=>λao C=>aa (.nx,ao,C)
 |d::r=>λao C=>match g d ao with
  |some e1=>match body e1 C with
   |some (.nx,e2,C2)=>jY g body r e2 C2
   |some (.ct,e2,C2)=>jY g body r e2 C2
   |some (.bk,e2,C2)=>aa (.nx,e2,C2)
   |some (.rt v,e2,C2)=>aa (.rt v,e2,C2)
   |none=>aj
  |none=>aj
def jJ(fi:FI)(g:FG)(body:FS):FS:=λao C=>match fi ao C with
 |some (aK,e1,C1)=>jY g body aK e1 C1
 |none=>aj
theorem eE.er{K:aZ}{C1:Ce}{σ σ1:St}{H H1:Hp}(p:eE K Z Θ ao σ H Θ1 e1 C1 σ1 H1):cH (er (bB Z Θ ao σ) H) (er (bB Z Θ1 e1 σ1) H1):=λb o h=>by
 unfold L2.er at h⊢;split at h
 .cases h
 .rename_i n;have hb:H b≠aj:=by rw[h];exact xx _
  rw[bH]
  .refine p.kp.keep b o h λm=>n ?_
   rcases cY.mp m with m|m
   .exact gO.mpr (.inr (.inl m))
   .exact gO.mpr (.inr (.inr m))
  .intro m;rcases gO.mp m with m|m|m
   .exact n (gO.mpr (.inl m))
   .obtain⟨Δ,e,hn⟩:=p.th.ex
    rw[e] at m;rcases cY.mp m with m|m
    .exact n (gO.mpr (.inr (.inl m)))
    .exact hb (hn b m)
   .rcases p.own b m with m|m
    .exact n (gO.mpr (.inr (.inr m)))
    .exact hb m
theorem am6(s:cH (er P H) (er P2 H2)):cH (er P H) (er P H2):=λb o h=>by
 have h2:=jh (s b o h);unfold er at h⊢;split at h
 .cases h
 .rename_i n;rw[bH n];exact h2
theorem aly{K:aZ}{g:TG}{fg:FG}(L:Gr K g fg):∀D σ H,tS K (jJ fi fg body) D σ H->X6 (tI K aM fi) g (tS K body) D σ H:=by
 rintro D σ H ⟨Z,Θ,ao,C,fl,aV,C',S,hf,q⟩;unfold jJ at hf;split at hf
 .rename_i aK e1 C1 h1
  refine⟨Z,Θ,ao,C,aK,e1,C1,S,h1,λJ H1 k1 f1 S1 it=>?_⟩
  have p1:=eE.o9 k1 f1 S1
  refine⟨λi m σ2 H2=>m=aK.length-i/\i<=aK.length/\∃Θ2 e2 C2,eE K Z Θ e1 σ H1 Θ2 e2 C2 σ2 H2/\jY fg body (aK.drop i) e2 C2=aa (fl,aV,C'),⟨aK.length,rfl,lC _,Θ,e1,C1,eE.same S1,hf⟩,?_⟩
  rintro i m σ2 H2 ⟨rfl,hi,Θ2,e2,C2,p2,hl⟩
  obtain⟨Y0,Y4⟩:=it i H2 (bB Z Θ2 e2 σ2) p2.er (am6 p2.er) p2.sm.yN
  cases hd:aK[i]? with
  |none=>
   have hi2:i=aK.length:=by
    have:=Q7.mp hd;lia
   rw[hi2,aac] at hl;cases hl;exact .inl ⟨Y4 hi2,q Θ2 σ2 H2 (p1.trans p2)⟩
  |some d=>
   have hlt:i<aK.length:=(jO.mp hd).1;have ed:aK.drop i=d::aK.drop (i+1):=by
    rw[Zo hlt]
    obtain⟨_,e⟩:=jO.mp hd
    rw[e]
   rw[ed] at hl;unfold jY at hl
   obtain⟨go,yl⟩:=Y0 d hd
   refine .inr ⟨go,λσ' H'=>∃Θ2 e2 C2,eE K Z Θ e1 σ H1 Θ2 e2 C2 σ' H'/\jY fg body (aK.drop (i+1)) e2 C2=aa (fl,aV,C'),λσ' H' h=>⟨aK.length-(i+1),az,rfl,hlt,h⟩,λx H3 y=>?_⟩
   obtain⟨s3,r3⟩:=yl x H3 y
   have S3:=p2.sm.Cy s3;have p3:=p2.trans (eE.o9 (bD.of s3) (Fz.refl _) S3);split at hl
   .rename_i e4 h4;refine L Z Θ2 e2 C2 σ2 H3 x d e4 S3 r3 h4 _ λσ4 S4 o4=>?_
    have p4:eE K Z Θ e1 σ H1 Θ2 e4 C2 σ4 H3:=p3.trans ⟨lg.refl _ _,bD.refl _ _,λa m=>.inl (o4 a m),S4⟩;split at hl
    .rename_i e5 C5 h5
     exact⟨Z,Θ2,e4,C2,.nx,e5,C5,S4,h5,λΘ5 σ5 H5 p5=>⟨Θ5,e5,C5,p4.trans p5,hl⟩⟩
    .rename_i e5 C5 h5
     exact⟨Z,Θ2,e4,C2,.ct,e5,C5,S4,h5,λΘ5 σ5 H5 p5=>⟨Θ5,e5,C5,p4.trans p5,hl⟩⟩
    .rename_i e5 C5 h5;cases hl
     exact⟨Z,Θ2,e4,C2,.bk,aV,C',S4,h5,λΘ5 σ5 H5 p5=>q Θ5 σ5 H5 (p1.trans (p4.trans p5))⟩
    .rename_i r e5 C5 h5;cases hl
     exact⟨Z,Θ2,e4,C2,.rt r,aV,C',S4,h5,λΘ5 v H5 p5=>q Θ5 v H5 (p1.ret (p4.ret p5))⟩
    .cases hl
   .cases hl
 .cases hf
theorem wF(hp:Ma (model X.prog X.w) X.A X.env X.xe)(hc:X.calm=aq)(hi:PI X tg iter (tI X.K aM fi))(hg:PG X tg g)(L:Gr X.K g fg)(hb:je X body (tS X.K f))
  (hs:∀x,vD iter X.env x=pure x:=by intro _;rfl):PS X (.For tg iter body [] pos) (tS X.K (jJ fi fg f)):=(aez hp hc hi hg hb hs).weak (aly L)
def Di:kh->aD->Option (List aD)
 |.one,d=>aa [d]
 |.many n,.tuple ds=>if ds.length=n then aa ds else aj
 |_,_=>aj
def frB(js:List Nat)(ao:En):En:=js.map λj=>((ao[j]?).join).map still
def eG(ds:List aD):En:=ds.map λd=>aa (.im d)
def lJ(T:kh)(ft:FT)(fe:FE)(fs:En):List aD->Ce->Option (List aD×Ce)
 |[],C=>aa ([],C)
 |d::r,C=>match Di T d with
  |some ts=>match ft (eG ts++fs) C with
   |some (false,C1)=>lJ T ft fe fs r C1
   |some (true,C1)=>match fe (eG ts++fs) C1 with
    |some (x,_,C2)=>match still x with
     |.im y=>match lJ T ft fe fs r C2 with
      |some (ys,C3)=>aa (y::ys,C3)
      |none=>aj
     |_=>aj
    |none=>aj
   |none=>aj
  |none=>aj
def jg(js:List Nat)(ao:En):En:=ao.mapIdx λi x=>if i∈js then x.map still else x
def gU(fi:FI)(T:kh)(ft:FT)(fe:FE)(js:List Nat):FE:=λao C=>match fi ao C with
 |some (aK,e1,C1)=>match lJ T ft fe (frB js e1) aK C1 with
  |some (ys,C2)=>if ys.length<=gB then aa (.ow (.list ys),if dY ys then e1 else jg js e1,C2) else aj
  |none=>aj
 |none=>aj
theorem afj:∀{a b:En},a.length=b.length->(∀(i:Nat)(x y:oVl),a[i]?=aa x->b[i]?=aa y->YS x y)->Fz a b
 |[],[],_,_=>trivial
 |x::r,y::t,hl,h=>⟨h 0 x y rfl rfl,afj (by simpa using hl) λi u v h1 h2=>h (i+1) u v (by simpa using h1) (by simpa using h2)⟩
 |[],_::_,hl,_=>by cases hl
 |_::_,[],hl,_=>by cases hl
theorem Fe(js:List Nat)(ao:En):Fz ao (jg js ao):=afj (by unfold jg;rw[List.length_mapIdx]) λi x y h1 h2=>by
 unfold jg at h2;rw[Ds,h1] at h2;have h2:(if i∈js then ajD still x else x)=y:=jy h2;rw[<-h2];split
 .cases x with
  |none=>exact .inl rfl
  |some x=>
   cases x with
   |ow d=>exact .inr ⟨d,rfl,rfl⟩
   |im d=>exact .inl rfl
   |ce n=>exact .inl rfl
   |sc ns=>exact .inl rfl
   |ks ns=>exact .inl rfl
   |tp=>exact .inl rfl
 .exact .inl rfl
theorem aeU{k:Nat}{x:Vl}(h:(frB js ao)[k]?=aa (aa x)):∃j:Nat,js[k]?=aa j/\(jg js ao)[j]?=aa (aa x)/\∀d,x≠.ow d:=by
 unfold frB at h;rw[jw] at h;cases hj:js[k]? with
 |none=>rw[hj] at h;cases h
 |some j=>
  rw[hj] at h;have h':((ao[j]?).join).map still=aa x:=jy h
  refine⟨j,rfl,?_,?_⟩
  .unfold jg;rw[Ds];cases hv:ao[j]? with
   |none=>rw[hv] at h';cases h'
   |some y=>
    rw[hv] at h';show aa (if j∈js then ajD still y else y)=_;rw[bG (lY hj)];exact congrArg aa h'
  .cases hv:(ao[j]?).join with
   |none=>rw[hv] at h';cases h'
   |some y=>
    rw[hv] at h';have e:still y=x:=jy h';rw[<-e];intro d z;cases y<;>cases z
theorem Ff:∀{ao:En}{σ:St},(∀(i:Nat)(d:aD),ao[i]?≠aa (aa (.ow d)))->bV ao σ=[]
 |[],σ,_=>by cases σ<;>rfl
 |_::_,[],_=>rfl
 |x::e,v::s,h=>by
  rw[bV,Ff (ao:=e) (σ:=s) λi d z=>h (i+1) d (by simpa using z)];have h0:=h 0;simp at h0;unfold own1;split
  .rename_i d a;exact absurd rfl (h0 d)
  .rfl
section
variable{K:aZ}{Z Θ:List aC}{ao:En}{C C2:Ce}{σ:St}{H H2:Hp}{D:aC}
abbrev mW(D:aC)(Z:List aC)(ao:En)(σ:St):List aC:=D::(Z++bV ao σ)
theorem qG{js:List Nat}{sB:St}(h:bV eB sB=[]):a∈bB (mW D Z ao σ) Θ eB sB↔a=D\/a∈bB Z Θ ao σ:=by
 rw[gO,gO,h,bW,cY];constructor
 .rintro((h|h|h)|h|h)
  .exact .inl h
  .exact .inr (.inl h)
  .exact .inr (.inr (.inr h))
  .exact .inr (.inr (.inl h))
  .nomatch h
 .rintro(h|h|h|h)
  .exact .inl (.inl h)
  .exact .inl (.inr (.inl h))
  .exact .inr (.inl h)
  .exact .inl (.inr (.inr h))
theorem OD:∀(i:Nat)(d:aD),(eG ts++frB js ao)[i]?≠aa (aa (.ow d)):=λi d z=>by
 by_cases hi:i<(eG ts).length
 .rw[pB hi] at z;unfold eG at z;rw[jw] at z;cases h:ts[i]? with
  |none=>rw[h] at z;cases z
  |some t=>rw[h] at z;cases z
 .rw[qx az] at z
  obtain⟨j,_,_,h⟩:=aeU z
  exact h d rfl
theorem Sm.blk(S:Sm K Z Θ (jg js ao) C σ H)(hD:H D=sI)(k:bD Θ H H2)(nt:NT (H2 D))(c:qJ Θ C2 H2)(r:cu (er (bB (mW D Z (jg js ao) σ) Θ [] []) H2) ts vs):
  Sm K (mW D Z (jg js ao) σ) Θ (eG ts++frB js ao) C2 (vs.map aa++frees js σ) H2:=by
 have no:=Ff (ao:=eG ts++frB js ao) (σ:=vs.map aa++frees js σ) OD;have dZ:=S.dZ;have lv:=jG r;have Qz:(eG ts).length=ts.length:=by unfold eG;rw[bJ]
 have ee:er (bB (mW D Z (jg js ao) σ) Θ (eG ts++frB js ao) (vs.map aa++frees js σ)) H2=er (bB (mW D Z (jg js ao) σ) Θ [] []) H2:=uI λa=>by rw[qG (js:=js) no,qG (js:=js) rfl]
 have sm:cH (er (bB Z Θ (jg js ao) σ) H) (er (bB (mW D Z (jg js ao) σ) Θ [] []) H2):=nD k S.uc λb m=>by
  rcases(qG (js:=js) rfl).mp m with rfl|m
  .exact .inr hD
  .exact .inl m
 refine⟨?_,?_,λb m=>?_,λi x e=>?_,c⟩
 .rw[fO,fO,bJ,lv,Qz];unfold frees frB;rw[bJ,bJ]
 .show(mW D Z (jg js ao) σ++(Θ++bV (eG ts++frB js ao) (vs.map aa++frees js σ))).Nodup
  rw[no];refine Dh (ie.mpr ⟨λm=>?_,?_⟩) dZ.2.1 lO (λb m m'=>?_) (λ_ m=>nomatch m)
  .rcases cY.mp m with m|m
   .exact(S.dom D m).ne hD
   .exact S.Jw D (gO.mpr (.inr (.inr m))) hD
  .rw[jF]
   exact⟨dZ.1,dZ.2.2.1,λb m c' m' e=>by subst e;exact(S.qe m').1 m⟩
  .rcases bW.mp m with rfl|m
   .exact S.Jw b (gO.mpr (.inr (.inl m'))) hD
   .rcases cY.mp m with m|m
    .exact dZ.2.2.2 b m m'
    .exact(S.qe m).2 m'
 .rcases bW.mp m with rfl|m
  .exact nt
  .have:NT (H b)/\b∉Θ:=by
    rcases cY.mp m with m|m
    .exact⟨S.dom b m,dZ.2.2.2 b m⟩
    .exact⟨S.yN b (gO.mpr (.inr (.inr m))),(S.qe m).2⟩
   obtain⟨⟨u,e,n⟩,nb⟩:=this
   exact⟨u,k.keep _ _ e nb,n⟩
 .rw[ee];by_cases hi:i<ts.length
  .rw[pB (by rw[Qz];exact hi)] at e;unfold eG at e;rw[jw] at e;cases ht:ts[i]? with
   |none=>rw[ht] at e;cases e
   |some t=>
    rw[ht] at e;cases e
    obtain⟨v,ev,rv⟩:=wu r ht
    exact⟨v,by rw[pB (by rw[bJ,lv];exact hi),jw,ev];rfl,rv⟩
  .rw[qx (by rw[Qz];lia),Qz] at e
   obtain⟨j,hj,hx,nx⟩:=aeU e
   obtain⟨v,ev,rv⟩:=S.slot j x hx
   refine⟨v,?_,rv.same sm λd _ z=>absurd z (nx d)⟩
   rw[qx (by rw[bJ,lv];lia),bJ,lv];unfold frees;rw[jw,hj];show aa ((σ[j]?).join)=_;rw[ev];rfl
end
def gF:FT:=λ_ C=>aa (aq,C)
theorem tH:pO X [] (gM X.K gF):=λau s σ H Q I aY=>by
 obtain⟨Z,Θ,ao,C,b,C',S,hf,q⟩:=aY
 cases hf;exact amI au s σ H Q I (q H (bD.refl _ _) S)
theorem xW(h:PT X c (gM X.K f)):pO X [c] (gM X.K f):=amJ h
theorem apU{K:aZ}{T:kh}{E H:Hp}{x:V}(h:Di T d=aa ts)(r:RZ E d x)(s:cH E H):∃vs,Gn K T x H vs/\cu E ts vs:=by
 cases T with
 |one=>cases h;exact⟨[x],rfl,x,[],rfl,r,rfl⟩
 |many n=>
  cases d<;>first|cases h|skip
  rename_i ds;have h:(if ds.length=n then aa ds else aj)=aa ts:=h;split at h
  .rename_i hl;cases h
   obtain⟨a,vs,rfl,ha,r⟩:=r
   exact⟨vs,⟨a,rfl,cU.of (s _ _ ha),(jG r).trans hl⟩,r⟩
  .cases h
def wK{α:Type}(T:kh)(ft:FT)(st:En->α->Ce->Option (α×Ce))(fs:En):List aD->α->Ce->Option (α×Ce)
 |[],a,C=>aa (a,C)
 |d::r,a,C=>(Di T d).bind λts=>(ft (eG ts++fs) C).bind λp=>bif p.1 then(st (eG ts++fs) a p.2).bind λq=>wK T ft st fs r q.1 q.2 else wK T ft st fs r a p.2
inductive afU{α:Type}(Θ:List aC)(H1:Hp)(n:Nat)(Ob:α->Hp->Prop)(run:Nat->α->Ce->Prop)(i m:Nat)(H2:Hp):Prop
 |mk (a:α) (Ci:Ce) (hm:m=n-i) (hi:i<=n) (ki:bD Θ H1 H2) (ci:qJ Θ Ci H2) (ob:Ob a H2) (hc:run i a Ci):afU Θ H1 n Ob run i m H2
section
variable{K:aZ}{α:Type}{T:kh}{ft:FT}{st:En->α->Ce->Option (α×Ce)}{js:List Nat}{Z Θ:List aC}{e1:En}{C1 C':Ce}{σ:St}{H1:Hp}{J:It}{D:aC}{o0:HO}{a0 aE:α}
theorem W7{Hx Hy:Hp}(hD:H1 D=sI)(kk:bD Θ H1 Hx):bD Θ H1 (upd Hx D u):=by
 refine⟨λa o ha na=>?_,λa ha=>?_⟩
 .rw[cP (pX ha hD)];exact kk.keep _ _ ha na
 .by_cases z:a=D
  .subst z;rw[eV];exact xx _
  .rw[cP z];exact kk.dom a ha
theorem Mx(hD:D∉Θ)(c:qJ Θ C1 Hx):qJ Θ C1 (upd Hx D u):=by
 refine⟨c.len,λn b ns e2 e3=>?_⟩
 rw[cP]
 .exact c.at_ n b ns e2 e3
 .intro z;subst z;exact hD (lY e2)
theorem UT{em:TM}{Ob:α->Hp->Prop}(S1:Sm K Z Θ e1 C1 σ H1)(it:yF (bB Z Θ e1 σ) Θ H1 J aK)(hD:H1 D=sI)(ob0:Ob a0 (upd H1 D o0))(Gv:∀a Hx Hy,bD Θ Hx Hy->Ob a Hx->Ob a Hy)(obn:∀a Hx,Ob a Hx->NT (Hx D))
  (hem:∀(ts:List aD)(a:α)(C2:Ce)(p:α×Ce)(vs:List V)(H4:Hp)(Q:Hp->Prop),st (eG ts++frB js e1) a C2=aa p->Sm K (mW D Z (jg js e1) σ) Θ (eG ts++frB js e1) C2 (vs.map aa++frees js σ) H4->bD Θ H1 H4->Ob a H4->(∀H6,bD Θ H1 H6->qJ Θ p.2 H6->Ob p.1 H6->Q H6)->em (vs.map aa++frees js σ) H4 Q)
  (hc:wK T ft st (frB js e1) aK a0 C1=aa (aE,C'))(hq:∀H2,bD Θ H1 H2->qJ Θ C' H2->Ob aE H2->done H2):Ab K T (gM K ft) em (frees js σ) J (upd H1 D o0) done:=by
 have t6:D∉Θ:=λm=>(S1.cell.dom D m).ne hD
 have S1f:=S1.fz (Fe js e1)
 refine⟨afU Θ H1 aK.length Ob (λi a Ci=>wK T ft st (frB js e1) (aK.drop i) a Ci=aa (aE,C')),⟨aK.length,⟨a0,C1,rfl,lC _,bD.upd hD,Mx t6 S1.cell,ob0,hc⟩⟩,λi m H2 hh=>?_⟩
 cases hh with
 |mk a Ci hm hi ki ci ob hc=>
 subst hm;have nt:=obn a H2 ob;have smP:cH (er (bB Z Θ e1 σ) H1) (er (bB (mW D Z (jg js e1) σ) Θ [] []) H2):=nD ki S1.uc λb m=>by
  rcases(qG (js:=js) rfl).mp m with rfl|m
  .exact .inr hD
  .exact .inl ((Fe js e1).sub b m)
 have aqU:∀a∈bB (mW D Z (jg js e1) σ) Θ [] [],NT (H2 a):=λa m=>(S1f.blk hD ki nt ci (show cu _ [] [] from rfl)).yN a ((qG (js:=js) (Ff (ao:=eG []++frB js e1) OD)).mpr ((qG (js:=js) rfl).mp m))
 obtain⟨Y0,Y4⟩:=it i H2 _ smP (aeO ki) aqU
 cases hd:aK[i]? with
 |none=>
  have hi2:i=aK.length:=Nat.le_antisymm hi (Q7.mp hd);rw[hi2,aac] at hc;cases hc;exact .inl ⟨Y4 hi2,hq H2 ki ci ob⟩
 |some d=>
  obtain⟨hlt,ed⟩:=jO.mp hd
  rw[Zo hlt,ed] at hc
  obtain⟨go,yl⟩:=Y0 d hd
  refine .inr ⟨go,λx H3 y=>?_⟩
  obtain⟨s3,r3⟩:=yl x H3 y
  obtain⟨ts,ht,hc⟩:=fZ hc
  obtain⟨p,hft,hc⟩:=fZ hc
  obtain⟨vs,tv,rvs⟩:=apU (K:=K) ht r3 (qK _ _)
  refine⟨vs,tv,?_⟩
  have k3:bD Θ H1 H3:=ki.trans (bD.of s3);have Y5:=Gv a _ _ (bD.of s3) ob;have SB:=S1f.blk (js:=js) hD k3 (obn a H3 Y5) ⟨ci.len,λn b ns e2 e3=>s3 _ _ (ci.at_ n b ns e2 e3)⟩ rvs;have lt:aK.length-(i+1)<aK.length-i:=az
  refine⟨_,Θ,_,Ci,p.1,p.2,SB,hft,λH4 k4 S4=>?_⟩
  cases hp:p.1 with
  |false=>
   rw[hp] at hc;exact z9 ⟨_,lt,⟨a,p.2,rfl,hlt,k3.trans k4,S4.cell,Gv a _ _ k4 Y5,hc⟩⟩
  |true=>
   rw[hp] at hc
   obtain⟨q,hs,hc⟩:=fZ hc
   exact Aa (hem ts a p.2 q vs H4 _ hs S4 (k3.trans k4) (Gv a _ _ k4 Y5) λH6 k6 c6 o6=>⟨_,lt,⟨q.1,q.2,rfl,hlt,k6,c6,o6,hc⟩⟩)
end
def Yi(fe:FE):En->List aD->Ce->Option (List aD×Ce):=λao bu C=>(fe ao C).bind λq=>(vg (still q.1)).bind λy=>bif decide (bu.length<gB) then aa (bu++[y],q.2.2) else aj
theorem V5:∀{aK:List aD}{ys bu:List aD}{C:Ce},lJ T ft fe fs aK C=aa (ys,C')->bu.length+ys.length<=gB->wK T ft (Yi fe) fs aK bu C=aa (bu++ys,C')
 |[],ys,bu,C,h,_=>by
  cases h;rw[mj];rfl
 |d::r,ys,bu,C,h,hl=>by
  unfold lJ at h;unfold wK;split at h
  case h_2=>cases h
  rename_i ts ht;rw[ht,jx];split at h
  case h_3=>cases h
  .rename_i C1 hf;rw[hf,jx];exact V5 h hl
  .rename_i C1 hf;rw[hf,jx];split at h
   case h_2=>cases h
   rename_i x e2 C2 hx;split at h
   case h_2=>cases h
   rename_i y hy;split at h
   case h_2=>cases h
   rename_i zs C3 hz;cases h;rw[dW] at hl
   show(Yi fe (eG ts++fs) bu C1).bind _=_
   unfold Yi;rw[hx,jx,hy,show vg (.im y)=aa y from rfl,jx,gr az,show bu++y::zs=(bu++[y])++zs by rw[kE];rfl];exact V5 hz (by rw[fO];show bu.length+1+_<=_;lia)
theorem adX{K:aZ}{T:kh}{ft:FT}{fe:FE}:∀σ H Q,tE K (gU fi T ft fe js) σ H Q->YG K (tI K aq fi) T (λ_=>gM K ft) (λ_=>tE K fe) js σ H Q:=by
 rintro σ H Q ⟨Z,Θ,ao,C,res,aV,C',S,hf,q⟩;unfold gU at hf;split at hf
 case h_2=>cases hf
 rename_i aK e1 C1 h1;split at hf
 case h_2=>cases hf
 rename_i ys C2 h2;split at hf
 case isFalse=>cases hf
 rename_i hl;cases hf
 refine⟨Z,Θ,ao,C,aK,e1,C1,S,h1,λJ H1 k1 f1 S1 it D hD b=>?_⟩
 have t6:D∉Θ:=λm=>(S1.cell.dom D m).ne hD
 have Y6:D∈bB (mW D Z (jg js e1) σ) Θ [] []:=(qG (js:=js) rfl).mpr (.inl rfl);refine UT (a0:=[]) (Ob:=λbu Hx=>kY (er (bB (mW D Z (jg js e1) σ) Θ [] []) Hx) Hx D (.list bu)) S1 it hD ⟨[],eV,rfl⟩ (λa Hx Hy kk r=>r.same (nD kk (λa m=>gO.mpr (.inr (.inl m))) λa m=>.inl m) λo h=>kk.keep _ _ h t6)
  (λa Hx r=>by obtain⟨vs,e,_⟩:=r;exact⟨_,e,λ_ z=>nomatch z⟩) ?_ (V5 (bu:=[]) h2 (by rw[GX,zc];exact hl)) λH2 ki ci r=>?_
 .intro ts bu C2 p vs H4 Q hs S4 k4 r4 hQ
  obtain⟨w,hfe,hs⟩:=fZ hs
  obtain⟨yd,vm,hs⟩:=fZ hs
  have vm:=IV vm;cases hlt:decide (bu.length<gB) with
  |false=>rw[hlt] at hs;cases hs
  |true=>
  rw[hlt] at hs;cases hs
  refine⟨_,Θ,_,C2,w.1,w.2.1,w.2.2,S4,hfe,λy H5 k5 f5 R5=>?_⟩
  obtain⟨S5,r5⟩:=R5.yo vm
  obtain⟨yG,hD5,rr⟩:=r4.same (nD k5 (λa m=>gO.mpr (.inr (.inl m))) λa m=>.inl m) λo h=>k5.keep _ _ h t6
  have Y7:bV w.2.1 (vs.map aa++frees js σ)=[]:=by
   have:=(Fz.own (σ:=vs.map aa++frees js σ) f5)
   rw[Ff OD] at this;exact ah7.mp this
  have e5:er (bB (mW D Z (jg js e1) σ) Θ w.2.1 (vs.map aa++frees js σ)) H5=er (bB (mW D Z (jg js e1) σ) Θ [] []) H5:=uI λa=>by rw[qG (js:=js) Y7,qG (js:=js) rfl]
  rw[e5] at r5;have lt:=of_decide_eq_true hlt
  refine⟨yG,hD5,by rw[jG rr,jQ];unfold gB at lt;lia,hQ _ (W7 (Hy:=H5) hD (k4.trans k5)) (Mx t6 S5.cell) ⟨_,eV,?_⟩⟩
  rw[Oz Y6];exact BR rr ⟨y,[],rfl,r5,rfl⟩
 .obtain⟨yG,hDi,ri⟩:=r
  refine q _ H2 (k1.trans ki) ?_ ?_
  .split
   .exact f1
   .exact f1.trans (Fe js e1)
  .refine⟨D,rfl,k1.none hD,?_⟩
   split
   .rename_i hn;have SD:=S1.Fv hD ki ⟨_,hDi,λ_ z=>nomatch z⟩ ci
    exact⟨SD,yG,hDi,ri.jf (λa vs e=>IK SD (jh e)) hn⟩
   .refine⟨(S1.fz (Fe js e1)).Fv hD ki ⟨_,hDi,λ_ z=>nomatch z⟩ ci,yG,hDi,?_⟩
    rw[uI (P':=bB (D::Z) Θ (jg js e1) σ) λa=>by rw[qG (js:=js) rfl];show _↔a∈D::bB Z Θ (jg js e1) σ;rw[bW]] at ri;exact ri
section
variable{X:Cx}{NT NF:List Str}{js:List Nat}{T:kh}{fi:FI}{ft:FT}{fe:FE}{scope:kJ}{pos:Pos}
theorem uR(B:rP X NT NF js scope)(tk:qO tg NT T)(hc:X.calm=aq)(hi:PI X tg iter (tI X.K aq fi))
  (hin:∀b,pO (X.bk (NT++NF) scope b) ifs (gM X.K ft)/\PE (X.bk (NT++NF) scope b) elt (tE X.K fe))
  (hs:∀x,vD iter X.env x=pure x:=by intro _;rfl):PE X (.ListComp elt [⟨tg,iter,ifs,0⟩] scope pos) (tE X.K (gU fi T ft fe js)):=(apO B tk hc hi hin hs).weak adX
theorem zx{i:Nat}(B:rP X NT NF js scope)(tk:qO tg NT T)(hc:X.calm=aq)(hi:PI X tg iter (tI X.K aq fi))
  (hin:∀b,pO (X.bk (NT++NF) scope b) ifs (gM X.K ft)/\PE (X.bk (NT++NF) scope b) elt (tE X.K fe))
  (hsw:sW (.ListComp elt [⟨tg,iter,ifs,0⟩] scope pos) (aa (.Name y pos')) spos.line X.env=pure aq)(hN:X.N.Nodup)(hI:X.N[i]?=aa y)(hy:X.env.scope.names.lookup y=aa .local)
  (hs:∀x,vD iter X.env x=pure x:=by intro _;rfl):PS X (.Assign [.Name y pos'] (.ListComp elt [⟨tg,iter,ifs,0⟩] scope pos) spos) (tS X.K (cB i (gU fi T ft fe js))):=(ak6 B tk hc hi hin hsw hN hI hy hs).weak (UL adX)
end
def Fx(n:Nat):Vl->Bool
 |.ce m=>decide (m<n)
 |_=>aq
noncomputable def fN (k n:Nat) (body:FS):FN:=λxs C=>if xs.length=k then match body (xs.map aa++fP (n-xs.length) aj) C with
  |some (.rt r,_,C')=>if Fx C.length r then aa (r,C'.take C.length) else aj
  |some (.nx,_,C')=>aa (.im .none,C'.take C.length)
  |_=>aj
 else aj
section
variable{K:aZ}{C:Ce}{H:Hp}{vs:List V}
theorem UW(a:ye K E Θ xs vs):vs.length=xs.length:=by
 induction a with
 |nil=>rfl
 |cons _ _ ih=>rw[dW,dW,ih]
theorem am7(a:ye K E Θ xs vs):∀{i:Nat}{x:Vl},xs[i]?=aa x->∃v,vs[i]?=aa v/\ym K E Θ x v:=by
 induction a with
 |nil=>intro i x e;simp at e
 |cons h _ ih=>
  intro i x e;cases i with
  |zero=>simp at e;subst e;exact⟨_,rfl,h⟩
  |succ i=>
   obtain⟨v,e2,h2⟩:=ih (i:=i) (by simpa using e)
   exact⟨v,by simpa using e2,h2⟩
theorem Sm.start(S:Sm K Z Θ [] C [] H)(a:ye K (er (bB Z Θ [] []) H) Θ xs vs):Sm K Z Θ (xs.map aa++fP n sI) C (vs.map aa++fP n sI) H/\bV (xs.map aa++fP n sI) (vs.map aa++fP n sI)=[]:=by
 have lv:=UW a;have at':∀{i:Nat}{x:Vl},(xs.map aa++fP n sI)[i]?=aa (aa x)->∃v,vs[i]?=aa v/\ym K (er (bB Z Θ [] []) H) Θ x v/\i<vs.length:=λ{i x} e=>by
  by_cases hi:i<xs.length
  .rw[pB (by rw[bJ];exact hi),jw] at e;cases hx:xs[i]? with
   |none=>rw[hx] at e;cases e
   |some y=>
    rw[hx] at e;cases e
    obtain⟨v,e1,h⟩:=am7 a hx
    exact⟨v,e1,h,by rw[lv];exact hi⟩
  .rw[qx (by rw[bJ];lia)] at e;have:=lY e;exact nomatch(List.eq_of_mem_replicate this)
 have no:bV (xs.map aa++fP n sI) (vs.map aa++fP n sI)=[]:=Ff λi d e=>by
  obtain⟨v,_,h,_⟩:=at' e
  exact h
 refine⟨⟨by simp[lv],?_,S.dom,λi x e=>?_,S.cell⟩,no⟩
 .show(Z++(Θ++bV _ _)).Nodup
  rw[no];exact S.nd
 .obtain⟨v,e1,h,hl⟩:=at' e
  refine⟨v,by rw[pB (by rw[bJ];exact hl),jw,e1];rfl,?_⟩
  have ee:er (bB Z Θ (xs.map aa++fP n sI) (vs.map aa++fP n sI)) H=er (bB Z Θ [] []) H:=by
   show er (Z++(Θ++bV _ _)) H=_;rw[no];rfl
  rw[ee];cases x with
  |im d=>exact h
  |ow d=>exact h.elim
  |ce m=>exact h
  |sc ns=>exact h
  |ks ns=>exact h
  |tp=>exact h.elim
theorem Sm.cut(S:Sm K Z (Θ++Δ) [] C [] H):Sm K Z Θ [] (C.take Θ.length) [] H:=by
 have dZ:=S.dZ;have cl:=S.cell.len;rw[fO] at cl
 refine⟨rfl,Dh dZ.1 (jF.mp dZ.2.1).1 lO (λb m m'=>dZ.2.2.2 b m (fM _ m')) (λ_ m=>nomatch m),S.dom,λi x e=>by simp at e,⟨by rw[Az];lia,λn a ns e1 e2=>?_⟩⟩
 have hn:n<Θ.length:=(jO.mp e1).1;rw[ahE,bG hn] at e2;exact S.cell.at_ n a ns (by rw[pB hn];exact e1) e2
theorem Py.cut(t:lg Θ Θ' H)(ok:Fx Θ.length r=aq)(no:O=[])(h:Py K Z Θ' C' O H H' r v):Qi K Z Θ (C'.take Θ.length) H H' r v:=by
 obtain⟨Δ,rfl,hn⟩:=t.ex
 have sm:∀{Y:List aC},cH (er (bB Y (Θ++Δ) [] []) H') (er (bB Y Θ [] []) H'):=λ{Y}=>wz λa m=>by
  rcases gO.mp m with m|m|m
  .exact gO.mpr (.inl m)
  .exact gO.mpr (.inr (.inl (fM _ m)))
  .nomatch m
 cases r with
 |im d=>exact⟨h.1.cut,h.2.same sm⟩
 |ow d=>
  obtain⟨a,e,m,S,r⟩:=h
  refine⟨a,e,?_,S.cut,r.same sm λ_ h=>h⟩
  rcases m with m|m
  .rw[no] at m;nomatch m
  .exact m
 |ce n=>
  obtain⟨S,a,e,e2⟩:=h
  refine⟨S.cut,a,e,?_⟩
  rw[pB (of_decide_eq_true ok)] at e2;exact e2
 |sc ns=>
  obtain⟨S,a,e,q⟩:=h
  exact⟨S.cut,a,e,sm.seq q⟩
 |ks ns=>
  obtain⟨S,a,e,q⟩:=h
  exact⟨S.cut,a,e,sm.Jv q⟩
 |tp=>
  obtain⟨t,a,vs,us,e,e',m,S,r,p,q⟩:=h
  refine⟨t,a,vs,us,e,e',?_,S.cut,r.same sm λ_ h=>h,p.same sm,q.same sm⟩
  rcases m with m|m
  .rw[no] at m;nomatch m
  .exact m
end
section
variable{w:c7}{K:aZ}{base:cg}
theorem jq{st:dI}{f:aC}{fd:vR}{k:Nat}{body:FS}{k1 k2:Nat}(F:gw K x qual st f fd)(S:iK N ps (cZ st))
  (hb:∀(cdv:aN)(A:gV)(outer:List Env)(s:bh)(H:Hp)(E:XK),jZ k (A.deeper (envOfC qual (cZ st) s.heap.objs.size f cdv))->je (CQ fU P w K mg base N qual (cZ st) f cdv A outer s H E).JN (zE st) (tS K body))
  (e1:k1=ps.length:=by rfl)(e2:k2=N.length:=by rfl):fK P w K mg base fU (k+1) f fd ps (spT K (fN k1 k2 body)):=by
 subst e1 e2;refine F.ok S (λvs H Q E h=>?_) (λcdv A outer s H vs Q E hr h=>⟨_,hb cdv A outer s H E hr,?_⟩)
 .obtain⟨Z,Θ,C,xs,r,C',S0,a,hf,_⟩:=h
  unfold fN at hf;split at hf
  .rename_i hl;rw[UW a,hl]
  .cases hf
 .obtain⟨Z,Θ,C,xs,r,C',S0,a,hf,q⟩:=h
  unfold fN at hf;split at hf
  case isFalse=>cases hf
  rename_i hl;have lv:=UW a
  obtain⟨S1,no⟩:=S0.start (n:=N.length-vs.length) a
  rw[lv] at S1 no;have hs:start N vs=vs.map aa++fP (N.length-xs.length) aj:=by unfold start;rw[lv]
  rw[hs];have cl:=S0.cell.len;split at hf
  .rename_i r0 e' C1 hb';split at hf
   .rename_i hok;cases hf
    refine⟨Z,Θ,_,C,.rt r,e',C1,S1,hb',λΘ' v H' R=>?_⟩
    have kp:=R.kp;rw[no,mj] at kp;rw[cl] at q hok;exact q v H' kp (R.ok.cut R.th hok no)
   .cases hf
  .rename_i e' C1 hb';cases hf
   refine⟨Z,Θ,_,C,.nx,e',C1,S1,hb',λΘ' σ' H' R=>?_⟩
   have kp:=R.kp;rw[no,mj] at kp
   obtain⟨Δ,e,hn⟩:=R.th.ex
   have S2:=R.sm.none;rw[e] at S2;rw[cl] at q;exact q .non H' kp ⟨S2.cut,rfl⟩
  .cases hf
theorem aoU(hS:cj K H a (ns.map V.int))(h:f [.sc ns] []=aa (.im (.bool aq),C')):spT K f [.ref a] H (λv _=>v=.bl aq) E:=by
 refine⟨[],[],[],[.sc ns],_,C',⟨rfl,lO,(λ_ m=>nomatch m),λi x e=>by simp at e,⟨rfl,λn b ms e _=>by simp at e⟩⟩,.cons ⟨a,rfl,?_⟩ .nil,h,λv H' _ R=>R.2⟩
 show cj K (er [] H) a _;rw[aoG];exact hS
end
def zU(i:Nat):FE:=λao C=>match ao[i]? with
 |some (some (.sc ns))=>aa (.im (.int ns.length),ao,C)
 |_=>aj
def JC(i:Nat)(f:FB):FE:=λao C=>match ao[i]? with
 |some (some (.sc ns))=>match f ao C with
  |some (.int k,_,C1)=>match fL ns k with
   |some z=>aa (.im (.int z),ao,C1)
   |none=>aj
  |_=>aj
 |_=>aj
section
variable{X:Cx}{p pos:Pos}
theorem adY(ho:PE X o (qj i))(hg:Gl X "len")(hm:X.mg "len"=aj)(hv:ur "len"=aa (.builtin "len"))
  (he:bR [o] X.env=(aM,eval o X.env)::bR [] X.env:=by rfl)(hpl:(jA pos (bR [] X.env)).any (·.1)=aM:=by rfl):PE X (.Call (.Name "len" p) [o] [] pos) (tE X.K (zU i)):=
 (Mt aaR hg hm hv (rG ho wg he) aR aR he hpl).weak λσ H Q aY=>by
  obtain⟨Z,Θ,ao,C,r,aV,C',S,hf,q⟩:=aY
  unfold zU at hf;split at hf
  .rename_i ns h0;cases hf
   obtain⟨v,ev,a,rfl,sq⟩:=S.slot i _ h0
   have:=q (.int ns.length) H (bD.refl _ _) (Fz.refl _) ⟨S,rfl⟩
   exact⟨_,ev,a,_,rfl,.inl ((qK _ _).seq sq),by rw[bJ];exact this⟩
  .cases hf
theorem aoV(ho:PE X o (qj i))(hk:PE X k (eX X.K f))(hs:BK k):PE X (.Subscript o k pos) (tE X.K (JC i f)):=(Jj VF ho hk hs).weak λσ H Q aY=>by
 obtain⟨Z,Θ,ao,C,r,aV,C',S,hf,q⟩:=aY
 unfold JC at hf;split at hf
 case h_2=>cases hf
 rename_i ns h0;split at hf
 case h_2=>cases hf
 rename_i z e1 C1 h1;split at hf
 case h_2=>cases hf
 rename_i y hy;cases hf
 obtain⟨v,ev,a,rfl,sq⟩:=S.slot i _ h0
 refine⟨_,ev,Z,Θ,ao,C,_,e1,C',S,h1,λw H1 k1 f1 S1 b1=>?_⟩
 have S2:=S.go k1 S1.cell
 obtain⟨v2,ev2,a2,ea2,sq2⟩:=S2.slot i _ h0
 rw[ev] at ev2;cases ev2;cases ea2
 refine⟨a,_,z,.int y,rfl,b1,(qK _ _).seq sq2,?_,q _ H1 k1 (Fz.refl _) ⟨S2,rfl⟩⟩
 unfold fL at hy⊢;rw[bJ];cases hj:pN ns.length z with
 |none=>rw[hj] at hy;cases hy
 |some j=>
  rw[hj] at hy
  show(ns.map V.int)[j]?=_
  rw[jw,show ns[j]?=aa y from hy];rfl
end
section
variable{K:aZ}{X:Cx}
theorem qL(h:Pq Z Θ ao σ H [d] vs):∃v,vs=[v]/\gK Z Θ ao σ H d v:=by
 cases h with
 |cons a b=>cases b;exact⟨_,rfl,a⟩
theorem Pz(h:Pq Z Θ ao σ H [d,e] vs):∃v w,vs=[v,w]/\gK Z Θ ao σ H d v/\gK Z Θ ao σ H e w:=by
 cases h with
 |cons a b=>
  cases b with
  |cons b c=>cases c;exact⟨_,_,rfl,a,b⟩
def JD:aD->Option Nat
 |.list ds=>aa ds.length
 |.tuple ds=>aa ds.length
 |.str z=>if z.length<=gB then aa z.length else aj
 |.dict aA=>if(dh fW aA).isSome then aa aA.length else aj
 |_=>aj
def jc:List aD->oVl
 |[d]=>(JD d).map λn=>.im (.int n)
 |_=>aj
def afk(K:aZ):List V->Hp->VK->Prop:=λxs H Q=>((∃p ys,xs=[.ref p]/\(cj K H p ys\/cU K H p ys)/\Q (.int ys.length) H)\/∃z,xs=[.str z]/\z.length<=cJ/\Q (.int z.length) H)\/∃a aA,xs=[V.ref a]/\Ai H a aA/\Q (.int aA.length) H
theorem nq:iY X (.builtin "len") (afk X.K):=(aaR.or aiP).or aj7
theorem nC:lM K (afk K) jc:=by
 intro Z Θ ao C σ H xs ds res S b e Q q;unfold jc at e;split at e
 case h_2=>cases e
 rename_i d
 obtain⟨v,rfl,bb⟩:=qL b
 cases hn:JD d with
 |none=>rw[hn] at e;cases e
 |some n=>
  rw[hn] at e;cases e;have fin:=q (.int n) H (bD.refl _ _) (jV S rfl rfl);cases d<;>first|cases hn|skip
  .rename_i z;simp only[JD] at hn;split at hn
   .rename_i hl;cases hn;cases bb.str;exact .inl (.inr ⟨z,rfl,vU hl,fin⟩)
   .cases hn
  .obtain⟨a,vs,rfl,ha,r⟩:=bb.lst
   exact .inl (.inl ⟨a,vs,rfl,.inl (cj.of ha),by rw[jG r];exact fin⟩)
  .obtain⟨a,vs,rfl,ha,r⟩:=bb.tup
   exact .inl (.inl ⟨a,vs,rfl,.inr (cU.of ha),by rw[jG r];exact fin⟩)
  .rename_i aA;simp only[JD] at hn;split at hn
   .rename_i hs;cases hn
    obtain⟨a,vs,rfl,da,r⟩:=bb.dct
    rcases da with⟨ks,h1,ha⟩|⟨ks,⟨ne,h2⟩,ha⟩
    .refine .inr ⟨a,_,rfl,rdK ha,?_⟩;rw[Be,uz h1,Es r,aaY];exact fin
    .obtain⟨ks',h1⟩:=xg.mp hs
     exact absurd (vV h1 h2) ne
   .cases hn
def Jl:List aD->oVl
 |[.int i]=>aa (.im (.int (if i<0 then -i else i)))
 |_=>aj
theorem aeV:lM K (λxs H Q=>∃i,xs=[.int i]/\Q (.int (if i<0 then -i else i)) H) Jl:=by
 intro Z Θ ao C σ H xs ds res S b e Q q;unfold Jl at e;split at e
 case h_2=>cases e
 cases e
 obtain⟨v,rfl,bb⟩:=qL b
 cases bb.int
 exact⟨_,rfl,q _ H (bD.refl _ _) (jV S rfl rfl)⟩
def pJ:List aD->oVl
 |[.int i]=>aa (.im (.int i))
 |[.bool k]=>aa (.im (.int (if k then 1 else 0)))
 |_=>aj
theorem Cj:lM K (λxs H Q=>(∃i,xs=[.int i]/\Q (.int i) H)\/∃k,xs=[.bl k]/\Q (.int (if k then 1 else 0)) H) pJ:=by
 intro Z Θ ao C σ H xs ds res S b e Q q;unfold pJ at e;split at e
 case h_3=>cases e
 .cases e
  obtain⟨v,rfl,bb⟩:=qL b
  cases bb.int;exact .inl ⟨_,rfl,q _ H (bD.refl _ _) (jV S rfl rfl)⟩
 .cases e
  obtain⟨v,rfl,bb⟩:=qL b
  cases(show v=.bl _ from bb)
  exact .inr ⟨_,rfl,q _ H (bD.refl _ _) (jV S rfl rfl)⟩
def Ck:List aD->oVl
 |[.int i,.int j]=>aa (.im (.int (if j>i then j else i)))
 |_=>aj
def Cm:List aD->oVl
 |[.int i,.int j]=>aa (.im (.int (if j<i then j else i)))
 |_=>aj
theorem adZ:lM K (λxs H Q=>∃i j,xs=[.int i,.int j]/\Q (.int (if j>i then j else i)) H) Ck:=by
 intro Z Θ ao C σ H xs ds res S b e Q q;unfold Ck at e;split at e
 case h_2=>cases e
 cases e
 obtain⟨v,w,rfl,b1,b2⟩:=Pz b
 cases b1.int;cases b2.int
 exact⟨_,_,rfl,q _ H (bD.refl _ _) (jV S rfl rfl)⟩
theorem ad0:lM K (λxs H Q=>∃i j,xs=[.int i,.int j]/\Q (.int (if j<i then j else i)) H) Cm:=by
 intro Z Θ ao C σ H xs ds res S b e Q q;unfold Cm at e;split at e
 case h_2=>cases e
 cases e
 obtain⟨v,w,rfl,b1,b2⟩:=Pz b
 cases b1.int;cases b2.int
 exact⟨_,_,rfl,q _ H (bD.refl _ _) (jV S rfl rfl)⟩
def boolsOf:List aD->Option (List Bool)
 |[]=>aa []
 |.bool b::r=>match boolsOf r with
  |some t=>aa (b::t)
  |none=>aj
 |_=>aj
theorem abZ:∀{ds:List aD}{ns:List Bool}{vs:List V},boolsOf ds=aa ns->cu E ds vs->vs=ns.map V.bl
 |[],ns,vs,h,r=>by cases h;exact r
 |.bool i::ds,ns,vs,h,r=>by
  unfold boolsOf at h;split at h
  .rename_i t ht;cases h
   obtain⟨u,w,rfl,q,s⟩:=r
   rw[abZ ht s];have:u=.bl i:=q;rw[this];rfl
  .cases h
 |.none::_,_,_,h,_=>by cases h
 |.int _::_,_,_,h,_=>by cases h
 |.str _::_,_,_,h,_=>by cases h
 |.list _::_,_,_,h,_=>by cases h
 |.tuple _::_,_,_,h,_=>by cases h
 |.dict _::_,_,_,h,_=>by cases h
def XD:List aD->oVl
 |[.list ds]=>(boolsOf ds).map λbs=>.im (.bool (bs.all id))
 |_=>aj
theorem aoW:lM K (λxs H Q=>∃(p:aC)(bs:List Bool),xs=[.ref p]/\cj K H p (bs.map V.bl)/\Q (.bl (bs.all id)) H) XD:=by
 intro Z Θ ao C σ H xs ds res S b e Q q;unfold XD at e;split at e
 case h_2=>cases e
 rename_i ds;cases hb:boolsOf ds with
 |none=>rw[hb] at e;cases e
 |some bs=>
  rw[hb] at e;cases e
  obtain⟨v,rfl,bb⟩:=qL b
  obtain⟨a,vs,rfl,ha,r⟩:=bb.lst
  rw[abZ hb r] at ha
  exact⟨a,bs,rfl,cj.of ha,q _ H (bD.refl _ _) (jV S rfl rfl)⟩
def xX:List aD->oVl
 |[.list ds]=>aa (.im (.tuple ds))
 |[.tuple ds]=>aa (.im (.tuple ds))
 |_=>aj
theorem HF:lM K (λxs H Q=>∃p ys,xs=[.ref p]/\((cj K H p ys/\∀l,H l=aj->Q (.ref l) (upd H l (.tup ys)))\/(cU K H p ys/\Q (.ref p) H))) xX:=by
 intro Z Θ ao C σ H xs ds res S b e Q q;unfold xX at e;split at e
 case h_3=>cases e
 .cases e
  obtain⟨v,rfl,bb⟩:=qL b
  obtain⟨a,vs,rfl,ha,r⟩:=bb.lst
  exact⟨a,vs,rfl,.inl ⟨cj.of ha,λl hl=>q _ _ (bD.upd hl) (Nm S r hl)⟩⟩
 .cases e
  obtain⟨v,rfl,bb⟩:=qL b
  obtain⟨a,vs,rfl,ha,r⟩:=bb.tup
  exact⟨a,vs,rfl,.inr ⟨cU.of ha,q _ H (bD.refl _ _) ⟨S,bb⟩⟩⟩
end
def Gf(n:String):aD->Option Bool
 |.none=>aa aM
 |.bool _=>aa (n=="bool"||n=="int")
 |.int _=>aa (n=="int")
 |.str _=>aa (n=="str")
 |.list _=>aa (n=="list")
 |.tuple _=>aa (n=="tuple")
 |.dict _=>aj
def JF(n:String):Bool:=n=="bool"||n=="int"||n=="str"||n=="list"||n=="tuple"
theorem W8{K:aZ}{b:Bool}(hn:JF n=aq)(e:Gf n d=aa b):Dz K (JZ d) (.type n)=aa b:=by
 unfold JF at hn;simp only[Bool.or_eq_true,beq_iff_eq] at hn;rcases hn with(((rfl|rfl)|rfl)|rfl)|rfl<;>cases d<;>cases e<;>rfl
theorem acP(e:Gf n d=aa b):∀aA,d≠.dict aA:=λaA z=>by subst z;cases e
theorem gK.ty{K:aZ}{ao:En}{σ:St}{H:Hp}{v:V}(h:gK Z Θ ao σ H d v)(hd:∀aA,d≠.dict aA):oV K H v (JZ d):=by
 cases d with
 |none=>exact RX.ty (d:=.none) h
 |bool b=>exact RX.ty (d:=.bool b) h
 |int i=>exact RX.ty (d:=.int i) h
 |str z=>exact RX.ty (d:=.str z) h
 |list ds=>
  obtain⟨a,vs,rfl,ha,r⟩:=h.lst
  exact .lst ha
 |tuple ds=>
  obtain⟨a,vs,rfl,ha,r⟩:=h.tup
  exact .tup ha
 |dict aA=>exact absurd rfl (hd aA)
def qQ(n:String)(f:FB):FE:=λao C=>match f ao C with
 |some (d,_,C1)=>match Gf n d with
  |some b=>aa (.im (.bool b),ao,C1)
  |none=>aj
 |none=>aj
def PB(m n:String)(f:FB):FE:=λao C=>match f ao C with
 |some (d,_,C1)=>match Gf m d,Gf n d with
  |some p,some q=>aa (.im (.bool (p||q)),ao,C1)
  |_,_=>aj
 |none=>aj
section
variable{X:Cx}{p pos tp:Pos}
theorem uJ(hn:JF n=aq)(ha:PE X a (eX X.K f))(ht:PE X t (tC (.ty n)))(hg:Gl X "isinstance")(hm:X.mg "isinstance"=aj)(hv:ur "isinstance"=aa (.builtin "isinstance"))
  (he:bR [a,t] X.env=(aM,eval a X.env)::bR [t] X.env:=by rfl)(he2:bR [t] X.env=(aM,eval t X.env)::bR [] X.env:=by rfl)(hpl:(jA pos (bR [t] X.env)).any (·.1)=aM:=by rfl):
  PE X (.Call (.Name "isinstance" p) [a,t] [] pos) (tE X.K (qQ n f)):=
 (Mt ai6 hg hm hv (rG ha (rG ht wg he2) he) aR aR he hpl).weak λσ H Q aY=>by
  obtain⟨Z,Θ,ao,C,r,aV,C',S,hf,q⟩:=aY
  unfold qQ at hf;split at hf
  case h_2=>cases hf
  rename_i d e1 C1 h1;split at hf
  case h_2=>cases hf
  rename_i b hb;cases hf
  refine⟨Z,Θ,ao,C,d,e1,C',S,h1,λv H1 k f S1 b1=>⟨v,n,JZ d,b,rfl,b1.ty (acP hb),W8 hn hb,q _ H1 k (Fz.refl _) ⟨S.go k S1.cell,rfl⟩⟩⟩
theorem am8(hm':JF m=aq)(hn:JF n=aq)(ha:PE X a (eX X.K f))(ht:PE X t (tC (.ty m)))(ht':PE X t' (tC (.ty n)))(hg:Gl X "isinstance")(hm:X.mg "isinstance"=aj)(hv:ur "isinstance"=aa (.builtin "isinstance"))
  (he:bR [a,.Tuple [t,t'] x1 tp] X.env=(aM,eval a X.env)::bR [.Tuple [t,t'] x1 tp] X.env:=by rfl)(he2:bR [.Tuple [t,t'] x1 tp] X.env=(aM,eval (.Tuple [t,t'] x1 tp) X.env)::bR [] X.env:=by rfl)
  (h3:bR [t,t'] X.env=(aM,eval t X.env)::bR [t'] X.env:=by rfl)(h4:bR [t'] X.env=(aM,eval t' X.env)::bR [] X.env:=by rfl)
  (hpl:(jA pos (bR [.Tuple [t,t'] x1 tp] X.env)).any (·.1)=aM:=by rfl):
  PE X (.Call (.Name "isinstance" p) [a,.Tuple [t,t'] x1 tp] [] pos) (tE X.K (PB m n f)):=
 (Mt aiR hg hm hv (rG ha (rG (WW (rG ht (rG ht' wg h4) h3)) wg he2) he) aR aR he hpl).weak λσ H Q aY=>by
  obtain⟨Z,Θ,ao,C,r,aV,C',S,hf,q⟩:=aY
  unfold PB at hf;split at hf
  case h_2=>cases hf
  rename_i d e1 C1 h1;split at hf
  case h_2=>cases hf
  rename_i b b' hb hb';cases hf
  refine⟨Z,Θ,ao,C,d,e1,C',S,h1,λv H1 k f S1 b1=>⟨by show 2<=cJ;rw[jQ];decide,λc hc=>?_⟩⟩
  have kc:bD Θ H1 (upd H1 c (.tup [.ty m,.ty n])):=bD.upd hc;have s2:=S1.Cy (cH.upd (o:=.tup [.ty m,.ty n]) hc);have b2:=b1.go S1 kc (Fz.refl _)
  refine⟨v,c,m,n,JZ d,b,b',rfl,eV,b2.ty (acP hb),W8 hm' hb,W8 hn hb',q _ _ (k.trans kc) (Fz.refl _) ⟨S.go (k.trans kc) s2.cell,rfl⟩⟩
end
def ins{α:Type}(lt:α->α->Bool)(x:α):List α->List α
 |[]=>[x]
 |y::r=>if lt y x then y::ins lt x r else x::y::r
def mG{α:Type}(lt:α->α->Bool):List α->List α
 |[]=>[]
 |x::r=>ins lt x (mG lt r)
section
variable{α:Type}{lt:α->α->Bool}
theorem U0(x:α):∀l:List α,(ins lt x l).Perm (x::l)
 |[]=>yX _
 |y::r=>by
  unfold ins;split
  .exact((U0 x r).cons y).trans (aay x y r)
  .exact yX _
theorem rE:∀l:List α,(mG lt l).Perm l
 |[]=>yX _
 |x::r=>(U0 x _).trans ((rE r).cons x)
structure Fy(lt:α->α->Bool)(P:α->Prop):Prop where
 Ga:∀a b,P a->P b->lt a b=aq->lt b a=aM
 neg:∀a b c,P a->P b->P c->lt a c=aq->lt a b=aq\/lt b c=aq
 tot:∀a b,P a->P b->lt a b=aM->lt b a=aM->a=b
theorem aeW(O:Fy lt P)(hx:P x):∀{l:List α},(∀y∈l,P y)->l.Pairwise (λa b=>lt b a=aM)->(ins lt x l).Pairwise (λa b=>lt b a=aM)
 |[],_,_=>vC.mpr ⟨λ_ m=>(nomatch m),Ku⟩
 |y::r,hp,h=>by
  rw[vC] at h;have py:=hp y cX;unfold ins;split
  .rename_i hl;rw[vC]
   refine⟨λz m=>?_,aeW O hx (λz m=>hp z (dM _ m)) h.2⟩
   rcases bW.mp ((U0 x r).mem_iff.mp m) with rfl|m
   .exact O.Ga _ _ py hx hl
   .exact h.1 z m
  .rename_i hl;have hl:lt y x=aM:=by simpa using hl
   rw[vC,vC]
   refine⟨λz m=>?_,h.1,h.2⟩
   rcases bW.mp m with rfl|m
   .exact hl
   .have pz:=hp z (dM _ m);cases hz:lt z x with
    |false=>rfl
    |true=>
     rcases O.neg z y x pz py hx hz with h1|h1
     .rw[h.1 z m] at h1;cases h1
     .rw[hl] at h1;cases h1
theorem acQ(O:Fy lt P):∀{l:List α},(∀y∈l,P y)->(mG lt l).Pairwise (λa b=>lt b a=aM)
 |[],_=>Ku
 |x::r,hp=>aeW O (hp x cX) (λy m=>hp y (dM _ ((rE r).mem_iff.mp m))) (acQ O λy m=>hp y (dM _ m))
theorem aeX(O:Fy lt P):∀{l m:List α},(∀y∈l,P y)->l.Perm m->l.Pairwise (λa b=>lt b a=aM)->m.Pairwise (λa b=>lt b a=aM)->l=m
 |[],m,_,p,_,_=>(List.nil_perm.mp p).symm
 |x::r,[],_,p,_,_=>absurd p.length_eq bI
 |x::r,y::t,hp,p,h1,h2=>by
  have pm:∀z∈y::t,P z:=λz m=>hp z (p.mem_iff.mpr m)
  rw[vC] at h1 h2;have e:x=y:=by
   have m1:x∈y::t:=p.mem_iff.mp cX;have m2:y∈x::r:=p.mem_iff.mpr cX;rcases bW.mp m1 with e|m1
   .exact e
   .rcases bW.mp m2 with e|m2
    .exact e.symm
    .exact O.tot x y (hp x cX) (pm y cX) (h2.1 x m1) (h1.1 y m2)
  subst e;rw[aeX O (λz m=>hp z (dM _ m)) ((ais x).mp p) h1.2 h2.2]
theorem ad1(O:Fy lt P)(hp:∀y∈l,P y)(p:m.Perm l)(h:m.Pairwise (λa b=>lt b a=aM)):m=mG lt l:=
 aeX O (λy hy=>hp y (p.mem_iff.mp hy)) (p.trans (rE l).symm) h (acQ O hp)
end
def ltI(i j:Int):Bool:=decide (i<j)
theorem aqV:Fy ltI (λ_=>True):=⟨λa b _ _ h=>by unfold ltI at *;simp at *;lia,λa b c _ _ _ h=>by unfold ltI at *;simp at *;lia,λa b _ _ h1 h2=>by unfold ltI at *;simp at *;lia⟩
theorem afV:Fy strLt (λ_=>True):=by
 refine⟨λa b _ _ h=>?_,λa b c _ _ _ h=>?_,λa b _ _ h1 h2=>?_⟩
 .exact VL (a:=.inr a) (b:=.inr b) h
 .exact aeK (a:=.inr a) (b:=.inr b) (c:=.inr c) rfl rfl h
 .exact aa2 (aeL (a:=.inr a) (b:=.inr b) rfl h1 h2)
def strsOf:List aD->Option (List Str)
 |[]=>aa []
 |.str i::r=>match strsOf r with
  |some t=>aa (i::t)
  |none=>aj
 |_=>aj
theorem U3:∀{ds:List aD}{ns:List Str}{vs:List V},strsOf ds=aa ns->cu E ds vs->vs=ns.map V.str
 |[],ns,vs,h,r=>by cases h;exact r
 |.str i::ds,ns,vs,h,r=>by
  unfold strsOf at h;split at h
  .rename_i t ht;cases h
   obtain⟨u,w,rfl,q,s⟩:=r
   rw[U3 ht s];have:u=.str i:=q;rw[this];rfl
  .cases h
 |.none::_,_,_,h,_=>by cases h
 |.bool _::_,_,_,h,_=>by cases h
 |.int _::_,_,_,h,_=>by cases h
 |.list _::_,_,_,h,_=>by cases h
 |.tuple _::_,_,_,h,_=>by cases h
 |.dict _::_,_,_,h,_=>by cases h
def qp:aD->Option (List Bool)
 |.tuple xs=>(keysOf xs).map λks=>ks.map cA
 |_=>aj
def mZ:Key->aD
 |.inl i=>.int i
 |.inr x=>.str x
def rR:aD->List Key
 |.tuple xs=>(keysOf xs).getD []
 |_=>[]
def qR(ds:List aD):List aD:=(ql (ds.map rR)).map λk=>.tuple (k.map mZ)
def Jm(ds:List aD):Option (List aD):=if ds.length<64 then match intsOf ds with
  |some ns=>aa ((mG ltI ns).map .int)
  |none=>match strsOf ds with
   |some zs=>aa ((mG strLt zs).map .str)
   |none=>match ds with
    |[]=>aa []
    |d::_=>match qp d with
     |some (b::sh)=>if(ds.all λe=>decide (qp e=aa (b::sh))) then aa (qR ds) else aj
     |_=>aj
 else aj
def HH:List aD->oVl
 |[.list ds]=>(Jm ds).map λl=>.ow (.list l)
 |_=>aj
def W9(K:aZ):List V->Hp->VK->Prop:=λxs H Q=>((∃(p:aC)(ns:List Int),xs=[.ref p]/\cj K H p (ns.map V.int)/\ns.length<64/\∀(l:aC)(ns':List Int),H l=aj->ns'.Perm ns->ns'.Pairwise (·<=·)->Q (.ref l) (upd H l (.lst (ns'.map V.int))))\/
 ∃(p:aC)(ns:List Str),xs=[.ref p]/\cj K H p (ns.map V.str)/\ns.length<64/\∀(l:aC)(ns':List Str),H l=aj->ns'.Perm ns->sortedS ns'=aq->Q (.ref l) (upd H l (.lst (ns'.map V.str))))\/
 ∃(p:aC)(aP:List Row)(b:Bool)(sh:List Bool),xs=[.ref p]/\cj K H p (aP.map λr=>V.ref r.1)/\aP.length<64/\(∀r∈aP,H r.1=aa (.tup (r.2.map kV))/\r.2.map cA=b::sh)/\∀(l:aC)(rows':List Row),H l=aj->rows'.Perm aP->rows'.map (·.2)=ql (aP.map (·.2))->Q (.ref l) (upd H l (.lst (rows'.map λr=>V.ref r.1)))
theorem ajE:iY X (.builtin "sorted") (W9 X.K):=(ah4.or ah5).or ahN
theorem sortI(p:ns'.Perm ns)(h:ns'.Pairwise (·<=·)):ns'=mG ltI ns:=ad1 aqV (λ_ _=>trivial) p (h.imp λ{a b} hab=>by unfold ltI;simp;exact hab)
theorem aeY:∀{x:Str}{r:List Str},risingS x r=aq->(x::r).Pairwise (λa b=>strLt b a=aM)
 |x,[],_=>vC.mpr ⟨λ_ m=>(nomatch m),Ku⟩
 |x,y::r,h=>by
  unfold risingS at h;rw[jP,Kw] at h;have ih:=aeY h.2;have hxy:strLt y x=aM:=by
   have:=h.1;unfold strLt;rw[lt_meets];exact this
  rw[vC]
  refine⟨λz m=>?_,ih⟩
  rcases bW.mp m with rfl|m
  .exact hxy
  .rw[vC] at ih;cases hz:strLt z x with
   |false=>rfl
   |true=>
    rcases afV.neg z y x trivial trivial trivial hz with h1|h1
    .rw[ih.1 z m] at h1;cases h1
    .rw[hxy] at h1;cases h1
theorem Xa(p:ns'.Perm ns)(h:sortedS ns'=aq):ns'=mG strLt ns:=ad1 afV (λ_ _=>trivial) p (by
 cases ns' with
 |nil=>exact Ku
 |cons x r=>exact aeY h)
theorem My:∀{xs:List aD}{ks:List Key},keysOf xs=aa ks->xs=ks.map mZ
 |[],ks,h=>by cases h;rfl
 |x::xs,ks,h=>by
  unfold keysOf at h;split at h
  .rename_i k t h1 h2;cases h;rw[My h2];have:x=mZ k:=by
    cases x<;>first|(cases h1;rfl)|cases h1
   rw[this];rfl
  .cases h
theorem HJ:∀ks:List Key,keysOf (ks.map mZ)=aa ks
 |[]=>rfl
 |k::ks=>by
  show(match fW (mZ k),keysOf (ks.map mZ) with|some k,some t=>aa (k::t)|_,_=>aj)=_
  rw[HJ ks];cases k<;>rfl
theorem ako{aP rows':List Row}(e:ds=aP.map (λr=>.tuple (r.2.map mZ)))(h:rows'.map (·.2)=ql (aP.map (·.2))):(rows'.map λr=>Bo (r.2.map mZ))=qR ds:=by
 have e1:ds.map rR=aP.map (·.2):=by
  rw[e,fD];refine xu λr _=>?_
  show(keysOf (r.2.map mZ)).getD []=r.2
  rw[HJ];rfl
 unfold qR;rw[e1,<-h,fD];rfl
theorem ab0(h:∀d∈ds,(qp d).isSome=aq):(qR ds).Perm ds:=by
 have:=(abT (ds.map rR)).map λk=>Bo (k.map mZ)
 refine this.trans (aih ?_);rw[fD]
 refine(xu λd hd=>?_).trans (DW ds)
 have hs:=h d hd;cases d with
 |tuple xs=>
  show Bo (((keysOf xs).getD []).map mZ)=.tuple xs;cases hk:keysOf xs with
  |none=>
   have hs:((keysOf xs).map λks=>ks.map cA).isSome=aq:=hs;rw[hk] at hs;cases hs
  |some ks=>rw[My hk];rfl
 |_=>cases hs
theorem U4:∀{ds:List aD}{vs:List V},(∀d∈ds,qp d=aa sh)->cu E ds vs->∃aP:List Row,vs=aP.map (λr=>V.ref r.1)/\ds=aP.map (λr=>.tuple (r.2.map mZ))/\∀r∈aP,E r.1=aa (.tup (r.2.map kV))/\r.2.map cA=sh
 |[],vs,_,r=>⟨[],r,rfl,λ_ m=>(nomatch m)⟩
 |d::ds,vs,h,r=>by
  obtain⟨u,w,rfl,q,s⟩:=r
  obtain⟨aP,e1,e2,e3⟩:=U4 (λd m=>h d (dM _ m)) s
  have hd:=h d cX;cases d<;>first|cases hd|skip
  rename_i xs;have hd:(keysOf xs).map (λks=>ks.map cA)=aa sh:=hd;cases hk:keysOf xs with
  |none=>rw[hk] at hd;cases hd
  |some ks=>
   rw[hk] at hd
   obtain⟨a,vs',rfl,ha,rr⟩:=q
   rw[zg hk rr] at ha
   refine⟨(a,ks)::aP,by rw[e1];rfl,by rw[e2,My hk];rfl,λr m=>?_⟩
   rcases bW.mp m with rfl|m
   .exact⟨ha,jy hd⟩
   .exact e3 r m
theorem Mz:∀{aP:List Row},(∀r∈aP,E r.1=aa (.tup (r.2.map kV)))->cu E (aP.map λr=>.tuple (r.2.map mZ)) (aP.map λr=>V.ref r.1)
 |[],_=>rfl
 |r::aP,h=>by
  refine⟨_,_,rfl,⟨r.1,r.2.map kV,rfl,h r cX,?_⟩,Mz λr m=>h r (dM _ m)⟩
  generalize r.2=ks;induction ks with
  |nil=>rfl
  |cons k ks ih=>exact⟨_,_,rfl,by cases k<;>rfl,ih⟩
theorem acR:∀{ds:List aD}{ns:List Int},intsOf ds=aa ns->ds=ns.map .int
 |[],ns,h=>by cases h;rfl
 |.int i::ds,ns,h=>by
  unfold intsOf at h;split at h
  .rename_i t ht;cases h;rw[acR ht];rfl
  .cases h
 |.none::_,_,h=>by cases h
 |.bool _::_,_,h=>by cases h
 |.str _::_,_,h=>by cases h
 |.list _::_,_,h=>by cases h
 |.tuple _::_,_,h=>by cases h
 |.dict _::_,_,h=>by cases h
theorem U5:∀{ds:List aD}{ns:List Str},strsOf ds=aa ns->ds=ns.map .str
 |[],ns,h=>by cases h;rfl
 |.str i::ds,ns,h=>by
  unfold strsOf at h;split at h
  .rename_i t ht;cases h;rw[U5 ht];rfl
  .cases h
 |.none::_,_,h=>by cases h
 |.bool _::_,_,h=>by cases h
 |.int _::_,_,h=>by cases h
 |.list _::_,_,h=>by cases h
 |.tuple _::_,_,h=>by cases h
 |.dict _::_,_,h=>by cases h
theorem akp{K:aZ}:lM K (W9 K) HH:=by
 intro Z Θ ao C σ H xs ds0 res S b e Q q;unfold HH at e;split at e
 case h_2=>cases e
 rename_i ds;cases hs:Jm ds with
 |none=>rw[hs] at e;cases e
 |some l=>
  rw[hs] at e;cases e
  obtain⟨v,rfl,bb⟩:=qL b
  obtain⟨a,vs,rfl,ha,r⟩:=bb.lst
  unfold Jm at hs;split at hs
  case isFalse=>cases hs
  rename_i hl;split at hs
  .rename_i ns hns;cases hs;have ev:=HB hns r;subst ev;refine .inl (.inl ⟨a,ns,rfl,cj.of ha,by rw[acR hns,bJ] at hl;exact hl,λl ns' hn p hp=>?_⟩);rw[sortI p hp];exact q _ _ (bD.upd hn) (rH S (alk _) hn)
  .split at hs
   .rename_i ns hns;cases hs;have ev:=U3 hns r;subst ev;refine .inl (.inr ⟨a,ns,rfl,cj.of ha,by rw[U5 hns,bJ] at hl;exact hl,λl ns' hn p hp=>?_⟩);rw[Xa p hp];exact q _ _ (bD.upd hn) (rH S (Uz _) hn)
   .split at hs
    .cases hs
     cases(show vs=[] from r)
     exact .inl (.inl ⟨a,[],rfl,cj.of ha,aR,λl ns' hn p hp=>by
      rw[List.perm_nil.mp p];exact q _ _ (bD.upd hn) (rH S rfl hn)⟩)
    .rename_i d0 dr hi1 hi2;split at hs
     case h_2=>cases hs
     rename_i b0 sh hsh;split at hs
     case isFalse=>cases hs
     rename_i hall;cases hs;have hall':∀d∈d0::dr,qp d=aa (b0::sh):=λd m=>of_decide_eq_true (nR.mp hall d m)
     obtain⟨aP,e1,e2,e3⟩:=U4 hall' r
     subst e1;refine .inr ⟨a,aP,b0,sh,rfl,cj.of ha,?_,λr m=>⟨jh (e3 r m).1,(e3 r m).2⟩,λl rows' hn p hp=>?_⟩
     .have:=congrArg zf e2;rw[bJ] at this;rw[<-this];exact hl
     .have es:(rows'.map λr=>Bo (r.2.map mZ))=qR (d0::dr):=ako e2 hp;rw[<-es] at q;exact q _ _ (bD.upd hn) (rH S (Mz λr m=>(e3 r (p.mem_iff.mp m)).1) hn)
def MF(ds:List aD):Option (List aD):=if ds.length<64 then match strsOf ds with
  |some ns=>aa ((mG strLt (dedup ns)).map .str)
  |none=>aj
 else aj
def PJ(f g:FB):FE:=λao C=>match f ao C with
 |some (.list ds,e1,C1)=>match g e1 C1 with
  |some (.int k,_,C2)=>match intsOf ds with
   |some ns=>aa (.im (.int (maxD k ns)),ao,C2)
   |none=>aj
  |_=>aj
 |_=>aj
theorem am9(hc:X.calm=aq)(hl:PE X l (eX X.K f))(hd:PE X de (eX X.K g))(hg:Gl X "max")(hm:X.mg "max"=aj)(he:bR [l] X.env=(aM,eval l X.env)::bR [] X.env:=by rfl):
  PE X (.Call (.Name "max" p) [l] [⟨aa "default",de,kp⟩] pos) (tE X.K (PJ f g)):=(amU hc hl hd hg hm he).weak λσ H Q aY=>by
 obtain⟨Z,Θ,ao,C,r,aV,C',S,hf,q⟩:=aY
 unfold PJ at hf;split at hf
 case h_2=>cases hf
 rename_i ds e1 C1 h1;split at hf
 case h_2=>cases hf
 rename_i k e2 C2 h2;split at hf
 case h_2=>cases hf
 rename_i ns hns;cases hf
 refine⟨Z,Θ,ao,C,_,e1,C1,S,h1,λv H1 k1 f1 S1 b1=>⟨Z,Θ,e1,C1,_,e2,C',S1,h2,λw H2 k2 f2 S2 b2=>?_⟩⟩
 obtain⟨a,vs,rfl,ha,r⟩:=(b1.go S1 k2 f2).lst
 rw[HB hns r] at ha
 exact⟨a,ns,k,rfl,b2,cj.of ha,q _ H2 (k1.trans k2) (Fz.refl _) ⟨S.go (k1.trans k2) S2.cell,rfl⟩⟩
def OJ:aD->aD->oVl
 |.str z,.list ds=>match strsOf ds with
  |some ys=>if(ys.map (·.length)).sum+ys.length*z.length<=gB then aa (.im (.str (Txt.join z ys))) else aj
  |none=>aj
 |_,_=>aj
def zV(f g:FB):FE:=aJ OJ f g
theorem ad3(ho:PE X o (eX X.K f))(he:PE X e (eX X.K g))
  (hbase:RC o "join" X.env (eval o X.env)=eval o X.env:=by rfl)
  (hfew:((jA cpos (bR [e] X.env)).all (λx=>!x.1)&&(Uj cpos (R0 [] X.env)).all (λx=>x.1.isSome)
   &&decide (([e]:List Expr).length+([]:List BL).length+(if([]:List BL).isEmpty then 0 else 1)<30))=aq:=by rfl)
  (hline:(apos.endLine==cpos.line)=aq:=by rfl)(hs:bR [e] X.env=(aM,eval e X.env)::bR [] X.env:=by rfl)(hplain:(jA cpos (bR [] X.env)).any (·.1)=aM:=by rfl):
  PE X (.Call (.Attribute o "join" apos) [e] [] cpos) (tE X.K (zV f g)):=
 (Xw PySem.F.plainAttrs_str PySem.F.slot_str_join PySem.F.type_str_join (Df.r amK) ho (rG he wg hs) hbase hfew hline hs hplain).weak λσ H Q aY=>by
  obtain⟨Z,Θ,ao,C,r,aV,C',S,hf,q⟩:=aY
  unfold zV aJ at hf;split at hf
  case h_2=>cases hf
  rename_i x e1 C1 h1;split at hf
  case h_2=>cases hf
  rename_i y e2 C2 h2;split at hf
  case h_2=>cases hf
  rename_i r0 h3;cases hf
  refine⟨Z,Θ,ao,C,x,e1,C1,S,h1,λv H1 k1 f1 S1 b1=>?_⟩
  unfold OJ at h3;split at h3
  case h_2=>cases h3
  rename_i z ds;split at h3
  case h_2=>cases h3
  rename_i ys hys;split at h3
  case isFalse=>cases h3
  rename_i hl;cases h3;cases b1.str
  refine⟨rfl,Z,Θ,e1,C1,_,e2,C',S1,h2,λw H2 k2 f2 S2 b2=>?_⟩
  obtain⟨a,vs,rfl,ha,rr⟩:=b2.lst
  rw[U3 hys rr] at ha;have kk:=k1.trans k2
  refine⟨z,a,ys,rfl,rfl,cj.of ha,by unfold gB at hl;lia,?_⟩
  exact q _ H2 kk ((f1.trans f2).rst _) (Res.rst S kk ⟨S2,rfl⟩)
abbrev FO:=En->Ce->Option (Option Int×Ce)
inductive J2(K:aZ)(f:FO)(σ:St)(H:Hp)(Q:Option Int->Hp->Prop):Prop
 |mk (Z Θ:List aC) (ao:En) (C:Ce) (o:Option Int) (C':Ce) (S:Sm K Z Θ ao C σ H) (hf:f ao C=aa (o,C')) (q:∀H',bD Θ H H'->Sm K Z Θ ao C' σ H'->Q o H'):J2 K f σ H Q
def qY:FO:=λ_ C=>aa (aj,C)
def mL(f:FB):FO:=λao C=>match f ao C with
 |some (.int i,_,C1)=>aa (aa i,C1)
 |_=>aj
def rZ{α:Type}(xs:List α)(lo hi:Option Int):List α:=(xs.drop (HT.cV xs.length 0 lo)).take (HT.cV xs.length xs.length hi-HT.cV xs.length 0 lo)
def vo(lo hi:Option Int):aD->oVl
 |.str z=>if z.length<=gB then aa (.im (.str (Txt.slice z lo hi))) else aj
 |.list ds=>aa (.ow (.list (rZ ds lo hi)))
 |.tuple ds=>aa (.im (.tuple (rZ ds lo hi)))
 |_=>aj
def nJ(f:FB)(lo hi:FO):FE:=λao C=>match f ao C with
 |some (d,e1,C1)=>match lo e1 C1 with
  |some (l,C2)=>match hi e1 C2 with
   |some (h,C3)=>match vo l h d with
    |some r=>aa (r,rst r ao e1,C3)
    |none=>aj
   |none=>aj
  |none=>aj
 |none=>aj
theorem V6{E:Hp}{lo hi:Option Int}(r:cu E ds vs):cu E (rZ ds lo hi) (uW vs lo hi):=by
 unfold rZ uW;rw[jG r];exact acG _ (acH _ r)
section
variable{X:Cx}{lo hi:Option Expr}
theorem PO.weak(h:PO X o t)(w:∀σ H Q,t' σ H Q->t σ H Q):PO X o t':=λau s σ H Q I q=>h au s σ H Q I (w σ H Q q)
theorem Jo:PO X aj (J2 X.K qY):=amB.weak λσ H Q aY=>by
 obtain⟨Z,Θ,ao,C,o,C',S,hf,q⟩:=aY
 cases hf;exact q H (bD.refl _ _) S
theorem yp(h:PE X e (eX X.K f)):PO X (aa e) (J2 X.K (mL f)):=(amC h).weak λσ H Q aY=>by
 obtain⟨Z,Θ,ao,C,o,C',S,hf,q⟩:=aY
 unfold mL at hf;split at hf
 .rename_i i e1 C1 h1;cases hf
  exact⟨Z,Θ,ao,C,_,e1,C',S,h1,λv H1 k f S1 b1=>⟨i,b1,q H1 k (S.go k S1.cell)⟩⟩
 .cases hf
theorem CJ{f:FB}{flo fhi:FO}(he:PE X e (eX X.K f))(hl:PO X lo (J2 X.K flo))(hh:PO X hi (J2 X.K fhi)):PE X (.Subscript e (.Slice lo hi aj p2) pos) (tE X.K (nJ f flo fhi)):=(ak1 ((aoC.or amE).or amP) he hl hh).weak λσ H Q aY=>by
 obtain⟨Z,Θ,ao,C,r,aV,C',S,hf,q⟩:=aY
 unfold nJ at hf;split at hf
 case h_2=>cases hf
 rename_i d e1 C1 h1;split at hf
 case h_2=>cases hf
 rename_i l C2 h2;split at hf
 case h_2=>cases hf
 rename_i h C3 h3;split at hf
 case h_2=>cases hf
 rename_i r0 h4;cases hf
 refine⟨Z,Θ,ao,C,d,e1,C1,S,h1,λv H1 k1 f1 S1 b1=>⟨Z,Θ,e1,C1,l,C2,S1,h2,λH2 k2 S2=>⟨Z,Θ,e1,C2,h,C',S2,h3,λH3 k3 S3=>?_⟩⟩⟩
 have kk:=(k1.trans k2).trans k3;have b3:=b1.go S1 (k2.trans k3) (Fz.refl _);have fin:∀{w:V}{H4:Hp},bD Θ H3 H4->Res X.K Z Θ e1 C' σ H3 H4 r w->Q w H4:=λ{w H4} k4 R=>q w H4 (kk.trans k4) (f1.rst _) ((R.from kk).rst S (kk.trans k4))
 cases d<;>first|cases h4|skip
 .rename_i z;simp only[vo] at h4;split at h4
  .rename_i hz;cases h4;cases b3.str;exact .inl (.inl ⟨z,rfl,vU hz,fin (bD.refl _ _) (jV S3 rfl rfl)⟩)
  .cases h4
 .obtain⟨a,vs,rfl,ha,rr⟩:=b3.lst
  exact .inl (.inr ⟨a,vs,rfl,cj.of ha,λp hp=>fin (bD.upd hp) (rH S3 (V6 rr) hp)⟩)
 .rename_i ds;have b3':=b3
  obtain⟨a,vs,rfl,ha,rr⟩:=b3.tup
  refine .inr ⟨a,vs,rfl,cU.of ha,λec=>?_,λp hp=>fin (bD.upd hp) (Nm S3 (V6 rr) hp)⟩;have rc:=V6 (lo:=l) (hi:=h) rr;rw[ec] at rc;refine fin (bD.refl _ _) ⟨S3,a,vs,rfl,IK S3 ha,rc⟩
end
def zW(T:kh)(ft:FT)(fk fv:FE)(fs:En):List aD->List (aD×aD)->Ce->Option (List (aD×aD)×Ce)
 |[],bu,C=>aa (bu,C)
 |d::r,bu,C=>match Di T d with
  |some ts=>match ft (eG ts++fs) C with
   |some (false,C1)=>zW T ft fk fv fs r bu C1
   |some (true,C1)=>match fk (eG ts++fs) C1 with
    |some (.im k,_,C2)=>match fv (eG ts++fs) C2 with
     |some (x,_,C3)=>match still x,fW k with
      |.im y,some kk=>if bu.length<gB then zW T ft fk fv fs r (pL fW kk k y bu) C3 else aj
      |_,_=>aj
     |none=>aj
    |_=>aj
   |none=>aj
  |none=>aj
def oA:List (aD×aD)->Bool
 |[]=>aq
 |p::r=>jf p.2&&oA r
def J3(fi:FI)(T:kh)(ft:FT)(fk fv:FE)(js:List Nat):FE:=λao C=>match fi ao C with
 |some (aK,e1,C1)=>match zW T ft fk fv (frB js e1) aK [] C1 with
  |some (aA,C2)=>aa (.ow (.dict aA),if oA aA then e1 else jg js e1,C2)
  |none=>aj
 |none=>aj
theorem gA.jf(t:∀a vs,H a=aa (.tup vs)->H' a=aa (.tup vs)):∀{ds:List (aD×aD)}{vs:List V},oA ds=aq->gA H ds vs->gA H' ds vs
 |[],_,_,h=>h
 |(k,d)::ds,vs,n,h=>by
  obtain⟨v,r,e,q,w⟩:=h
  have n':L2.jf d=aq/\oA ds=aq:=by rw[oA,jP] at n;exact n
  exact⟨v,r,e,RZ.jf t n'.1 q,gA.jf t n'.2 w⟩
def Yj(fk fv:FE):En->List (aD×aD)->Ce->Option (List (aD×aD)×Ce):=λao bu C=>(fk ao C).bind λp=>(vg p.1).bind λk=>(fv ao p.2.2).bind λq=>(vg (still q.1)).bind λy=>(fW k).bind λkk=>bif decide (bu.length<gB) then aa (pL fW kk k y bu,q.2.2) else aj
theorem V7:∀{aK:List aD}{bu:List (aD×aD)}{C:Ce},zW T ft fk fv fs aK bu C=aa p->wK T ft (Yj fk fv) fs aK bu C=aa p
 |[],bu,C,h=>h
 |d::r,bu,C,h=>by
  unfold zW at h;unfold wK;split at h
  case h_2=>cases h
  rename_i ts ht;rw[ht,jx];split at h
  case h_3=>cases h
  .rename_i C1 hf;rw[hf,jx];exact V7 h
  .rename_i C1 hf;rw[hf,jx]
   show(Yj fk fv (eG ts++fs) bu C1).bind _=_
   unfold Yj;split at h
   case h_2=>cases h
   rename_i k e2 C2 hk;rw[hk,jx,show vg (.im k)=aa k from rfl,jx];split at h
   case h_2=>cases h
   rename_i x e3 C3 hx;rw[hx,jx];split at h
   case h_2=>cases h
   rename_i y kk hy hkk;rw[hy,show vg (.im y)=aa y from rfl,jx,hkk,jx];split at h
   case isFalse=>cases h
   rename_i hl;rw[gr hl];exact V7 h
inductive QB(P:List aC)(D:aC)(bu:List (aD×aD))(H:Hp):Prop
 |mk (ks:List Key) (vs:List V) (hk:dh fW bu=aa ks) (hD:∃ep,H D=aa (.dK (ks.zip vs) ep)) (r:gA (er P H) bu vs):QB P D bu H
theorem ana{K:aZ}{fi:FI}{T:kh}{ft:FT}:∀σ H Q,tE K (J3 fi T ft fk fv js) σ H Q->tDC K (tI K aq fi) T (λ_=>gM K ft) (λ_=>tE K fk) (λ_=>tE K fv) js σ H Q:=by
 rintro σ H Q ⟨Z,Θ,ao,C,res,aV,C',S,hf,q⟩;unfold J3 at hf;split at hf
 case h_2=>cases hf
 rename_i aK e1 C1 h1;split at hf
 case h_2=>cases hf
 rename_i aA C2 h2;cases hf
 refine⟨Z,Θ,ao,C,aK,e1,C1,S,h1,λJ H1 k1 f1 S1 it D hD b=>?_⟩
 have t6:D∉Θ:=λm=>(S1.cell.dom D m).ne hD
 have Y6:D∈bB (mW D Z (jg js e1) σ) Θ [] []:=(qG (js:=js) rfl).mpr (.inl rfl);have Gv:∀a Hx Hy,bD Θ Hx Hy->QB (bB (mW D Z (jg js e1) σ) Θ [] []) D a Hx->QB (bB (mW D Z (jg js e1) σ) Θ [] []) D a Hy:=λa Hx Hy kk r=>by
  obtain⟨ks,vs,g1,g2,g3⟩:=r
  obtain⟨ep,g2⟩:=g2
  exact⟨ks,vs,g1,⟨ep,kk.keep _ _ g2 t6⟩,g3.same (nD kk (λa m=>gO.mpr (.inr (.inl m))) λa m=>.inl m)⟩
 refine UT (a0:=[]) (Ob:=QB (bB (mW D Z (jg js e1) σ) Θ [] []) D) S1 it hD ⟨[],[],rfl,⟨0,eV⟩,rfl⟩ Gv (λa Hx r=>by obtain⟨ks,vs,_,⟨ep,e⟩,_⟩:=r;exact⟨_,e,λ_ z=>nomatch z⟩) ?_ (V7 h2) λH2 ki ci r=>?_
 .intro ts bu C2 p vs H4 Q hs S4 k4 r4 hQ
  obtain⟨w,hfk,hs⟩:=fZ hs
  obtain⟨kd,Yk,hs⟩:=fZ hs
  obtain⟨w2,hfv,hs⟩:=fZ hs
  obtain⟨yd,vm,hs⟩:=fZ hs
  obtain⟨kk,hkd,hs⟩:=fZ hs
  have Yk:=IV Yk;have vm:=IV vm;cases hlt:decide (bu.length<gB) with
  |false=>rw[hlt] at hs;cases hs
  |true=>
  rw[hlt] at hs;cases hs
  refine⟨_,Θ,_,C2,w.1,w.2.1,w.2.2,S4,hfk,λy H5 k5 f5 R5=>?_⟩
  rw[Yk] at R5;have S5:=S4.go k5 R5.1.cell
  refine⟨_,Θ,_,w.2.2,w2.1,w2.2.1,w2.2.2,S5,hfv,λz H6 k6 f6 R6=>?_⟩
  obtain⟨S6,r6⟩:=R6.yo vm
  obtain⟨ks,yG,hks,hD6,r6'⟩:=Gv _ _ _ (k5.trans k6) r4
  have Y7:bV w2.2.1 (vs.map aa++frees js σ)=[]:=by
   have:=(Fz.own (σ:=vs.map aa++frees js σ) f6)
   rw[Ff OD] at this;exact ah7.mp this
  have e6:er (bB (mW D Z (jg js e1) σ) Θ w2.2.1 (vs.map aa++frees js σ)) H6=er (bB (mW D Z (jg js e1) σ) Θ [] []) H6:=uI λa=>by rw[qG (js:=js) Y7,qG (js:=js) rfl]
  rw[e6] at r6
  obtain⟨ks',vs',g3,g4,g5⟩:=BV hkd r6 hks r6'
  have lt:=of_decide_eq_true hlt
  refine⟨ks.zip yG,kk,hD6,aoM hkd R5.2,?_,λe=>hQ _ (W7 (Hy:=H6) hD ((k4.trans k5).trans k6)) (Mx t6 S6.cell) ⟨ks',vs',g3,⟨e,by rw[g5];exact eV⟩,?_⟩⟩
  .rw[Be,jQ,uz hks];unfold gB at lt;lia
  .rw[Oz Y6];exact g4
 .obtain⟨ks,yG,hks,⟨ep,hDi⟩,ri⟩:=r
  refine q _ H2 (k1.trans ki) ?_ ?_
  .split
   .exact f1
   .exact f1.trans (Fe js e1)
  .refine⟨D,rfl,k1.none hD,?_⟩
   split
   .rename_i hn;have SD:=S1.Fv hD ki ⟨_,hDi,λ_ z=>nomatch z⟩ ci
    exact⟨SD,yG,.inl ⟨ks,hks,ep,hDi⟩,ri.jf (λa vs e=>IK SD (jh e)) hn⟩
   .refine⟨(S1.fz (Fe js e1)).Fv hD ki ⟨_,hDi,λ_ z=>nomatch z⟩ ci,yG,.inl ⟨ks,hks,ep,hDi⟩,?_⟩
    rw[uI (P':=bB (D::Z) Θ (jg js e1) σ) λa=>by rw[qG (js:=js) rfl];show _↔a∈D::bB Z Θ (jg js e1) σ;rw[bW]] at ri;exact ri
section
variable{X:Cx}{NT NF:List Str}{js:List Nat}{T:kh}{fi:FI}{ft:FT}{fk fv:FE}{scope:kJ}{pos:Pos}
theorem alA(B:rP X NT NF js scope)(tk:qO tg NT T)(hc:X.calm=aq)(hu:X.A.units+1<iM)(hi:PI X tg iter (tI X.K aq fi))
  (hin:∀b,pO (X.bk (NT++NF) scope b) ifs (gM X.K ft)/\PE (X.bk (NT++NF) scope b) kx (tE X.K fk)/\PE (X.bk (NT++NF) scope b) vx (tE X.K fv))
  (hsw:sW (.DictComp kx vx [⟨tg,iter,ifs,0⟩] scope pos) (aa (.Name y pos')) spos.line X.env=pure aq)(hN:X.N.Nodup)(hI:X.N[i]?=aa y)(hy:X.env.scope.names.lookup y=aa .local)
  (hs:∀x,vD iter X.env x=pure x:=by intro _;rfl):PS X (.Assign [.Name y pos'] (.DictComp kx vx [⟨tg,iter,ifs,0⟩] scope pos) spos) (tS X.K (cB i (J3 fi T ft fk fv js))):=(ak9 B tk hc hu hi hin hsw hN hI hy hs).weak (UL ana)
end
section
variable{X:Cx}
theorem abu(hc:X.calm=aq):iY X (.builtin "max") (λxs H Q=>∃(p:aC)(ns:List Int),xs=[.ref p]/\cj X.K H p (ns.map V.int)/\ns≠[]/\Q (.int (maxD 0 ns)) H):=by
 intro au s σ H xs us Q I r h
 obtain⟨p,ns,rfl,hq,hne,q⟩:=h
 obtain⟨u,rfl,rx⟩:=vals1 r
 cases rx
 obtain⟨aK,r',pl,hz⟩:=I.list hq
 have hi:IntsAre aK ns:=intsAre_of r';have ln:aK.length=ns.length:=hi.length;have pos:0<ns.length:=Kl.mpr hne;have hl:=pl.isList;have Al:p<s.heap.objs.size:=by obtain⟨o,ho,_⟩:=hl;exact cG ho
 have val:∀(i:Nat)(v:aN),aK.toArray[i]?=aa v->∃t,v=Bt (ns.getD i 0) t:=λi v hv=>IntsAre.int_at hi i v (by simpa using hv)
 have hh:=I.ok.hd hc;refine call_max_walk (Ks hl ?_)
 refine⟨_,_,_,_,_,_,_,rfl,Sv (prog:=X.prog) (w:=X.w) (A:=X.A.in1) (by simp[hh]) s.heap.objs.size p (fQ Al) aK.toArray,⟨⟨_,gj _ rfl,rfl,rfl⟩,hl.push _⟩,λb hb=>?_,by rw[gZ,ln];exact pos,aiF (λi=>ns.getD i 0) val,λv h' tk hP hk=>?_⟩
 .rw[sH];simp only[bW,iT,or_false] at hb;rcases hb with rfl|rfl
  .exact KC _
  .exact vG Al
 .rw[gZ,ln] at hP
  obtain⟨t,e⟩:=val _ v hP
  rw[adN ns pos 0] at e;subst e
  refine⟨.int _,H,I.kept (t':=tk) λb o e=>hk b o ?_ (cD _ e),⟨_,rfl⟩,q⟩
  simp only[bW,iT,or_false];exact fQ (cG e)
def wG:List aD->oVl
 |[.list ds]=>match intsOf ds with
  |some (n::ns)=>aa (.im (.int (maxD 0 (n::ns))))
  |_=>aj
 |_=>aj
theorem ad4{K:aZ}:lM K (λxs H Q=>∃(p:aC)(ns:List Int),xs=[.ref p]/\cj K H p (ns.map V.int)/\ns≠[]/\Q (.int (maxD 0 ns)) H) wG:=by
 intro Z Θ ao C σ H xs ds res S b e Q q;unfold wG at e;split at e
 case h_2=>cases e
 rename_i ds;split at e
 case h_2=>cases e
 rename_i n ns hns;cases e
 obtain⟨v,rfl,bb⟩:=qL b
 obtain⟨a,vs,rfl,ha,r⟩:=bb.lst
 rw[HB hns r] at ha
 exact⟨a,_,rfl,cj.of ha,(λz=>nomatch z),q _ H (bD.refl _ _) (jV S rfl rfl)⟩
def Nr:List aD->oVl
 |[.dict []]=>aj
 |[.dict ((k,v)::r)]=>match qp k with
  |some (b::sh)=>if r.length<63/\(((k,v)::r).all λp=>decide (qp p.1=aa (b::sh)))=aq then aa (.ow (.list (qR (((k,v)::r).map (·.1))))) else aj
  |_=>aj
 |_=>aj
theorem ab1:∀{aA:List (aD×aD)}{ks:List (List Key)},dh jC aA=aa ks->(∀p∈aA,qp p.1=aa sh)->aA.map (·.1)=ks.map (λk=>.tuple (k.map mZ))/\∀k∈ks,k.map cA=sh
 |[],ks,h,_=>by cases h;exact⟨rfl,λ_ m=>(nomatch m)⟩
 |(p,d)::aA,ks,h,hs=>by
  unfold dh at h;split at h
  .rename_i k t h1 h2;cases h
   obtain⟨g1,g2⟩:=ab1 h2 λq m=>hs q (dM _ m)
   have hp:=hs (p,d) cX
   obtain⟨xs,rfl,hx⟩:∃xs,p=.tuple xs/\keysOf xs=aa k:=by
    have h1':jC p=aa k:=h1;cases p with
    |tuple xs=>exact⟨xs,rfl,h1'⟩
    |_=>cases h1'
   have hp:(keysOf xs).map (λks=>ks.map cA)=aa sh:=hp;rw[hx] at hp
   refine⟨by rw[dN,g1,My hx];rfl,λk' m=>?_⟩
   rcases bW.mp m with rfl|m
   .exact jy hp
   .exact g2 k' m
  .cases h
theorem alB{K:aZ}:lM K (λxs H Q=>∃(d:aC)(aA:List (List Key×V))(b:Bool)(sh:List Bool),xs=[.ref d]/\Gm H d aA/\aA.length<64/\(∀kv∈aA,kv.1.map cA=b::sh)/\
  ∀(l:aC)(aP:List Row),H l=aj->(aP.map (·.2)).Perm (aA.map (·.1))->aP.map (·.2)=ql (aA.map (·.1))->(∀r∈aP,H r.1=aa (.tup (r.2.map kV)))->Q (.ref l) (upd H l (.lst (aP.map λr=>V.ref r.1)))) Nr:=by
 intro Z Θ ao C σ H xs ds res S b e Q q;unfold Nr at e;split at e
 .cases e
 .rename_i k0 v0 r0;split at e
  case h_2=>cases e
  rename_i b0 sh hsh;split at e
  case isFalse=>cases e
  rename_i hall;cases e;have hall':∀p∈(k0,v0)::r0,qp p.1=aa (b0::sh):=λd m=>of_decide_eq_true (nR.mp hall.2 d m)
  obtain⟨v,rfl,bb⟩:=qL b
  obtain⟨a,vs,rfl,da,r⟩:=bb.dct
  rcases da with⟨ks,h1,ha⟩|⟨ks,⟨ne,h2⟩,ha⟩
  .exfalso;unfold dh at h1;split at h1
   .rename_i k' t g1 g2;have g1:fW k0=aa k':=g1;cases k0<;>first|cases g1|skip
    all_goals cases hsh
   .cases h1
  .obtain⟨e1,e2⟩:=ab1 h2 hall'
   have lk:=uz h2;have lr:=Es r;have ez:(ks.zip vs).map (·.1)=ks:=by
    rw[Rp];rw[lk,lr];exact cz _
   refine⟨a,ks.zip vs,b0,sh,rfl,rdT ha,?_,λkv m=>e2 kv.1 (Rr (a:=kv.1) (b:=kv.2) m).1,λl aP hn p hp hr=>?_⟩
   .rw[Be,lk,lr,dW];lia
   .rw[ez] at hp;have ek:(((k0,v0)::r0).map (·.1)).map rR=ks:=by
     rw[e1,fD]
     refine(xu λk _=>?_).trans (DW ks)
     show(keysOf (k.map mZ)).getD []=k
     rw[HJ];rfl
    have es:(aP.map λr=>Bo (r.2.map mZ))=qR (((k0,v0)::r0).map (·.1)):=by
     unfold qR;rw[ek,<-hp,fD];rfl
    rw[<-es] at q;exact q _ _ (bD.upd hn) (rH S (Mz λr m=>IK S (hr r m)) hn)
 .cases e
theorem Xb{K:aZ}(h:lM K r op)(h':lM K r' op'):lM K (λxs H Q=>r xs H Q\/r' xs H Q) (λds=>match op ds with|some z=>aa z|none=>op' ds):=by
 intro Z Θ ao C σ H xs ds res S b e Q q;cases h1:op ds with
 |some z=>
  simp only[h1] at e;cases e;exact .inl (h Z Θ ao C σ H xs ds _ S b h1 Q q)
 |none=>
  simp only[h1] at e;exact .inr (h' Z Θ ao C σ H xs ds res S b e Q q)
end
noncomputable def qT:List aD->List aD->List aD
 |x::xs,y::ys=>.tuple [x,y]::qT xs ys
 |_,_=>[]
theorem V8:∀{xs ys:List aD}{i:Nat}{d:aD},(qT xs ys)[i]?=aa d->∃x y,xs[i]?=aa x/\ys[i]?=aa y/\d=.tuple [x,y]
 |[],_,i,d,h=>by simp[qT] at h
 |_::_,[],i,d,h=>by simp[qT] at h
 |x::xs,y::ys,0,d,h=>by
  simp[qT] at h
  exact⟨x,y,rfl,rfl,h.symm⟩
 |x::xs,y::ys,i+1,d,h=>by
  obtain⟨a,b,h1,h2,h3⟩:=V8 (i:=i) (by simpa[qT] using h)
  exact⟨a,b,by simpa using h1,by simpa using h2,h3⟩
theorem U6:∀{xs ys:List aD},(qT xs ys).length=min xs.length ys.length
 |[],_=>by simp[qT]
 |_::_,[]=>by simp[qT]
 |x::xs,y::ys=>by simp[qT,U6,Nat.succ_min_succ]
theorem aoX{K:aZ}{H:Hp}{a b:aC}{vs ws:List V}(ha:er T H a=aa (.lst vs))(hb:er T H b=aa (.lst ws))(r1:cu (er P H) ds vs)(r2:cu (er P H) es ws):yF P T H (YK K a b) (qT ds es):=λi H2 P2 s1 s2 n=>by
 have h2:cj K H2 a vs:=cj.of (jh (s2 _ _ ha));have h3:cj K H2 b ws:=cj.of (jh (s2 _ _ hb))
 refine⟨λd hd=>?_,λhi=>⟨vs,ws,h2,h3,by rw[hi,U6,jG r1,jG r2]⟩⟩
 obtain⟨x,y,e1,e2,rfl⟩:=V8 hd
 obtain⟨v,ev,rv⟩:=wu r1 e1
 obtain⟨w,ew,rw'⟩:=wu r2 e2
 refine⟨⟨vs,ws,h2,h3,?_⟩,λz H3 yl=>?_⟩
 .have l1:=(jO.mp ev).1;have l2:=(jO.mp ew).1;lia
 .obtain⟨p,v',w',hp,rfl,rfl,hh⟩:=yl
  obtain⟨g1,g2⟩:=hh vs ws h2 h3
  rw[ev] at g1;rw[ew] at g2;cases g1;cases g2;have sp:cH H2 (upd H2 p (.tup [v,w])):=cH.upd hp
  refine⟨sp,p,[v,w],rfl,?_,v,[w],rfl,rv.same (s1.trans (Ni sp)),w,[],rfl,rw'.same (s1.trans (Ni sp)),rfl⟩
  unfold er;rw[bH (λm=>(n p m).ne hp),eV]
section
variable{X:Cx}{tg e:Expr}
def Yl:aD->Option (List aD)
 |.list ds=>aa ds
 |.tuple ds=>aa ds
 |_=>aj
def wY(f:FB):FI:=λao C=>match f ao C with
 |some (d,e1,C1)=>match Yl d with
  |some aK=>aa (aK,e1,C1)
  |none=>aj
 |none=>aj
def iV2(f:FE):FI:=λao C=>match f ao C with
 |some (r,e1,C1)=>match still r with
  |.im d=>match Yl d with
   |some aK=>aa (aK,e1,C1)
   |none=>aj
  |_=>aj
 |none=>aj
theorem FJ(h:PE X e (eX X.K f)):PI X tg e (tI X.K aq (wY f)):=((Vv h).or (WR h)).weak λσ H R aY=>by
 obtain⟨Z,Θ,ao,C,aK,aV,C',S,hf,q⟩:=aY
 unfold wY at hf;split at hf
 .rename_i d e1 C1 h1;split at hf
  .rename_i ys hi;cases hf;cases d<;>first|cases hi|skip
   .refine .inl ⟨Z,Θ,ao,C,_,aV,C',S,h1,λv H1 k f S1 b=>?_⟩
    obtain⟨a,vs,rfl,ha,r⟩:=b
    exact⟨a,rfl,⟨vs,cj.of (jh ha)⟩,q _ H1 k f S1 (V4 ha r)⟩
   .refine .inr ⟨Z,Θ,ao,C,_,aV,C',S,h1,λv H1 k f S1 b=>?_⟩
    obtain⟨a,vs,rfl,ha,r⟩:=b
    exact⟨a,rfl,⟨vs,cU.of (jh ha)⟩,q _ H1 k f S1 (W6 ha r)⟩
  .cases hf
 .cases hf
theorem ait(hc:X.calm=aq):iY X (.builtin "sorted") (λxs H Q=>∃d:aC,xs=[.ref d]/\(∃ep,H d=aa (.dK [] ep))/\∀l,H l=aj->Q (.ref l) (upd H l (.lst []))):=by
 intro au s σ H xs us Q I r h
 obtain⟨d,rfl,⟨ep,hd⟩,q⟩:=h
 refine bY (aai hc au s σ (upd H d (.dT [] ep)) [.ref d] us (λv H'=>∃l,v=.ref l/\H l=aj/\H'=upd (upd H d (.dT [] ep)) l (.lst [])) (I.Qx hd) r ⟨d,[],aq,[],rfl,⟨ep,.inl eV⟩,aR,(λ_ m=>nomatch m),λl aP hl p _ _=>?_⟩) λu s' ⟨v,H',I',rv,l,ev,hl,eH⟩=>?_
 .have:aP=[]:=by
   cases aP with
   |nil=>rfl
   |cons _ _=>exact absurd p.length_eq bI
  subst this
  refine⟨l,rfl,?_,rfl⟩
  by_cases z:l=d
  .subst z;rw[eV] at hl;cases hl
  .rw[cP z] at hl;exact hl
 .subst ev eH;have nd:d≠l:=pX hd hl;have e:upd (upd H d (.dT [] ep)) l (.lst [])=upd (upd H l (.lst [])) d (.dT [] ep):=by
   funext b;by_cases h1:b=l
   .subst h1;rw[eV,cP (j5 nd),eV]
   .rw[cP h1];by_cases h2:b=d
    .subst h2;rw[eV,eV]
    .rw[cP h2,cP h2,cP h1]
  rw[e] at I'
  exact⟨.ref l,_,I'.YT (by rw[cP nd];exact hd),rv,q l hl⟩
def V9:List aD->oVl
 |[.dict []]=>aa (.ow (.list []))
 |_=>aj
theorem alC{K:aZ}:lM K (λxs H Q=>∃d:aC,xs=[.ref d]/\(∃ep,H d=aa (.dK [] ep))/\∀l,H l=aj->Q (.ref l) (upd H l (.lst []))) V9:=by
 intro Z Θ ao C σ H xs ds res S b e Q q;unfold V9 at e;split at e
 case h_2=>cases e
 cases e
 obtain⟨v,rfl,bb⟩:=qL b
 obtain⟨a,vs,rfl,da,r⟩:=bb.dct
 rcases da with⟨ks,h1,ha⟩|⟨ks,⟨ne,_⟩,_⟩
 .cases h1
  exact⟨a,rfl,ha,λl hl=>q _ _ (bD.upd hl) (rH S rfl hl)⟩
 .exact absurd rfl ne
def uE(ds:List aD):oVl:=match HH ds with
 |some z=>aa z
 |none=>match Nr ds with
  |some z=>aa z
  |none=>V9 ds
abbrev O1(K:aZ):List V->Hp->VK->Prop:=λxs H Q=>W9 K xs H Q\/((∃(d:aC)(aA:List (List Key×V))(b:Bool)(sh:List Bool),xs=[.ref d]/\Gm H d aA/\aA.length<64/\(∀kv∈aA,kv.1.map cA=b::sh)/\
  ∀(l:aC)(aP:List Row),H l=aj->(aP.map (·.2)).Perm (aA.map (·.1))->aP.map (·.2)=ql (aA.map (·.1))->(∀r∈aP,H r.1=aa (.tup (r.2.map kV)))->Q (.ref l) (upd H l (.lst (aP.map λr=>V.ref r.1))))\/∃d:aC,xs=[.ref d]/\(∃ep,H d=aa (.dK [] ep))/\∀l,H l=aj->Q (.ref l) (upd H l (.lst [])))
theorem SJ(hc:X.calm=aq):iY X (.builtin "sorted") (O1 X.K):=ajE.or ((aai hc).or (ait hc))
theorem U7{K:aZ}:lM K (O1 K) uE:=Xb akp (Xb alB alC)
end
def XF:FN:=λ_ _=>aj
theorem anb{P:fj}{w:c7}{K:aZ}{base:cg}{f:aC}{ps:List Str}:fK P w K mg base fU 0 f fd ps (spT K XF):=by
 have no:∀vs H Q E,¬spT K XF vs H Q E:=λvs H Q E ⟨_,_,_,_,_,_,_,_,h,_⟩=>nomatch h
 exact⟨λ_ _ _ _ h=>(no _ _ _ _ h).elim,λ_ _ _ _ _ _ _ _ _ _ _ _ _ h=>(no _ _ _ _ h).elim⟩
def uZ(i:Nat)(f:FB):FE:=λao C=>match ao[i]? with
 |some (some (.ce n))=>match f ao C with
  |some (.int k,_,C1)=>match C1[n]? with
   |some ns=>match fL ns k with
    |some z=>aa (.im (.int z),ao,C1)
    |none=>aj
   |none=>aj
  |_=>aj
 |_=>aj
theorem Cp(ho:PE X o (qj i))(hk:PE X k (eX X.K f))(hs:BK k):PE X (.Subscript o k pos) (tE X.K (uZ i f)):=(Jj VF ho hk hs).weak λσ H Q aY=>by
 obtain⟨Z,Θ,ao,C,r,aV,C',S,hf,q⟩:=aY
 unfold uZ at hf;split at hf
 case h_2=>cases hf
 rename_i n h0;split at hf
 case h_2=>cases hf
 rename_i z e1 C1 h1;split at hf
 case h_2=>cases hf
 rename_i ns hns;split at hf
 case h_2=>cases hf
 rename_i y hy;cases hf
 obtain⟨v,ev,a,rfl,hth⟩:=S.slot i _ h0
 refine⟨_,ev,Z,Θ,ao,C,_,e1,C',S,h1,λw H1 k1 f1 S1 b1=>?_⟩
 have S2:=S.go k1 S1.cell;have ha:=S1.cell.at_ n a ns hth hns
 refine⟨a,_,z,.int y,rfl,b1,cj.of ha,?_,q _ H1 k1 (Fz.refl _) ⟨S2,rfl⟩⟩
 unfold fL at hy⊢;rw[bJ];cases hj:pN ns.length z with
 |none=>rw[hj] at hy;cases hy
 |some j=>
  rw[hj] at hy
  show(ns.map V.int)[j]?=_
  rw[jw,show ns[j]?=aa y from hy];rfl
theorem aeZ{C:Ce}(h:C[b]?=aa l):(C.set b l')[b]?=aa l':=by
 rw[Rj,bG rfl,bG (jO.mp h).1]
theorem acS{C C':Ce}(h:C'.length=C.length):C'.take C.length=C':=List.take_of_length_le az
theorem mul_eq(h:(-18446744073709551616<i/\i<18446744073709551616)\/(-18446744073709551616<j/\j<18446744073709551616)):jX (.int i) (.int j)=aa (.im (.int (i*j))):=by
 unfold jX;exact bG h
theorem mod_eq(h:0<j):mQ (.int i) (.int j)=aa (.im (.int (i%j))):=by
 unfold mQ;exact bG h
theorem fdiv_eq(h:0<j)(h1:j<1073741824):zO (.int i) (.int j)=aa (.im (.int (i / j))):=by
 unfold zO;exact bG ⟨h,h1⟩
theorem acT(I:Nat->En->Ce->Prop):∀{aK:List aD}{ao:En}{C:Ce}{k:Nat},I k ao C->
  (∀i d ao C,aK[i]?=aa d->I (k+i) ao C->∃e1 fl aV C',g d ao=aa e1/\body e1 C=aa (fl,aV,C')/\(fl=.nx\/fl=.ct)/\I (k+i+1) aV C')->
  ∃aV C',jY g body aK ao C=aa (.nx,aV,C')/\I (k+aK.length) aV C'
 |[],ao,C,k,h,_=>⟨ao,C,rfl,h⟩
 |d::r,ao,C,k,h,st=>by
  obtain⟨e1,fl,aqW,C1,h1,h2,h3,h4⟩:=st 0 d ao C rfl h
  obtain⟨aqX,C2,h5,h6⟩:=acT I (aK:=r) (ao:=aqW) (C:=C1) (k:=k+1) h4 λi d' ao C hd hi=>by
   have:=st (i+1) d' ao C (by simpa using hd) (by rw[show k+(i+1)=k+1+i by lia];exact hi);rw[show k+(i+1)+1=k+1+i+1 by lia] at this;exact this
  refine⟨aqX,C2,?_,by rw[dW,show k+(r.length+1)=k+1+r.length by lia];exact h6⟩
  unfold jY;rw[h1];simp only;rw[h2];rcases h3 with rfl|rfl<;>exact h5
theorem Hr(I:Nat->En->Ce->Prop)(h:I 0 ao C)
  (st:∀i d ao C,aK[i]?=aa d->I i ao C->∃e1 fl aV C',g d ao=aa e1/\body e1 C=aa (fl,aV,C')/\(fl=.nx\/fl=.ct)/\I (i+1) aV C'):
  ∃aV C',jY g body aK ao C=aa (.nx,aV,C')/\I aK.length aV C':=by
 have:=acT I (k:=0) h λi d ao C hd hi=>by
  rw[zc] at hi⊢;exact st i d ao C hd hi
 rw[zc] at this;exact this
theorem vX(lo:Int)(n:Nat):(gf lo n).length=n:=by unfold gf;rw[bJ,pC]
theorem tK{lo:Int}(h:(gf lo n)[i]?=aa d):d=.int (lo+i)/\i<n:=by
 unfold gf at h;rw[jw] at h;by_cases hi:i<n
 .rw[ahv hi] at h
  exact⟨(jy h).symm,hi⟩
 .rw[Dr (by rw[pC];lia)] at h;cases h
theorem Mi(I:Nat->Ce->Prop)(R:Nat->aD->Prop):∀{aK:List aD}{C:Ce}{k:Nat},I k C->(∀i d C,aK[i]?=aa d->I (k+i) C->∃ts x e C' y,Di T d=aa ts/\fe (eG ts++fs) C=aa (x,e,C')/\still x=.im y/\R (k+i) y/\I (k+i+1) C')->
  ∃ys C',lJ T gF fe fs aK C=aa (ys,C')/\I (k+aK.length) C'/\ys.length=aK.length/\∀i y,ys[i]?=aa y->R (k+i) y
 |[],C,k,h,_=>⟨[],C,rfl,h,rfl,λi y e=>by simp at e⟩
 |d::r,C,k,h,st=>by
  obtain⟨ts,x,e,C1,y,h1,h2,h3,h4,h5⟩:=st 0 d C rfl h
  obtain⟨ys,C2,h6,h7,h8,h9⟩:=Mi I R (aK:=r) (C:=C1) (k:=k+1) h5 λi d' C hd hi=>by
   have:=st (i+1) d' C (by simpa using hd) (by rw[show k+(i+1)=k+1+i by lia];exact hi);rw[show k+(i+1)+1=k+1+i+1 by lia,show k+(i+1)=k+1+i by lia] at this;exact this
  refine⟨y::ys,C2,?_,by rw[dW,show k+(r.length+1)=k+1+r.length by lia];exact h7,by simp[h8],λi z hz=>?_⟩
  .unfold lJ;simp only[h1,gF,h2,h3];rw[h6]
  .cases i with
   |zero=>simp at hz;subst hz;exact h4
   |succ i=>
    have:=h9 i z (by simpa using hz);rw[show k+(i+1)=k+1+i by lia];exact this
theorem Jb(h:f ao C=aa (r,e1,C1))(h2:dat r=aa d):aG f ao C=aa (d,e1,C1):=by
 unfold aG;simp only[h,h2,oF]
theorem aoY(h1:fa ao C=aa (x,e1,C1))(h2:fb e1 C1=aa (y,e2,C2))(h3:op x y=aa r):aJ op fa fb ao C=aa (r,rst r ao e2,C2):=by
 unfold aJ;simp only[h1,h2,h3]
theorem Xc(h0:0<=k)(h1:k<xs.length):∃x,fL xs k=aa x/\xs[k.toNat]?=aa x:=by
 have hk:k.toNat<xs.length:=az
 refine⟨xs[k.toNat],?_,jb hk⟩
 unfold fL pN;rw[bG h0,bG h1];exact jb hk
def Y8(z:Str):Bool:=z.cps.toList.all λc=>decide (97<=c)&&decide (c<=122)
def nameB(z:Str):Bool:=decide (1<=z.length)&&decide (z.length<=8)&&Y8 z
abbrev abc:Str:=bz "abcdefghijklmnopqrstuvwxyz"
theorem aoZ(r0:0<=r)(r1:r<26):fL abc.cps.toList r=aa (97+r.toNat):=by
 have h:∀k:Nat,k<26->fL abc.cps.toList (k:Int)=aa (97+k):=bw;have:=h r.toNat az
 rwa [Int.toNat_of_nonneg r0] at this
theorem abv:∀(l:List Nat)(a:Array Nat),((l.map λc=>(⟨#[c]⟩:Str)).foldl (λbu p=>bu++(bz "").cps++p.cps) a).toList=a.toList++l
 |[],a=>by simp
 |c::r,a=>by
  simp only[dN,Dy];rw[abv r];have e:(bz "").cps=#[]:=bw;rw[e];simp
theorem abw:∀(l:List Nat),(Txt.join (bz "") (l.map λc=>(⟨#[c]⟩:Str))).cps.toList=l
 |[]=>by decide +kernel
 |c::r=>by
  show(((r.map λc=>(⟨#[c]⟩:Str))).foldl (λbu p=>bu++(bz "").cps++p.cps) #[c]).toList=c::r
  rw[abv r];rfl
theorem ad5:∀ys:List Nat,(ys.map ((λx:Str=>x.length) ∘ λc=>(⟨#[c]⟩:Str))).sum=ys.length
 |[]=>rfl
 |c::r=>by
  rw[dN,List.sum_cons,ad5 r,dW];show 1+r.length=r.length+1;lia
theorem anc(hc:c∈(Txt.slice z l u).cps.toList):c∈z.cps.toList:=by
 unfold Txt.slice at hc;split at hc
 .exact hc
 .have hc':c∈((Builtin.Str.strSliceIndices l u 1 z.length).filterMap (z.cps[·]?)):=by simpa using hc
  obtain⟨i,_,e⟩:=ZP.mp hc'
  have:=Array.mem_of_getElem? e;simpa using this
def Names(zs:List Str):Prop:=zs.Nodup/\∀z∈zs,nameB z=aq
theorem MJ(z:Str)(zs:List Str):inD (.str z) (zs.map .str)=decide (z∈zs):=by
 unfold inD;rw[uh,aaX];simp[aad,u6,toV]
theorem alD(h:nameB z=aq):1<=z.length/\z.length<=8/\∀c∈z.cps.toList,97<=c/\c<=122:=by
 unfold nameB Y8 at h;simp only[jP,decide_eq_true_eq,nR] at h
 exact⟨h.1.1,h.1.2,h.2⟩
def jR(zs:List Str)(ps:List (Str×Str)):Prop:=∀(i:Nat)(x:Str×Str),ps[i]?=aa x->zs[i]?=aa x.1/\(x.2=bz ""\/∃j,j<i/\zs[j]?=aa x.2)
theorem jR.snoc(h:jR zs ps)(ha:zs[ps.length]?=aa a)(hb:b=bz ""\/∃j,j<ps.length/\zs[j]?=aa b):jR zs (ps++[(a,b)]):=by
 intro i x e;by_cases hi:i<ps.length
 .rw[pB hi] at e;exact h i x e
 .rw[qx az] at e;by_cases h0:i-ps.length=0
  .rw[h0] at e;cases e;have:i=ps.length:=az;subst this
   exact⟨ha,hb⟩
  .rw[Dr (by simp;lia)] at e;cases e
def gQ(ps:List (Str×Str))(z:Str):Option Str:=(ps.find? λp=>decide (p.1=z)).map (·.2)
inductive Over(f:Str->Option Str):Str->List Str->Prop
 |stop {z:Str}:f z=aj->Over f z []
 |step {z y:Str} {r:List Str}:f z=aa y->Over f y r->Over f z (z::r)
abbrev jk:=Int×Str×Int×Str×Int×Int
abbrev nY:=Int×Str×Str×Str×Int×Int×Int
abbrev jH:=Int×Str
abbrev jr:=Str×Int×List jH
def jU(r:jk):aD:=.tuple [.int r.1,.str r.2.1,.int r.2.2.1,.str r.2.2.2.1,.int r.2.2.2.2.1,.int r.2.2.2.2.2]
def dz(r:nY):aD:=.tuple [.int r.1,.str r.2.1,.str r.2.2.1,.str r.2.2.2.1,.int r.2.2.2.2.1,.int r.2.2.2.2.2.1,.int r.2.2.2.2.2.2]
def cQ(s:jH):aD:=.tuple [.int s.1,.str s.2]
def oO(ss:List jH):aD:=.tuple (ss.map cQ)
def yq(r:jr):aD:=.tuple [.str r.1,.int r.2.1,oO r.2.2]
def rT(p:Str×Str):aD:=.tuple [.str p.1,.str p.2]
structure uK where
 ps:List (Str×Str)
 ranks:List jk
 leaves:List nY
 rules:List jr
def jW(h:uK):aD:=.tuple [.tuple (h.ps.map rT),.tuple (h.ranks.map jU),.tuple (h.leaves.map dz),.tuple (h.rules.map yq)]
structure Jc(zs own:List Str)(r:jk):Prop where
 num:0<=r.1/\r.1<=2000
 who:r.2.1∈zs
 rank:1<=r.2.2.1/\r.2.2.1<=9
 part:r.2.2.2.1∈own
 days:0<=r.2.2.2.2.1/\r.2.2.2.2.1<=r.2.2.2.2.2/\r.2.2.2.2.2<=99999
structure Et(zs own:List Str)(r:nY):Prop where
 num:0<=r.1/\r.1<=2000
 giver:r.2.1∈zs
 taker:r.2.2.1∈zs
 ne:r.2.1≠r.2.2.1
 part:r.2.2.2.1∈own
 days:0<=r.2.2.2.2.1/\r.2.2.2.2.1<=r.2.2.2.2.2.1/\r.2.2.2.2.2.1<=99999
 most:0<=r.2.2.2.2.2.2/\r.2.2.2.2.2.2<=1000000000
def Xd(own:List Str)(s:jH):Prop:=1<=s.1/\s.1<=9/\(s.2=bz ""\/s.2∈own)
structure yf(own:List Str)(r:jr):Prop where
 part:r.1∈own
 sum:0<=r.2.1/\r.2.1<=1000000000
 many:r.2.2.length<=6
 afl:∀s∈r.2.2,Xd own s
structure uA(zs:List Str)(ps:List (Str×Str))(h:uK):Prop where
 parts:h.ps.Perm ps
 p8:ps.length<=8
 r20:h.ranks.length<=20
 qu:h.leaves.length<=16
 pP:h.rules.length<=10
 ranks:∀r∈h.ranks,Jc zs (ps.map (·.1)) r
 J4:(h.ranks.map (·.1)).Pairwise (·<·)
 leaves:∀r∈h.leaves,Et zs (ps.map (·.1)) r
 lnd:(h.leaves.map (·.1)).Nodup
 rules:∀r∈h.rules,yf (ps.map (·.1)) r
 unlike:(h.rules.map λr=>(r.1,r.2.1)).Nodup
theorem ajF(h:nameB z=aq):aaZ z=aq:=by
 unfold aaZ;rw[Array.all_eq_true'];intro c hc;have:=(alD h).2.2 c (by simpa using hc);exact gr az
theorem aa0:∀{l:List α}{m:List β},m.Perm (l.map f)->∃l':List α,l'.Perm l/\m=l'.map f:=λ{l m} p=>by
 generalize e:l.map f=k at p;induction p generalizing l with
 |nil=>
  cases l with
  |nil=>exact⟨[],yX _,rfl⟩
  |cons _ _=>cases e
 |@cons x m k _ ih=>
  cases l with
  |nil=>cases e
  |cons a l=>
   rw[dN,aaj] at e
   obtain⟨l',p',rfl⟩:=ih e.2
   exact⟨a::l',p'.cons a,by rw[dN,e.1]⟩
 |swap x y m=>
  cases l with
  |nil=>cases e
  |cons a l=>
   cases l with
   |nil=>cases e
   |cons b l=>
    rw[dN,dN,aaj,aaj] at e
    obtain⟨e1,e2,e3⟩:=e
    exact⟨b::a::l,aay a b l,by rw[dN,dN,e1,e2,e3]⟩
 |trans _ _ ih1 ih2=>
  obtain⟨l2,p2,e2⟩:=ih2 e
  obtain⟨l1,p1,e1⟩:=ih1 e2.symm
  exact⟨l1,p1.trans p2,e1⟩
theorem ajG(x:Str×Str)(ps:List (Str×Str))(z:Str):gQ (x::ps) z=if x.1=z then aa x.2 else gQ ps z:=by
 unfold gQ;rw[rC];by_cases h:x.1=z
 .rw[gr h,bG h];rfl
 .rw[iR h,bH h]
theorem uw:∀{ps:List (Str×Str)}{z w:Str},(ps.map (·.1)).Nodup->(gQ ps z=aa w↔(z,w)∈ps)
 |[],z,w,_=>by simp[gQ]
 |x::ps,z,w,h=>by
  rw[dN,ie] at h;rw[ajG];by_cases hz:x.1=z
  .rw[bG hz,bW];constructor
   .intro e;left;rw[<-hz,<-jy e]
   .rintro(e|e)
    .rw[<-e]
    .exact absurd (dD.mpr ⟨(z,w),e,hz.symm⟩) h.1
  .rw[bH hz,uw h.2,bW];constructor
   .exact .inr
   .rintro(e|e)
    .exact absurd (by rw[<-e]) hz
    .exact e
theorem ajH(p:ps'.Perm ps)(h:(ps.map (·.1)).Nodup)(z:Str):gQ ps' z=gQ ps z:=by
 have h':(ps'.map (·.1)).Nodup:=(p.map (·.1)).nodup_iff.mpr h;cases e:gQ ps z with
 |some w=>exact(uw h').mpr (p.mem_iff.mpr ((uw h).mp e))
 |none=>
  cases e':gQ ps' z with
  |none=>rfl
  |some w=>
   have:=(uw h).mpr (p.mem_iff.mp ((uw h').mp e'));rw[e] at this;cases this
theorem abx(h:jR zs ps):ps.map (·.1)=zs.take ps.length:=by
 apply ahO;intro i;rw[jw,ahE];cases e:ps[i]? with
 |none=>
  rw[bH (by have:=Q7.mp e;lia)];rfl
 |some x=>
  rw[bG (jO.mp e).1,(h i x e).1];rfl
theorem DX(hN:Names zs)(h:jR zs ps):(ps.map (·.1)).Nodup:=by
 rw[abx h];exact hN.1.sublist (ZX _ _)
theorem aiU:nameB (bz "")=aM:=bw
theorem ajI(hN:Names zs)(h:jR zs ps)(hz:z∈ps.map (·.1)):nameB z=aq:=by
 rw[abx h] at hz;exact hN.2 z (List.mem_of_mem_take hz)
theorem SM(hN:Names zs)(h:jR zs ps):gQ ps (bz "")=aj:=by
 cases e:gQ ps (bz "") with
 |none=>rfl
 |some w=>
  have:=(uw (DX hN h)).mp e;have:=ajI hN h (dD.mpr ⟨_,this,rfl⟩);rw[aiU] at this;cases this
def yR(f:Str->Option Str):Nat->Str->List Str
 |0,_=>[]
 |n+1,z=>match f z with
  |none=>[]
  |some y=>z::yR f n y
def up(ps:List (Str×Str))(z:Str):List Str:=yR (gQ ps) (ps.length+1) z
theorem U8(h:f z=aj):∀n,yR f n z=[]
 |0=>rfl
 |n+1=>by unfold yR;rw[h]
theorem acU(h:f z=aa y)(n:Nat):yR f (n+1) z=z::yR f n y:=by
 rw[yR,h]
theorem ad6:∀n z,(yR f n z).length<=n
 |0,_=>cz 0
 |n+1,z=>by
  cases h:f z with
  |none=>rw[U8 h];exact lC _
  |some y=>
   rw[acU h,dW];exact Nat.succ_le_succ (ad6 n y)
theorem ad7(hN:Names zs)(hP:jR zs ps):∀(n i:Nat),i<n->∀x,ps[i]?=aa x->Over (gQ ps) x.1 (yR (gQ ps) n x.1)
 |0,_,h,_,_=>absurd h (xH _)
 |n+1,i,h,x,hx=>by
  have e:gQ ps x.1=aa x.2:=(uw (DX hN hP)).mpr (lY hx);rw[acU e];refine .step e ?_
  rcases(hP i x hx).2 with h2|⟨j,hj,h2⟩
  .rw[h2,U8 (SM hN hP)];exact .stop (SM hN hP)
  .have hi:=(jO.mp hx).1;have hjl:j<ps.length:=az;have g:=hP j ps[j] (jb hjl);have e2:ps[j].1=x.2:=by
    have:=g.1;rw[h2] at this
    exact(jy this).symm
   rw[<-e2];exact ad7 hN hP n j az ps[j] (jb hjl)
theorem Wa(hN:Names zs)(hP:jR zs ps)(z:Str):Over (gQ ps) z (up ps z):=by
 unfold up;cases e:gQ ps z with
 |none=>
  rw[U8 e];exact .stop e
 |some w=>
  obtain⟨i,hi,hx⟩:=vB ((uw (DX hN hP)).mp e)
  have:=ad7 hN hP (ps.length+1) i az _ (jb hi);rw[hx] at this;exact this
theorem Xe(ps:List (Str×Str))(z:Str):(up ps z).length<=ps.length+1:=ad6 _ _
def bQ(l:List (Str×aD)):List (aD×aD):=l.map λp=>(.str p.1,p.2)
theorem MK:∀l:List (Str×aD),dh fW (bQ l)=aa (l.map λp=>.inr p.1)
 |[]=>rfl
 |p::l=>by
  rw[show bQ (p::l)=(.str p.1,p.2)::bQ l from rfl];unfold dh;rw[MK l];simp only[fW];rfl
theorem Wb(x z:Str):(fW (.str x)=aa (.inr z))↔x=z:=by
 simp[fW]
theorem ab2(z:Str):∀l:List (Str×aD),qi fW (.inr z) (bQ l)=(l.find? λp=>decide (p.1=z)).map (·.2)
 |[]=>rfl
 |p::l=>by
  show(if fW (.str p.1)=aa (.inr z) then aa p.2 else qi fW (.inr z) (bQ l))=_
  rw[rC];by_cases h:p.1=z
  .rw[bG ((Wb _ _).mpr h),gr h];rfl
  .rw[bH (λe=>h ((Wb _ _).mp e)),iR h,ab2 z l]
theorem TV(l:List (Str×aD))(z:Str):rQ (bQ l) (.str z)=aa ((l.find? λp=>decide (p.1=z)).map (·.2)):=by
 show(if(dh fW (bQ l)).isSome then aa (qi fW (.inr z) (bQ l)) else aj)=_
 rw[MK,ab2];rfl
theorem acV(h:z∉l.map (·.1)):pL fW (.inr z) (.str z) d (bQ l)=bQ (l++[(z,d)]):=by
 unfold pL;rw[bH,bQ,bQ,iC]
 .rfl
 .rw[ah2,ahI];intro p hp
  obtain⟨q,hq,rfl⟩:=dD.mp hp
  have:¬(fW (.str q.1)=aa (.inr z)):=λe=>h (dD.mpr ⟨q,hq,(Wb _ _).mp e⟩)
  simpa using this
theorem acW(h:z∉l.map (·.1)):putD (bQ l) (.str z) d=aa (bQ (l++[(z,d)])):=by
 show(if(dh fW (bQ l)).isSome then aa (pL fW (.inr z) (.str z) d (bQ l)) else aj)=_
 rw[MK,acV h];rfl
theorem alE(ps:List (Str×Str))(g:Str×Str->α)(z:Str):((ps.map λp=>(p.1,g p)).find? λp=>decide (p.1=z)).map (·.2)=(ps.find? λp=>decide (p.1=z)).map g:=by
 rw[aiu,Rz];rfl
theorem pD(D:α->aD)(p:α->Bool)(g:α->aD):∀{l:List α},(∀a∈l,∃ts,Di T (D a)=aa ts/\ft (eG ts++fs) C=aa (p a,C)/\(p a=aq->∃x e,fe (eG ts++fs) C=aa (x,e,C)/\still x=.im (g a)))->
  lJ T ft fe fs (l.map D) C=aa ((l.filter p).map g,C)
 |[],_=>rfl
 |d::r,h=>by
  obtain⟨ts,h1,h2,h3⟩:=h d cX
  have ih:=pD D p g (l:=r) λd m=>h d (dM _ m)
  rw[dN];unfold lJ;simp only[h1];rw[h2];cases hp:p d with
  |true=>
   obtain⟨x,e,h4,h5⟩:=h3 hp
   simp only[h4,h5,ih,ah8,hp,if_true,dN]
  |false=>
   simp only[ih,ah8,hp];rfl
theorem ab3(h:∀x∈l,0<=x):maxD 0 l=l.foldl max 0:=by
 cases l with
 |nil=>rfl
 |cons x l=>
  show l.foldl max x=l.foldl max (max 0 x);have:=h x cX;rw[show max 0 x=x by lia]
def CK(who:Str)(os:List Str)(bK:Int)(r:jk):Bool:=decide (r.2.1=who)&&(decide (r.2.2.2.1∈os)&&(decide (r.2.2.2.2.1<=bK)&&decide (bK<=r.2.2.2.2.2)))
def Ik(rk:List jk)(who:Str)(os:List Str)(bK:Int):Int:=((rk.filter (CK who os bK)).map (·.2.2.1)).foldl max 0
section
variable{prog:fj}{w:c7}{A:gV}{E:aN->bh->Prop}{R:zK->bh->Prop}{s:bh}
theorem akq(h:Q (.ref s.heap.objs.size) {s with heap:=s.heap.push (tZ w)}):aW (model prog w) A (newSet (.type "set")) Q E s:=by
 unfold newSet abt
 obtain⟨h0,g0,d0,t0,o0⟩:=s
 refine aF (aF (Ro (bA ?_)));dsimp only;simp only[newObj];exact aF (wpAny_alloc (bA h))
theorem akr{rest:List Comprehension}{scope:kJ}{pos:Pos}{it bu:aN}{ao:Env}(h0:lQ (model prog w) A (.compLoop (.SetComp elt (⟨target,iter,ifs,0⟩::rest) scope pos) 0 it bu ao) R s)
  (h:aW (model prog w) A (Ez it) (λit' s'=>lQ (model prog w) A (.compLoop (.SetComp elt (⟨target,iter,ifs,0⟩::rest) scope pos) 0 it' bu ao) R s') (notedBy (model prog w) A ao λx s'=>R (.error x) s') s):
  lQ (model prog w) A (.compStart (.SetComp elt (⟨target,iter,ifs,0⟩::rest) scope pos) 0 it bu ao) R s:=by
 refine codeAny_of_tree (show aW _ A ((compStart (.SetComp elt (⟨target,iter,ifs,0⟩::rest) scope pos) 0 it bu ao).onRaise (λx=>do noteFrame x ao;tD theWindowsPlace)) _ _ s from wpAny_notedAt ?_);unfold compStart
 refine(show aW _ A (ask >>= _) _ _ s from aF (Ro (wpAny_ite ?_)))
 split
 .first
   |exact aF (bA (bA ⟨rfl,h0⟩))
   |exact bA ⟨rfl,h0⟩
 .first
   |exact aF (sV (aF (xM (aF (sO h (λit' s' h'=>bA ⟨rfl,h'⟩) λ_ _ x=>x)))))
   |exact aF (sV (show aW _ _ (tD iter.pos >>= _) _ _ s from aF (xM (aF (sO h (λit' s' h'=>bA ⟨rfl,h'⟩) λ_ _ x=>x)))))
variable{T:Type}[DecidableEq T]{knd:Bg prog w T}
theorem aja(hk:knd.is k key=aq)(hsc:key.scannable=aq)(hS:rY knd s.heap a ks)(room:ks.length+1<sX)
  (h:∀h',zb a s.heap h'->rY knd h' a (nG ks k)->Q .none {s with heap:=h',toks:=s.toks+1}):aW (model prog w) A (call (.builtin "set.add") [.ref a,key]) Q E s:=by
 refine nQ F.slot_set_add hS.ty F.entry_set_add ?_ (F.args_set_add_2 _ _);unfold oK.«set.add» atn;simp only[List.isEmpty_nil,bind_assoc];unfold atV setAdd;refine aF (bA ?_)
 try dsimp only
 refine aF (bA ?_)
 try dsimp only
 refine aF (nj (aF (knd.pyHash hk ?_)));refine amQ (knd:=knd) (s:={s with toks:=s.toks+1}) hk hsc hS room λ_ h' hsb hS'=>?_
 exact(show aW _ _ (ret j4) _ _ _ from bA ⟨_,rfl,h h' hsb hS'⟩)
end
theorem aiV(elt gens scope pos):eval (.SetComp elt gens scope pos) ao=aaE (.SetComp elt gens scope pos) scope ao (firstIterPos gens pos) (newSet (.type "set")) (firstAsync gens) (firstIter gens ao):=rfl
section
variable{P:fj}{w:c7}{T0:Type}[DecidableEq T0](knd:Bg P w T0)(mk:T0->V)
abbrev SO(a:aC)(ks:List T0):HO:=.ext λh=>rY knd h a ks
def XH(D:aC)(te:TE):TM:=λσ H Q=>te σ H λy H1=>∃ks k,H1 D=aa (SO knd D ks)/\y=mk k/\ks.length+1<sX/\Q (upd H1 D (SO knd D (nG ks k)))
theorem afm(x:rY knd h a ks):f9 P w H h a (SO knd a ks):=
 ⟨x,let ⟨o,_,_,_,e,_⟩:=x;⟨o,e⟩,λ_ _ y e=>y.at e⟩
def tSC(K:aZ)(wi:TI)(T:kh)(ts:Bk->TT)(te:Bk->TE)(js:List Nat):TE:=λσ H Q=>wi σ H λJ H1=>∀D,H1 D=aj->∀b,Ab K T (ts b) (XH knd mk D (te b)) (frees js σ) J (upd H1 D (SO knd D [])) (Q (.ref D))
end
section
variable{X:Cx}{T0:Type}[DecidableEq T0]{knd:Bg X.prog X.w T0}{mk:T0->V}{NT NF:List Str}{js:List Nat}{elt tg iter:Expr}{ifs:List Expr}{T:kh}{wi:TI}{ts:Bk->TT}{te:Bk->TE}{scope:kJ}{pos:Pos}
theorem ao0(hk:∀k v,RelV (mk k) v->knd.is k v=aq/\v.scannable=aq)(he:PE X elt t):PM X (do let v <-eval elt X.env;tD elt.pos;let _ <-call (.builtin "set.add") [.ref D,v]) (XH knd mk D t):=by
 intro au s σ H Q I h;refine aF (bY (he au s σ H _ I h) λv s1 aY=>?_)
 obtain⟨y,H1,I1,r1,ks,k,hD,ey,hz,q⟩:=aY
 subst ey
 obtain⟨hS,_,_⟩:=I1.hok D _ hD
 obtain⟨k1,k2⟩:=hk _ _ r1
 refine aF (xM (aF (aja k1 k2 hS hz λh' same hS'=>?_)));refine bA ⟨_,?_,q⟩;exact BP I1 (by rw[hD];exact oH) same (let ⟨o,_,_,_,e,_⟩:=hS';⟨o,e⟩) (afm knd hS')
theorem ao1{σ:St}{s2:bh}{H2:Hp}{cl:List (Str×aC)}{it:aC}{fp:List aC}{tn:Nat->cg->Prop}{J:It}{Q:Hp->Prop}{RR:aN->aC->zK->bh->Prop}
  (hk:∀k v,RelV (mk k) v->knd.is k v=aq/\v.scannable=aq)(B:rP X NT NF js scope)(tk:qO tg NT T)(hc:X.calm=aq)
  (hin:∀b,pO (X.bk (NT++NF) scope b) ifs (ts b)/\PE (X.bk (NT++NF) scope b) elt (te b))
  (q2:∀n c,cl.lookup n=aa c->X.env.cells.lookup n=aa c)(q3:∀y∈scope.names,y.2=.free->∃c,cl.lookup y.1=aa c)
  (I2:Inv X au σ H2 s2)(TT:Turn X.prog X.w X.K tg J fp it tn)(st2:tn 0 s2.heap)(f2:∀b∈fp,kO X au H2 b)
  (q:∀b,Ab X.K T (ts b) (XH knd mk s2.heap.objs.size (te b)) (frees js σ) J (upd H2 s2.heap.objs.size (SO knd s2.heap.objs.size [])) Q)
  (hR:∀C H' s' m,Inv X au σ H' s'->kO X au H' C->s'.heap.Ns C m->Q H'->RR (.ref s2.heap.objs.size) C (.ok .next) s'):
  aW (model X.prog X.w) X.A (newSet (.type "set")) (λbu s₃=>aW (model X.prog X.w) X.A (aat scope X.env.globals cl [] X.env.qual aj .none (aa X.env)) (λcenv s₄=>
   lQ (model X.prog X.w) X.A (.compStart (.SetComp elt [⟨tg,iter,ifs,0⟩] scope pos) 0 (.ref it) bu {cenv with scope:=relabel scope X.env}) (RR bu cenv.locals) s₄) E s₃) E s2:=by
 refine akq ?_;have hD:H2 s2.heap.objs.size=aj:=I2.hok.fresh (cz _);have I3:Inv X au σ (upd H2 s2.heap.objs.size (SO knd s2.heap.objs.size [])) {s2 with heap:=s2.heap.push (tZ X.w)}:=
  I2.laid (t':=s2.toks) (λb o e=>cD _ e) (cz _) (afm knd (aoH (gj _ rfl)))
 have hsz:(s2.heap.push (tZ X.w)).objs.size=s2.heap.objs.size+1:=sH ..;refine ZJ B.cell (by intro y hy;simp at hy) (λh₁ hns₁ hsb₁=>?_) B.kind;have t8:∀b∈fp,b<s2.heap.objs.size:=λb hb=>by
  obtain⟨o,e,_⟩:=TT.obj 0 _ st2 b hb
  exact cG e
 have f3:∀b∈fp,kO X au (upd H2 s2.heap.objs.size (SO knd s2.heap.objs.size [])) b:=λb hb=>⟨by rw[cP (fQ (t8 b hb))];exact(f2 b hb).1,(f2 b hb).2⟩
 have keep:∀b o,(s2.heap.push (tZ X.w)).get? b=aa o->h₁.get? b=aa o:=λb o e=>hsb₁.extBut b o (fQ (cG e)) (cD _ e)
 have Aj:∀b∈fp,b<(s2.heap.push (tZ X.w)).objs.size:=λb hb=>by have:=t8 b hb;rw[hsz];exact vG this
 have I4:=I3.blk (s1:={s2 with heap:=h₁,toks:=s2.toks+([]:List (Str×aN)).length}) B q2 q3 f3 Aj hns₁ keep rfl I2.bare;have Ak:tn 0 h₁:=TT.keep 0 _ _ st2 λb _ o e=>keep b o (cD _ e)
 obtain⟨i1,i2⟩:=hin ⟨cl,(s2.heap.push (tZ X.w)).objs.size,{s2 with heap:=s2.heap.push (tZ X.w)},upd H2 s2.heap.objs.size (SO knd s2.heap.objs.size []),fp⟩
 have loop:lQ (model X.prog X.w) X.A (.compLoop (.SetComp elt [⟨tg,iter,ifs,0⟩] scope pos) 0 (.ref it) (.ref s2.heap.objs.size) (Ul scope cl (s2.heap.push (tZ X.w)).objs.size X.env))
   (RR (.ref s2.heap.objs.size) (s2.heap.push (tZ X.w)).objs.size) {s2 with heap:=h₁,toks:=s2.toks+([]:List (Str×aN)).length}:=by
  refine Um (X:=X.blk (NT++NF) scope cl (s2.heap.push (tZ X.w)).objs.size {s2 with heap:=s2.heap.push (tZ X.w)} (upd H2 s2.heap.objs.size (SO knd s2.heap.objs.size [])) fp)
   (T:=T) (fs:=frees js σ) (done:=Q) rfl (aj9 elt tg iter ifs scope pos _ _ _) rfl rfl rfl tk rfl B.nd hc (λx hx=>ZK (B.tg x hx)) i1 (ao0 (X:=X.bk (NT++NF) scope _) (knd:=knd) hk i2) TT (λb hb=>?_) I4 Ak (q _) λH' s' σ' J' qd=>?_
  .exact⟨(f3 b hb).1,fQ (Aj b hb),λhb2=>by
    rcases bW.mp (I3.Ey b hb2) with z|z
    .exact(f3 b hb).2.1 z
    .exact(f3 b hb).2.2.1 z,.inl hb,λx c e=>(f3 b hb).2.2.2.2.1 x c (q2 x c e),λp hp=>(nomatch(show p∈([]:List (aC×Obj)) from hp))⟩
  .obtain⟨m,hn,_⟩:=J'.loc
   exact hR _ H' s' m (I3.Xy f3 J') (I3.wO (cz _) J'.free) hn qd
 exact akr loop (TT.self _ 0 _ _ _ Ak loop)
theorem apV(hk:∀k v,RelV (mk k) v->knd.is k v=aq/\v.scannable=aq)(B:rP X NT NF js scope)(tk:qO tg NT T)(hc:X.calm=aq)(hi:PI X tg iter wi)
  (hin:∀b,pO (X.bk (NT++NF) scope b) ifs (ts b)/\PE (X.bk (NT++NF) scope b) elt (te b))
  (hs:∀x,vD iter X.env x=pure x:=by intro _;rfl):PE X (.SetComp elt [⟨tg,iter,ifs,0⟩] scope pos) (tSC knd mk X.K wi T ts te js):=by
 intro au s σ H Q I h
 obtain⟨cl,hclos,q2,q3⟩:=Lq (ao:=X.env) (scope:=scope) λy hy e=>I.ok.has y.1 (B.free y hy e)
 rw[aiV];refine Ra (use:=aj) rfl hs hclos B.kind B.names (bY (hi au s σ H _ I h) λv s1 h1=>bY h1 λitv s2 aY=>?_)
 obtain⟨it,fp,tn,J,H2,e,I2,TT,st2,f2,q⟩:=aY
 subst e;refine ao1 (Q:=λH'=>Q (.ref s2.heap.objs.size) H') (RR:=λbu C=>Uo (model X.prog X.w) X.A X.xe aj (EP X au σ Q) bu C) hk B tk hc hin q2 q3 I2 TT st2 f2 (q _ (I2.hok.fresh (cz _))) λC H' s' m I' fC hn qd=>?_
 refine⟨m,hn,λh' sb=>⟨.ref s2.heap.objs.size,H',?_,rfl,qd⟩⟩
 exact I'.turned (t':=s'.toks) (λb o hb e=>(sb.2 b hb).trans e) fC.1 fC.2.1 fC.2.2.2.1 fC.2.2.2.2.1 fC.2.2.2.2.2
end
def ae0{P:fj}{w:c7}(t:TE):TE:=λσ H Q=>t σ H λx H2=>∃D ks,x=.ref D/\H2 D=aa (SO (KR P w) D ks)/\ks.length<64/\∀(D':aC)(ns':List Str),H2 D'=aj->ns'.Perm ks->sortedS ns'=aq->Q (.ref D') (upd H2 D' (.lst (ns'.map V.str)))
theorem alF(hc:X.calm=aq)(hl:PE X e t)(g1:Gl X "sorted")(m1:X.mg "sorted"=aj)
  (he:bR [e] X.env=(aM,eval e X.env)::bR [] X.env:=by rfl)(hpl:(jA pos1 (bR [] X.env)).any (·.1)=aM:=by rfl):PE X (.Call (.Name "sorted" p1) [e] [] pos1) (ae0 (P:=X.prog) (w:=X.w) t):=by
 intro au s σ H Q I h;refine Ko (zH I g1 m1 (u:=.builtin "sorted") rfl (agT ?_ he hpl));rw[he];show aW _ _ (Nb ((aM,eval e X.env)::jA pos1 (bR [] X.env))) _ _ s;refine ZQ (bY (hl au s σ H _ I h) λv s1 ⟨y,H1,I1,r1,D,ks,ey,hD,h64,q⟩=>ZW ?_);subst ey;cases r1
 obtain⟨⟨o,es,ep,t,ho,ex,hd,⟨ks',ek,pk⟩,hb,hf,tb⟩,_,_⟩:=I1.hok D _ hD
 obtain⟨e1,e2⟩:=alj ek
 have few:es.size<64:=by
  rw[<-m9,ek.len,pk.length_eq];lia
 refine ajA (Ok:=λout=>∃ns',StrsAre out ns'/\ns'.Perm ks/\sortedS ns'=aq) (I1.ok.hd hc) ⟨o,ho,ex,hd,hf,tb⟩ few (λus pm B s2 a n P E' ho' hp=>?_) λD h' d tk c out ok ge kk gD=>?_
 .have hS:StrsAre us (us.map strOf):=strsAre_map us λv hv=>e2 v (pm.mem_iff.mp hv)
  refine list_sort_treeK strKind_oneLt ho' hS.keysOf (λv1 v2 rest e=>keyKind_strs (by rw[<-e];exact hS)) (by rw[pm.length_eq,bJ,m9];exact few) λst hp1 hp2=>?_
  obtain⟨ss',b1,b2,b3⟩:=sorted_out_str hS hp1 hp2
  exact hp _ ⟨ss',b1,b2.trans ((pm.map strOf).trans (by rw[e1];exact pk)),b3⟩
 .obtain⟨ns',a1,a2,a3⟩:=ok
  have hz:ns'.length<=cJ:=by
   rw[a2.length_eq,jQ];lia
  exact⟨.ref D,_,(I1.laid (o:=.lst (ns'.map V.str)) (t':=tk) kk ge ⟨by rw[bJ];exact hz,out.toList,c,Mf a1,by simpa[seqObj] using gD⟩).drew d,rfl,q D ns' (I1.hok.fresh ge) a2 a3⟩
def J5(fi:FI)(T:kh)(ft:FT)(fe:FE)(js:List Nat):FE:=λao C=>match fi ao C with
 |some (aK,e1,C1)=>match lJ T ft fe (frB js e1) aK C1 with
  |some (ys,C2)=>match MF ys with
   |some l=>aa (.ow (.list l),ao,C2)
   |none=>aj
  |none=>aj
 |none=>aj
def Ym(fe:FE):En->List Str->Ce->Option (List Str×Ce):=λao bu C=>(fe ao C).bind λq=>(vg (still q.1)).bind λy=>(Qe y).bind λz=>bif decide (bu.length<64) then aa (bu++[z],q.2.2) else aj
theorem Wc:∀{aK:List aD}{ys bu:List Str}{C:Ce},lJ T ft fe fs aK C=aa (ys.map .str,C')->bu.length+ys.length<=64->wK T ft (Ym fe) fs aK bu C=aa (bu++ys,C')
 |[],ys,bu,C,h,_=>by
  cases ys with
  |cons _ _=>cases h
  |nil=>
  cases h;rw[mj];rfl
 |d::r,ys,bu,C,h,hl=>by
  unfold lJ at h;unfold wK;split at h
  case h_2=>cases h
  rename_i ts ht;rw[ht,jx];split at h
  case h_3=>cases h
  .rename_i C1 hf;rw[hf,jx];exact Wc h hl
  .rename_i C1 hf;rw[hf,jx];split at h
   case h_2=>cases h
   rename_i x e2 C2 hx;split at h
   case h_2=>cases h
   rename_i y hy;split at h
   case h_2=>cases h
   rename_i zs C3 hz;cases ys with
   |nil=>cases h
   |cons w ys=>
   injection h with h
   injection h with h1 h2
   injection h1 with h1 h3
   subst h1 h2 h3;rw[dW] at hl
   show(Ym fe (eG ts++fs) bu C1).bind _=_
   unfold Ym;rw[hx,jx,hy,show vg (.im (.str w))=aa (.str w) from rfl,jx,show Qe (.str w)=aa w from rfl,jx,gr az,show bu++w::ys=(bu++[w])++ys by rw[kE];rfl];exact Wc hz (by rw[fO];show bu.length+1+_<=_;lia)
theorem ane{w:c7}{K:aZ}{fi:FI}{T:kh}{ft:FT}{fe:FE}:∀σ H Q,tE K (J5 fi T ft fe js) σ H Q->ae0 (P:=P) (w:=w) (tSC (KR P w) V.str K (tI K aq fi) T (λ_=>gM K ft) (λ_=>tE K fe) js) σ H Q:=by
 rintro σ H Q ⟨Z,Θ,ao,C,res,aV,C',S,hf,q⟩;unfold J5 at hf;split at hf
 case h_2=>cases hf
 rename_i aK e1 C1 h1;split at hf
 case h_2=>cases hf
 rename_i ys C2 h2;split at hf
 case h_2=>cases hf
 rename_i l hs;cases hf;unfold MF at hs;split at hs
 case isFalse=>cases hs
 rename_i hl;split at hs
 case h_2=>cases hs
 rename_i ns hns;cases hs;have hys:=U5 hns;subst hys;rw[bJ] at hl
 refine⟨Z,Θ,ao,C,aK,e1,C1,S,h1,λJ H1 k1 f1 S1 it D hD b=>?_⟩
 have t6:D∉Θ:=λm=>(S1.cell.dom D m).ne hD
 refine UT (a0:=[]) (Ob:=λbu Hx=>Hx D=aa (SO (KR P w) D (dedup bu))) S1 it hD eV (λa Hx Hy kk r=>kk.keep _ _ r t6) (λa Hx r=>⟨_,r,λ_ z=>nomatch z⟩) ?_ (Wc (bu:=[]) h2 (by rw[GX];lia)) λH2 ki ci r=>?_
 .intro ts bu C2 p vs H4 Q hs S4 k4 r4 hQ
  obtain⟨w,hfe,hs⟩:=fZ hs
  obtain⟨yd,vm,hs⟩:=fZ hs
  obtain⟨z,hz,hs⟩:=fZ hs
  have vm:=IV vm;have hz:=amZ hz;subst hz;cases hlt:decide (bu.length<64) with
  |false=>rw[hlt] at hs;cases hs
  |true=>
  rw[hlt] at hs;cases hs
  refine⟨_,Θ,_,C2,w.1,w.2.1,w.2.2,S4,hfe,λy H5 k5 f5 R5=>?_⟩
  obtain⟨S5,r5⟩:=R5.yo vm
  have lt:=of_decide_eq_true hlt;have ld:=abU bu
  exact⟨dedup bu,z,k5.keep _ _ r4 t6,r5,by unfold sX;lia,hQ _ (W7 (Hy:=H5) hD (k4.trans k5)) (Mx t6 S5.cell) (by rw[ajv];exact eV)⟩
 .have kk:=k1.trans ki;have ld:=abU ns
  refine⟨D,dedup ns,rfl,r,az,λD' ns' hn p hp=>?_⟩
  rw[Xa p hp];exact q _ _ (kk.trans (bD.upd hn)) (Fz.refl _) ((rH (S.go kk ci) (Uz _) hn).from kk)
theorem apW{X:Cx}{NT NF:List Str}{js:List Nat}{ifs:List Expr}{T:kh}{fi:FI}{ft:FT}{fe:FE}{scope:kJ}{pos p1 pos1:Pos}(B:rP X NT NF js scope)(tk:qO tg NT T)(hc:X.calm=aq)(g1:Gl X "sorted")(m1:X.mg "sorted"=aj)(hi:PI X tg iter (tI X.K aq fi))
  (hin:∀b,pO (X.bk (NT++NF) scope b) ifs (gM X.K ft)/\PE (X.bk (NT++NF) scope b) elt (tE X.K fe))
  (hs:∀x,vD iter X.env x=pure x:=by intro _;rfl)
  (he:bR [.SetComp elt [⟨tg,iter,ifs,0⟩] scope pos] X.env=(aM,eval (.SetComp elt [⟨tg,iter,ifs,0⟩] scope pos) X.env)::bR [] X.env:=by rfl)(hpl:(jA pos1 (bR [] X.env)).any (·.1)=aM:=by rfl):
  PE X (.Call (.Name "sorted" p1) [.SetComp elt [⟨tg,iter,ifs,0⟩] scope pos] [] pos1) (tE X.K (J5 fi T ft fe js)):=
 (alF hc (apV (knd:=KR X.prog X.w) (mk:=V.str) (λk v r=>by obtain⟨t,rfl⟩:=r;exact⟨PySem.strKind_is _ _ _ _,rfl⟩) B tk hc hi hin hs) g1 m1 he hpl).weak ane
theorem aqY(x:α)(r:List α):fL (x::r) 0=aa x:=xU (j:=0) rfl
theorem aqZ(a x:α)(r:List α):fL (a::x::r) 1=aa x:=xU (j:=1) rfl
theorem aq0(a b x:α)(r:List α):fL (a::b::x::r) 2=aa x:=xU (j:=2) rfl
theorem aq1(a b c x:α)(r:List α):fL (a::b::c::x::r) 3=aa x:=xU (j:=3) rfl
theorem aq2(a b c d x:α)(r:List α):fL (a::b::c::d::x::r) 4=aa x:=xU (j:=4) rfl
theorem aq3(a b c d e x:α)(r:List α):fL (a::b::c::d::e::x::r) 5=aa x:=xU (j:=5) rfl
theorem aq4(a b c d e f x:α)(r:List α):fL (a::b::c::d::e::f::x::r) 6=aa x:=xU (j:=6) rfl
theorem apY(op:aD->aD->oVl)(fa fb:FB)(ao:En)(C:Ce):aJ op fa fb ao C=(fa ao C).bind λp=>(fb p.2.1 p.2.2).bind λq=>(op p.1 q.1).bind λr=>aa (r,rst r ao q.2.1,q.2.2):=by
 unfold aJ;rcases h:fa ao C with _|⟨x,e1,C1⟩
 .rfl
 .rcases h2:fb e1 C1 with _|⟨y,e2,C2⟩
  .simp only[jx,h2];rfl
  .simp only[jx,h2];cases op x y<;>rfl
theorem apZ(f:FE)(ao:En)(C:Ce):aG f ao C=(f ao C).bind λp=>(dat p.1).map λd=>(d,p.2.1,p.2.2):=by
 unfold aG;rcases h:f ao C with _|⟨x,e1,C1⟩<;>rfl
theorem aq5(i:Nat)(ao:En)(C:Ce):aH i ao C=(ao[i]?).bind λo=>o.bind λx=>(dat x).map λd=>(d,ao,C):=by
 unfold aH;rcases ao[i]? with _|(_|x)<;>rfl
theorem ap0(f g:FT)(ao:En)(C:Ce):lH f g ao C=(f ao C).bind λp=>if p.1 then g ao p.2 else aa (aM,p.2):=by
 unfold lH;rcases h:f ao C with _|⟨_|_,D⟩<;>rfl
theorem aq6(f g:FT)(ao:En)(C:Ce):wQ f g ao C=(f ao C).bind λp=>if p.1 then aa (aq,p.2) else g ao p.2:=by
 unfold wQ;rcases h:f ao C with _|⟨_|_,D⟩<;>rfl
theorem ap1(f:FT)(ao:En)(C:Ce):yj f ao C=(f ao C).map λp=>(!p.1,p.2):=by
 unfold yj;rcases h:f ao C with _|⟨b,D⟩<;>rfl
theorem aq7(c:FT)(f g:FS)(ao:En)(C:Ce):kZ c f g ao C=(c ao C).bind λp=>if p.1 then f ao p.2 else g ao p.2:=by
 unfold kZ;rcases h:c ao C with _|⟨_|_,D⟩<;>rfl
theorem ap2(c:FT)(f g:FE)(ao:En)(C:Ce):yE c f g ao C=(c ao C).bind λp=>if p.1 then f ao p.2 else g ao p.2:=by
 unfold yE;rcases h:c ao C with _|⟨_|_,D⟩<;>rfl
theorem PK(op op':aD->aD->oVl)(fa fb fc:FB)(h1:fa ao C=aa (x,e1,C1))(h2:fb e1 C1=aa (y,e2,C2))(h3:op x y=aa (.im (.bool a)))(h4:fc e2 C2=aa (z,e3,C2))(h5:op' y z=aa (.im (.bool b))):yD op op' fa fb fc ao C=aa (.im (.bool (a&&b)),ao,C2):=by
 unfold yD;simp only[h1,h2,h3];cases a with
 |false=>rfl
 |true=>simp only[h4,h5];rfl
theorem aq8(d:aD)(e f:En):rst (.ow d) e f=f:=rfl
theorem ao2(b:Bool)(e f:En):rst (.im (.bool b)) e f=e:=rfl
theorem ap3(i:Int)(e f:En):rst (.im (.int i)) e f=e:=rfl
theorem ap4(z:Str)(e f:En):rst (.im (.str z)) e f=e:=rfl
theorem aq9(l r:List aD)(e f:En):rst (.im (.tuple (.list l::r))) e f=f:=rfl
theorem add_int(i j:Int):bU (.int i) (.int j)=aa (.im (.int (i+j))):=rfl
theorem sub_int(i j:Int):Pr (.int i) (.int j)=aa (.im (.int (i-j))):=rfl
theorem le_int(i j:Int):lV (.int i) (.int j)=aa (.im (.bool (decide (i<=j)))):=rfl
theorem lt_int(i j:Int):uY (.int i) (.int j)=aa (.im (.bool (decide (i<j)))):=rfl
theorem ge_int(i j:Int):Qh (.int i) (.int j)=aa (.im (.bool (decide (j<=i)))):=rfl
theorem gt_int(i j:Int):Qg (.int i) (.int j)=aa (.im (.bool (decide (j<i)))):=rfl
theorem eq_int(i j:Int):jl (.int i) (.int j)=aa (.im (.bool (i==j))):=rfl
theorem eq_bool(a b:Bool):jl (.bool a) (.bool b)=aa (.im (.bool (a==b))):=rfl
theorem ne_bool(a b:Bool):oh (.bool a) (.bool b)=aa (.im (.bool (!(a==b)))):=rfl
theorem ne_int(i j:Int):oh (.int i) (.int j)=aa (.im (.bool (!(i==j)))):=rfl
theorem ap5(ds:List aD):jc [.list ds]=aa (.im (.int ds.length)):=rfl
theorem ap6(ds:List aD):jc [.tuple ds]=aa (.im (.int ds.length)):=rfl
theorem ara(ds:List aD)(i:Int):bf (.tuple ds) (.int i)=(fL ds i).map .im:=rfl
theorem arb(ds:List aD)(i:Int):bf (.list ds) (.int i)=(fL ds i).map .im:=rfl
theorem add_l(h:xs.length+ys.length<=1000000):bU (.list xs) (.list ys)=aa (.ow (.list (xs++ys))):=bG h
theorem zX(h:xs.length+ys.length<=1000000):bU (.tuple xs) (.tuple ys)=aa (.im (.tuple (xs++ys))):=by
 unfold bU;cases xs with
 |nil=>rfl
 |cons x xs=>exact bG h
theorem wL{i:Nat}(h:ds[i]?=aa d):bf (.tuple ds) (.int i)=aa (.im d):=by
 simp only[bf,qX,xU h,oF]
theorem ap7(h:uK):bf (jW h) (.int 0)=aa (.im (.tuple (h.ps.map rT))):=wL (i:=0) rfl
theorem ap8(h:uK):bf (jW h) (.int 1)=aa (.im (.tuple (h.ranks.map jU))):=wL (i:=1) rfl
theorem ap9(h:uK):bf (jW h) (.int 2)=aa (.im (.tuple (h.leaves.map dz))):=wL (i:=2) rfl
theorem aqa(h:uK):bf (jW h) (.int 3)=aa (.im (.tuple (h.rules.map yq))):=wL (i:=3) rfl
theorem aqb(r:jk):bf (jU r) (.int 0)=aa (.im (.int r.1)):=wL (i:=0) rfl
theorem aqc(r:jk):bf (jU r) (.int 1)=aa (.im (.str r.2.1)):=wL (i:=1) rfl
theorem aqd(r:jk):bf (jU r) (.int 2)=aa (.im (.int r.2.2.1)):=wL (i:=2) rfl
theorem aqe(r:jk):bf (jU r) (.int 3)=aa (.im (.str r.2.2.2.1)):=wL (i:=3) rfl
theorem aqf(r:jk):bf (jU r) (.int 4)=aa (.im (.int r.2.2.2.2.1)):=wL (i:=4) rfl
theorem aqg(r:jk):bf (jU r) (.int 5)=aa (.im (.int r.2.2.2.2.2)):=wL (i:=5) rfl
theorem yH(h0:-1000000<=m)(h1:m<=1000000)(a b:α):(if -(2^62)<=m/\m<2^62 then a else b)=a:=bG az
theorem gP(en:En)(hk:xs.length=k)(he:xs.map aa++fP (n-xs.length) aj=en)(h:(body en C).map (λp=>(p.1,p.2.2))=aa (.rt r,C1))(hr:Fx C.length r=aq)(hC:C1.length=C.length):fN k n body xs C=aa (r,C1):=by
 unfold fN;rw[bG hk,he];cases hb:body en C with
 |none=>rw[hb] at h;cases h
 |some p=>
  rw[hb] at h
  obtain⟨fl,e1,C2⟩:=p
  have h:(fl,C2)=(Fl.rt r,C1):=jy h;injection h with h1 h2
  subst h1 h2;simp only[hr,if_true,acS hC]
theorem letters(k:Int)(h0:0<=k)(h1:k<26):qX (.str abc) (.int k)=aa (.str ⟨#[97+k.toNat]⟩):=by
 have e:=aoZ h0 h1;have hl:abc.length<=gB:=bw;simp only[qX];rw[bG hl,e];rfl
theorem SN:∀zs:List Str,strsOf (zs.map iD)=aa zs
 |[]=>rfl
 |z::zs=>by
  show(match strsOf (zs.map iD) with|some t=>aa (z::t)|none=>aj)=_
  rw[SN zs]
theorem SQ:∀ns:List Int,intsOf (ns.map lD)=aa ns
 |[]=>rfl
 |n::ns=>by
  show(match intsOf (ns.map lD) with|some t=>aa (n::t)|none=>aj)=_
  rw[SQ ns]
theorem Eh:∀zs:List Str,dY (zs.map iD)=aq
 |[]=>rfl
 |z::zs=>by
  show(aq&&dY (zs.map iD))=aq
  rw[Eh zs];rfl
theorem aby:∀cs:List Nat,dY (cs.map λc=>iD ⟨#[c]⟩)=aq
 |[]=>rfl
 |c::cs=>by
  show(aq&&dY (cs.map λc=>iD ⟨#[c]⟩))=aq
  rw[aby cs];rfl
theorem aa1:∀cs:List Nat,strsOf (cs.map λc=>iD ⟨#[c]⟩)=aa (cs.map λc=>(⟨#[c]⟩:Str))
 |[]=>rfl
 |c::cs=>by
  show(match strsOf (cs.map λc=>iD ⟨#[c]⟩) with|some t=>aa (_::t)|none=>aj)=_
  rw[aa1 cs];rfl
theorem aks:(bz "").length=0:=bw
abbrev nM(b:Nat)(zs:List Str)(ps:List (Str×Str))(own:List Str)(rk:List jk)(lv:List nY)(ru:List (aD×aD))(v7 v8 v9 v10 v11 v12 v13 v14 v15 v16 v17 v18:oVl):En:=
 [aa (.ce b),aa (.im (.list (zs.map .str))),aa (.ow (.list (ps.map rT))),aa (.ow (.list (own.map .str))),aa (.ow (.list (rk.map jU))),aa (.ow (.list (lv.map dz))),aa (.ow (.dict ru)),v7,v8,v9,v10,v11,v12,v13,v14,v15,v16,v17,v18]
def jK(p:Str)(s:Int):aD:=.tuple [.str p,.int s]
def eU(rs:List jr):List (aD×aD):=rs.map λr=>(jK r.1 r.2.1,oO r.2.2)
def zY(p:Str)(s:Int)(q:jr):Bool:=decide (q.1=p/\q.2.1=s)
def sr(rs:List jr)(p:Str)(s:Int)(ss:List jH):List jr:=if rs.any (zY p s) then rs.map (λq=>if zY p s q then(q.1,q.2.1,ss) else q) else rs++[(p,s,ss)]
theorem Nt(p:Str)(s:Int):jC (jK p s)=aa [.inr p,.inl s]:=rfl
theorem Nu:∀rs:List jr,dh jC (eU rs)=aa (rs.map λr=>[.inr r.1,.inl r.2.1])
 |[]=>rfl
 |r::rs=>by
  rw[show eU (r::rs)=(jK r.1 r.2.1,oO r.2.2)::eU rs from rfl];unfold dh;rw[Nu rs];simp only[Nt];rfl
theorem ad8(p:Str)(s:Int)(q:jr):decide (jC (jK q.1 q.2.1)=aa [.inr p,.inl s])=zY p s q:=by
 rw[Nt,uh];unfold zY;simp
theorem ao3(rs:List jr)(p:Str)(s:Int)(ss:List jH):putD (eU rs) (jK p s) (oO ss)=aa (eU (sr rs p s ss)):=by
 have h:putD (eU rs) (jK p s) (oO ss)=aa (pL jC [.inr p,.inl s] (jK p s) (oO ss) (eU rs)):=by
  show(if(dh jC (eU rs)).isSome then aa (pL jC [.inr p,.inl s] (jK p s) (oO ss) (eU rs)) else aj)=_
  rw[Nu];rfl
 rw[h];congr 1;unfold pL sr;have ha:((eU rs).any λq=>decide (jC q.1=aa [.inr p,.inl s]))=rs.any (zY p s):=by
  unfold eU;rw[aaX];congr 1;funext q;exact ad8 p s q
 rw[ha];cases hb:rs.any (zY p s) with
 |true=>
  rw[bG rfl,bG rfl];unfold eU;rw[fD,fD];congr 1;funext q
  show(if jC (jK q.1 q.2.1)=aa [.inr p,.inl s] then(jK q.1 q.2.1,oO ss) else(jK q.1 q.2.1,oO q.2.2))=_
  have:=ad8 p s q;cases hs:zY p s q with
  |true=>
   rw[hs] at this;rw[bG (of_decide_eq_true this)];simp[hs]
  |false=>
   rw[hs] at this;rw[bH (of_decide_eq_false this)];simp[hs]
 |false=>
  rw[bH aR,bH aR];unfold eU;rw[iC];rfl
abbrev qZ(r:jr):Str×Int:=(r.1,r.2.1)
theorem anf(h:∀r∈rs,yf own r)(hr:yf own (p,s,ss))(nd:(rs.map qZ).Nodup):(∀r∈sr rs p s ss,yf own r)/\((sr rs p s ss).map qZ).Nodup/\(sr rs p s ss).length<=rs.length+1:=by
 unfold sr;split
 .refine⟨λr m=>?_,?_,by rw[bJ];lia⟩
  .obtain⟨q,hq,rfl⟩:=dD.mp m
   split
   .rename_i hs;have e:q.1=p/\q.2.1=s:=of_decide_eq_true hs;have:=h q hq
    exact⟨this.part,this.sum,hr.many,hr.afl⟩
   .exact h q hq
  .rw[fD];have:(qZ ∘ λq:jr=>if zY p s q=aq then(q.1,q.2.1,ss) else q)=qZ:=by
    funext q;show qZ (if _ then _ else _)=_;split<;>rfl
   rw[this];exact nd
 .rename_i hn
  refine⟨λr m=>?_,?_,bI⟩
  .rcases cY.mp m with m|m
   .exact h r m
   .rw[gk.mp m];exact hr
  .rw[iC,jF]
   refine⟨nd,bI,λx hx y hy e=>?_⟩
   have hy':y=(p,s):=gk.mp hy;subst e
   obtain⟨q,hq,hqe⟩:=dD.mp hx
   refine hn (aad.mpr ⟨q,hq,?_⟩);rw[hy'] at hqe;have h1:q.1=p:=congrArg Prod.fst hqe;have h2:q.2.1=s:=congrArg Prod.snd hqe;exact gr ⟨h1,h2⟩
theorem acX(r:Vl)(e:En):rst r e e=e:=by
 cases r<;>simp[rst]
theorem ang:∀(rs:List jr),rs.length<=10->∃rs':List jr,rs'.Perm rs/\uE [.dict (eU rs)]=aa (.ow (.list (rs'.map λr=>jK r.1 r.2.1)))
 |[],_=>⟨[],yX _,rfl⟩
 |r::rs,h=>by
  rw[dW] at h;have hall:((eU (r::rs)).all λp=>decide (qp p.1=aa [aM,aq]))=aq:=by
   rw[nR];intro p hp
   obtain⟨q,_,rfl⟩:=dD.mp hp
   exact gr rfl
  have e:uE [.dict (eU (r::rs))]=aa (.ow (.list (qR ((eU (r::rs)).map (·.1))))):=by
   have h2:Nr [.dict (eU (r::rs))]=aa (.ow (.list (qR ((eU (r::rs)).map (·.1))))):=by
    show(if(eU rs).length<63/\((eU (r::rs)).all λp=>decide (qp p.1=aa [aM,aq]))=aq then aa (Vl.ow (.list (qR ((eU (r::rs)).map (·.1))))) else aj)=_
    exact bG ⟨by unfold eU;rw[bJ];lia,hall⟩
   unfold uE;rw[show HH [.dict (eU (r::rs))]=aj from rfl,h2]
  have p:=ab0 (ds:=(eU (r::rs)).map (·.1)) λd hd=>by obtain⟨p,hp,rfl⟩:=dD.mp hd;obtain⟨q,_,rfl⟩:=dD.mp hp;rfl
  have em:(eU (r::rs)).map (·.1)=(r::rs).map λr=>jK r.1 r.2.1:=by
   unfold eU;rw[fD];rfl
  rw[em] at p
  obtain⟨rs',p1,p2⟩:=aa0 p
  exact⟨rs',p1,by rw[e,em,p2]⟩
theorem ad9:∀{rs:List jr}{r:jr},r∈rs->(rs.map qZ).Nodup->qi jC [.inr r.1,.inl r.2.1] (eU rs)=aa (oO r.2.2)
 |q::rs,r,hm,hn=>by
  rw[dN,ie] at hn
  show(if jC (jK q.1 q.2.1)=aa [.inr r.1,.inl r.2.1] then aa (oO q.2.2) else qi jC [.inr r.1,.inl r.2.1] (eU rs))=_
  rcases bW.mp hm with rfl|hm
  .rw[bG (Nt _ _)]
  .rw[bH,ad9 hm hn.2];intro e;rw[Nt] at e;have e1:q.1=r.1:=by injection e with e;injection e with e1 e2;injection e1
   have e2:q.2.1=r.2.1:=by injection e with e;injection e with e1 e2;injection e2 with e2 _;injection e2
   exact hn.1 (dD.mpr ⟨r,hm,by show(r.1,r.2.1)=(q.1,q.2.1);rw[e1,e2]⟩)
theorem afn(hm:r∈rs)(hn:(rs.map qZ).Nodup):bf (.dict (eU rs)) (jK r.1 r.2.1)=aa (.im (oO r.2.2)):=by
 have h:rQ (eU rs) (jK r.1 r.2.1)=aa (aa (oO r.2.2)):=by
  show(if(dh jC (eU rs)).isSome then aa (qi jC [.inr r.1,.inl r.2.1] (eU rs)) else aj)=_
  rw[Nu,ad9 hm hn];rfl
 unfold bf qX;simp only[h,oF]
theorem Mj:∀ss:List jH,dY (ss.map cQ)=aq
 |[]=>rfl
 |s::ss=>by
  show(aq&&dY (ss.map cQ))=aq
  rw[Mj ss];rfl
theorem ab4:∀rs:List jr,dY (rs.map yq)=aq
 |[]=>rfl
 |r::rs=>by
  show((aq&&(aq&&(dY (r.2.2.map cQ)&&aq)))&&dY (rs.map yq))=aq
  rw[ab4 rs,Mj];rfl
theorem aqh(hk:xs.length=k)(he:xs.map aa++fP (n-xs.length) aj=en)(h:body en C=aa (.rt r,e1,C1))(hr:Fx C.length r=aq)(hC:C1.length=C.length):fN k n body xs C=aa (r,C1):=by
 unfold fN;rw[bG hk,he,h];simp only[hr,if_true,acS hC]
theorem TX:∀zs:List Str,(zs.map iD).all lU=aq
 |[]=>rfl
 |z::zs=>by
  rw[dN,KN,TX zs];rfl
theorem anh(z:Str)(zs:List Str):lW (.str z) (.list (zs.map .str))=aa (.im (.bool (decide (z∈zs)))):=by
 have:inB (.str z) (.list (zs.map .str))=aa (inD (.str z) (zs.map .str)):=bG (by rw[TX];rfl);unfold lW;rw[this,MJ];rfl
theorem ani(x z:Str):jl (.str x) (.str z)=aa (.im (.bool (decide (x=z)))):=by
 have:(x==z)=decide (x=z):=by rw[uh];simp
 show aa (Vl.im (.bool (x==z)))=_;rw[this]
theorem xY(x z:Str):oh (.str x) (.str z)=aa (.im (.bool (!decide (x=z)))):=by
 have:(x==z)=decide (x=z):=by rw[uh];simp
 show aa (Vl.im (.bool (!(x==z))))=_;rw[this]
def cO(q:List (Str×Str)):List (Str×aD):=q.map λp=>(p.1,.str p.2)
theorem U9:∀q,oA (bQ (cO q))=aq
 |[]=>rfl
 |x::q=>by
  show(aq&&oA (bQ (cO q)))=aq
  rw[U9 q];rfl
theorem HN(q:List (Str×Str))(z:Str):rQ (bQ (cO q)) (.str z)=aa ((gQ q z).map .str):=by
 rw[TV];unfold cO gQ;rw[alE,Rz];rfl
theorem TY:∀l:List Int,dY (l.map lD)=aq
 |[]=>rfl
 |x::l=>by
  show(aq&&dY (l.map lD))=aq
  rw[TY l];rfl
theorem pF{zs:List Str}{k:Int}(h0:0<=k)(h1:k<zs.length):∃z,z∈zs/\zs[k.toNat]?=aa z/\fL (zs.map iD) k=aa (.str z):=by
 obtain⟨x,e1,e2⟩:=Xc (xs:=zs.map iD) h0 (by rw[bJ];exact h1)
 rw[jw] at e2;cases hz:zs[k.toNat]? with
 |none=>rw[hz] at e2;cases e2
 |some z=>
  rw[hz] at e2;cases e2
  exact⟨z,lY hz,rfl,e1⟩
theorem FP(a c:Nat)(h:i<n):a+c*(n-i)=a+c*(n-(i+1))+c:=by
 rw[show n-i=(n-(i+1))+1 by lia,Nat.mul_add,Nat.mul_one,Nat.add_assoc]
theorem Xf(a:Nat)(h:i<n):a+(n-i)=a+(n-(i+1))+1:=az
theorem ao4(hit:s.heap.IsTupleIter it t i)(ht:s.heap.IsTuple t aK)(hx:aK[i]?=aa x)
  (q:∀h',h'.IsTupleIter it t (i+1)->zb it s.heap h'->Q x {s with heap:=h'}):aW (model prog w) A (Dm (.ref it)) Q E s:=by
 obtain⟨o,ho,hc,hd⟩:=id hit
 obtain⟨ol,hol,_,nl,hdl⟩:=ht
 unfold Dm;refine aF (uf (name:=bz "__next__") hit.typeIs Q5 (nQ Q5 hit.typeIs ag0 (show aW _ _ (field (.ref it) 0 >>= _) _ _ s from aF (qD ho hd (x:=.ref t) rfl ?_)) (agX _)));show aW _ _ (if(dF t==j4)=aq then _ else _) _ _ s;rw[bH (show ¬((dF t==j4)=aq) from jm)]
 refine(show aW _ _ (field (.ref it) 1 >>= _) _ _ s from aF (qD ho hd (x:=.int i 0) rfl (show aW _ _ (Bw (.ref t) >>= _) _ _ s from aF (qy hol hdl ?_))))
 simp only[yW,hx];refine aF (xJ ho hd bI (bA ⟨x,rfl,bA (q _ ⟨_,vA _ ho (ZF (GJ hd _)),(Z2 ..).trans hc,?_⟩ (rA ..))⟩));rw[GJ hd];simp[jo]
theorem ajJ(hh:A.handled=aj)(hit:s.heap.IsTupleIter it t i)(ht:s.heap.IsTuple t aK)(hx:aK[i]?=aj)
  (q:∀h' e,K9 it s.heap h'->(∃o,h'.get? e=aa o/\o.cls=.type "StopIteration")->E (.ref e) {s with heap:=h'}):aW (model prog w) A (Dm (.ref it)) Q E s:=by
 obtain⟨o,ho,hc,hd⟩:=id hit
 obtain⟨ol,hol,_,nl,hdl⟩:=ht
 unfold Dm;refine aF (uf (name:=bz "__next__") hit.typeIs Q5 (nQ Q5 hit.typeIs ag0 (show aW _ _ (field (.ref it) 0 >>= _) _ _ s from aF (qD ho hd (x:=.ref t) rfl ?_)) (agX _)));show aW _ _ (if(dF t==j4)=aq then _ else _) _ _ s;rw[bH (show ¬((dF t==j4)=aq) from jm)]
 refine(show aW _ _ (field (.ref it) 1 >>= _) _ _ s from aF (qD ho hd (x:=.int i 0) rfl (show aW _ _ (Bw (.ref t) >>= _) _ _ s from aF (qy hol hdl ?_))))
 simp only[yW,hx];refine aF (sV (aF (xJ ho hd bI (show aW _ _ (Iz (.type "StopIteration") [] >>= _) _ _ _ from aF ?_))));simp only[Iz,Us];refine aF (lZ (aF (m:=GZ _ _) (La (a:=j4) (by first|rfl|(simp only[GZ];rfl)) (lZ ?_ (by size_fits)))) (by size_fits));simp only[Ut];refine aF (aaG ?_)
 first|rw[show A.in1.handled=aj from hh,] |rw[hh]
 exact aF (bA (aa8 (q _ _ (((rA ..).extBut.push _).push _) ⟨_,gj _ rfl,rfl⟩)))
theorem T3(hh:A.handled=aj)(it t:aC)(ne:t≠it)(aK:Array aN):Draws prog w A it [it,t] aK.size (λi v=>aK[i]?=aa v) (λi h=>h.IsTupleIter it t i/\h.IsTuple t aK) where
 live:=λ_ _ st=>let ⟨o,ho,_⟩:=st.1;⟨o,ho⟩
 frame:=λ_ _ _ st k=>⟨let ⟨o,e,r⟩:=st.1;⟨o,k it bI o e,r⟩,let ⟨o,e,r⟩:=st.2;⟨o,k t bI o e,r⟩⟩
 item:=λi s Q E hi st q=>ao4 st.1 st.2 (x:=aK[i]) (by simp[hi]) λh' a b=>q _ h' s.toks (by simp[hi]) ⟨a,st.2.extBut b.extBut ne⟩ b
 done:=λs Q E st q=>ajJ hh st.1 st.2 bI q
section
variable{prog:fj}{w:c7}{A:gV}{E:aN->bh->Prop}{s:bh}{z TI TO i1 i2 l1 l2:aC}{f1 f2:List aC}{n m:Nat}{P1 P2:Nat->aN->Prop}{S1 S2:Nat->cg->Prop}
theorem anj(D:Uq z TI TO i1 i2 l1 l2)(D1:Draws prog w A.in1 i1 [i1,l1] n P1 S1)(D2:Draws prog w A.in1 i2 [i2,l2] m P2 S2)(hi:i<n)(hj:i<m)
  (hz:tU s.heap z TI TO .none)(hI:pG s.heap TI (.ref i1) (.ref i2))(hO:pG s.heap TO a b)(h1:S1 i s.heap)(h2:S2 i s.heap)
  (q:∀h' tk x y T,P1 i x->P2 i y->s.heap.objs.size<=T->tU h' z TI TO (jo T)->pG h' TO x y->S1 (i+1) h'->S2 (i+1) h'->pG h' T x y->(∀c o,c∉[z,TO,i1,i2]->s.heap.get? c=aa o->h'.get? c=aa o)->Q (aa (.ref T)) {s with heap:=h',toks:=tk}):
  aW (model prog w) A (j6 (.ref z)) Q E s:=by
 have hT:s.TypeIs (.ref z) "zip":=⟨_,hz,rfl⟩
 have k1:∀{h h':cg}{c:aC}{j:Nat},c≠i1->c≠l1->K9 c h h'->S1 j h->S1 j h':=λ{h h' c j} e1 e2 k st=>D1.frame _ _ _ st λb hb o e=>k b o (λz=>by subst z;simp at hb;rcases hb with hb|hb;exact e1 hb;exact e2 hb) e
 have k2:∀{h h':cg}{c:aC}{j:Nat},c≠i2->c≠l2->K9 c h h'->S2 j h->S2 j h':=λ{h h' c j} e1 e2 k st=>D2.frame _ _ _ st λb hb o e=>k b o (λz=>by subst z;simp at hb;rcases hb with hb|hb;exact e1 hb;exact e2 hb) e
 unfold j6;refine aF (Bh (uf (name:=bz "__next__") hT Ru (nQ Ru hT ah9 ?_ (ahT _))))
 refine(show aW _ _ (field (.ref z) 2 >>= _) _ _ _ from aF (qD hz rfl (x:=.bool aM) rfl (show aW _ _ (field (.ref z) 3 >>= _) _ _ _ from aF (qD hz rfl (x:=.ref TI) rfl (aF (qy hI rfl ?_))))))
 show aW _ _ (QV (.ref z) >>= _) _ _ _;refine aF ?_;unfold QV;refine aF (qD hz rfl (x:=.none) rfl (bA ?_));simp only[if_true];refine aF (sV (aF (qD hz rfl (x:=.ref TO) rfl (aF (Kq hz bI λg1 z1 m1=>?_)))));replace z1:tU g1 z TI TO .ellipsis:=z1;refine aF ?_;simp only[aia,aik,aag,aiv];refine aF (aF (aaH (show aW _ _ (Dm (.ref i1) >>= _) _ _ _ from aF (D1.item i _ _ _ hi (k1 D.i1z.symm D.l1z.symm m1.extBut h1) λx g2 t2 px s2 m2=>bA ?_))));have o2:pG g2 TO a b:=m2.extBut _ _ D.TOi1 (m1.extBut _ _ D.TOz hO);refine aF (qy o2 rfl (aF (ahp o2 λg3 o3 m3=>aF (xP (bA ?_)))));replace o3:pG g3 TO x b:=o3;refine aF (aF (aaH (show aW _ _ (Dm (.ref i2) >>= _) _ _ _ from aF (D2.item i _ _ _ hj (k2 D.TOi2 D.l2TO.symm m3.extBut (k2 D.i12 D.l2i1.symm m2.extBut (k2 D.i2z.symm D.l2z.symm m1.extBut h2))) λy g4 t4 py s4 m4=>bA ?_))));have o4:pG g4 TO x b:=m4.extBut _ _ D.TOi2 o3;refine aF (qy o4 rfl (aF (ahp o4 λg5 o5 m5=>aF (xP (bA (bA ?_))))));replace o5:pG g5 TO x y:=o5;refine aF (qy o5 rfl (aF (wpAny_newTuple ?_)));have sz:g5.objs.size=s.heap.objs.size:=by rw[m5.1,m4.1,m3.1,m2.1,m1.1]
 have z5:tU g5 z TI TO .ellipsis:=m5.extBut _ _ D.TOz.symm (m4.extBut _ _ D.i2z.symm (m3.extBut _ _ D.TOz.symm (m2.extBut _ _ D.i1z.symm z1)));have keep:∀c o,c∉[z,TO,i1,i2]->s.heap.get? c=aa o->g5.get? c=aa o:=λc o hc e=>by
  simp only[bW,iT,or_false,not_or] at hc;exact m5.extBut _ _ hc.2.1 (m4.extBut _ _ hc.2.2.2 (m3.extBut _ _ hc.2.1 (m2.extBut _ _ hc.2.2.1 (m1.extBut _ _ hc.1 e))))
 have u1:S1 (i+1) g5:=k1 D.TOi1 D.l1TO.symm m5.extBut (k1 D.i12.symm D.l1i2.symm m4.extBut (k1 D.TOi1 D.l1TO.symm m3.extBut s2));have u2:S2 (i+1) g5:=k2 D.TOi2 D.l2TO.symm m5.extBut s4;have zl:z<g5.objs.size:=cG z5;show aW _ _ (agS (.ref z) (.ref g5.objs.size) >>= _) _ _ _;refine aF ?_;unfold agS;have z6:tU (g5.push {cls:=.type "tuple",data:=.seq #[x,y]}) z TI TO .ellipsis:=cD _ z5;refine aF (Kq z6 bI λg7 z7 m7=>?_);replace z7:tU g7 z TI TO (jo g5.objs.size):=z7;refine Kq z7 bI λg8 z8 m8=>?_
 replace z8:tU g8 z TI TO (jo g5.objs.size):=z8;have up:K9 z g5 g8:=λc o hc e=>m8.extBut _ _ hc (m7.extBut _ _ hc (cD _ e))
 refine bA ⟨_,rfl,bA ?_⟩;refine q g8 _ x y g5.objs.size px py (aiQ sz.symm) z8 (up _ _ D.TOz o5) (k1 D.i1z.symm D.l1z.symm up u1) (k2 D.i2z.symm D.l2z.symm up u2) ?_ λc o hc e=>up _ _ (λz=>hc (by simp[z])) (keep c o hc e)
 exact m8.extBut _ _ (vK zl) (m7.extBut _ _ (vK zl) (gj _ rfl))
theorem ao5(D:Uq z TI TO i1 i2 l1 l2)(D1:Draws prog w A.in1 i1 [i1,l1] n P1 S1)(hz:tU s.heap z TI TO .none)(hI:pG s.heap TI (.ref i1) (.ref i2))(hO:pG s.heap TO a b)(h1:S1 n s.heap)
  (q:∀h',(∀c o,c∉[z,TO,i1,i2]->s.heap.get? c=aa o->h'.get? c=aa o)->Q aj {s with heap:=h'}):aW (model prog w) A (j6 (.ref z)) Q E s:=by
 have hT:s.TypeIs (.ref z) "zip":=⟨_,hz,rfl⟩
 unfold j6;refine aF (Bh (uf (name:=bz "__next__") hT Ru (nQ Ru hT ah9 ?_ (ahT _))))
 refine(show aW _ _ (field (.ref z) 2 >>= _) _ _ _ from aF (qD hz rfl (x:=.bool aM) rfl (show aW _ _ (field (.ref z) 3 >>= _) _ _ _ from aF (qD hz rfl (x:=.ref TI) rfl (aF (qy hI rfl ?_))))))
 show aW _ _ (QV (.ref z) >>= _) _ _ _;refine aF ?_;unfold QV;refine aF (qD hz rfl (x:=.none) rfl (bA ?_));simp only[if_true];refine aF (sV (aF (qD hz rfl (x:=.ref TO) rfl (aF (Kq hz bI λg1 z1 m1=>?_)))));replace z1:tU g1 z TI TO .ellipsis:=z1;refine aF ?_;simp only[aia,aik,aag,aiv];refine aF (aF (aaH (show aW _ _ (Dm (.ref i1) >>= _) _ _ _ from aF (D1.done _ _ _ (D1.frame _ _ _ h1 λb hb o e=>m1.extBut b o (λz=>by subst z;simp at hb;rcases hb with hb|hb;exact D.i1z hb.symm;exact D.l1z hb.symm) e) λg2 x m2 hx=>?_))))
 obtain⟨ox,e1,e2⟩:=hx
 have z2:tU g2 z TI TO .ellipsis:=m2 _ _ D.i1z.symm z1;have nz:x≠z:=λy=>by subst y;rw[z2] at e1;cases e1;simp at e2
 refine Kq z2 bI λg3 _ m3=>?_
 refine aF (Rn (T:="StopIteration") (b:=aq) ⟨ox,m3.extBut _ _ nz e1,e2⟩ aau (bA (q _ λc o hc e=>?_)));simp only[bW,iT,or_false,not_or] at hc;exact m3.extBut _ _ hc.1 (m2 _ _ hc.2.2.1 (m1.extBut _ _ hc.1 e))
end
abbrev Gw(h:cg)(a:aC):cg:=h.push {cls:=.type "tuple_iterator",data:=.fields #[.ref a,.int 0 0]}
abbrev QC(h:cg)(a b:aC):cg:=Gw (Gw h a) b
abbrev QD(h:cg)(a b:aC):cg:=(QC h a b).push {cls:=.type "tuple",data:=.seq #[.ref h.objs.size,.ref (Gw h a).objs.size]}
abbrev QF(h:cg)(a b:aC):cg:=(QD h a b).push {cls:=.type "tuple",data:=.seq #[.none,.none]}
abbrev Gx(h:cg)(a b:aC):cg:=(QF h a b).push {cls:=.type "zip",data:=.fields #[.none,.bool aM,.bool aM,.ref (QC h a b).objs.size,.ref (QD h a b).objs.size]}
theorem ao6(a b:aC)(xs ys:Array aN):Meets (oK.«zip.__new__» ⟨[.type "zip",.ref a,.ref b],[]⟩) (λ_ R s=>s.heap.IsTuple a xs/\s.heap.IsTuple b ys/\R (.ok (.ret (.ref (QF s.heap a b).objs.size))) {s with heap:=Gx s.heap a b}):=
 .of_wp λprog w A R s h=>by
  obtain⟨hp,g,d,tk,os⟩:=s;obtain⟨h1,h2,q⟩:=h
  have sub:=sub_zip;have t1:aiW (ajb ⟨hp,g,d,tk,os⟩) a xs:=h1;have t2:aiW (ajb ⟨Gw hp a,g,d,tk,os⟩) b ys:=at7 h2 _;wp_walk using ZM t1,ZM t2
  exact⟨_,rfl,q⟩
theorem akt(h1:s.heap.IsTuple a xs)(h2:s.heap.IsTuple b ys)
  (q:∀h',tU h' (s.heap.objs.size+4) (s.heap.objs.size+2) (s.heap.objs.size+3) .none->pG h' (s.heap.objs.size+2) (.ref s.heap.objs.size) (.ref (s.heap.objs.size+1))->pG h' (s.heap.objs.size+3) .none .none->h'.IsTupleIter s.heap.objs.size a 0->h'.IsTupleIter (s.heap.objs.size+1) b 0->
   (∀c o,s.heap.get? c=aa o->h'.get? c=aa o)->Q (.ref (s.heap.objs.size+4)) {s with heap:=h'}):aW (model prog w) A (call (.type "zip") [.ref a,.ref b]) Q E s:=by
 refine callType_new F.called_zip aR (F.typeCall_zip_2 _ _) (F.newCall_zip_2 _ _) (λobj=>F.args_object_init_3 obj _ _) F.entry_zip_new (ao6 a b xs ys) ⟨h1,h2,?_⟩;have z1:(Gw s.heap a).objs.size=s.heap.objs.size+1:=sH ..;have z2:(QC s.heap a b).objs.size=s.heap.objs.size+2:=(sH ..).trans (by rw[z1]);have z3:(QD s.heap a b).objs.size=s.heap.objs.size+3:=(sH ..).trans (by rw[z2]);have z4:(QF s.heap a b).objs.size=s.heap.objs.size+4:=(sH ..).trans (by rw[z3]);have g5:(Gx s.heap a b).get? (QF s.heap a b).objs.size=aa _:=gj _ rfl;have g4:(Gx s.heap a b).get? (QD s.heap a b).objs.size=aa _:=cD _ (gj _ rfl);have g3:(Gx s.heap a b).get? (QC s.heap a b).objs.size=aa _:=cD _ (cD _ (gj _ rfl));have g2:(Gx s.heap a b).get? (Gw s.heap a).objs.size=aa _:=cD _ (cD _ (cD _ (gj _ rfl)));have g1:(Gx s.heap a b).get? s.heap.objs.size=aa _:=cD _ (cD _ (cD _ (cD _ (gj _ rfl))));rw[z2,z3,z4] at g5;rw[z1,z2] at g3;rw[z3] at g4;rw[z1] at g2;show _/\_;rw[z4]
 exact⟨⟨_,g5,rfl⟩,q _ g5 g3 g4 ⟨_,g1,rfl,rfl⟩ ⟨_,g2,rfl,rfl⟩ λc o e=>cD _ (cD _ (cD _ (cD _ (cD _ e))))⟩
def Yn(K:aZ)(a b:aC):It:=⟨λi H=>∃xs ys,cU K H a xs/\cU K H b ys/\xs.length=ys.length/\i<xs.length,
 λi H v H'=>∃p x y,H p=aj/\v=.ref p/\H'=upd H p (.tup [x,y])/\∀xs ys,cU K H a xs->cU K H b ys->xs[i]?=aa x/\ys[i]?=aa y,
 λi H=>∃xs ys,cU K H a xs/\cU K H b ys/\xs.length=ys.length/\i=xs.length⟩
theorem aku{P:fj}{w:c7}{K:aZ}{es:List Expr}{k:Nat}{ps:Pos}{a b z TI TO i1 i2:aC}(D:Uq z TI TO i1 i2 a b):
  Turn P w K (.Tuple es k ps) (Yn K a b) [z,TI,TO,i1,i2] z (λi h=>tU h z TI TO .none/\pG h TI (.ref i1) (.ref i2)/\(∃c d,pG h TO c d)/\h.IsTupleIter i1 a i/\h.IsTupleIter i2 b i) where
 mem:=bI
 obj:=λi h st c hc=>by
  obtain⟨h1,h2,⟨_,_,h3⟩,⟨o4,e4,_,d4⟩,⟨o5,e5,_,d5⟩⟩:=st
  simp only[bW,iT,or_false] at hc;rcases hc with rfl|rfl|rfl|rfl|rfl
  .exact⟨_,h1,λv q=>by cases q⟩
  .exact⟨_,h2,λv q=>by cases q⟩
  .exact⟨_,h3,λv q=>by cases q⟩
  .exact⟨_,e4,λv q=>by rw[d4] at q;cases q⟩
  .exact⟨_,e5,λv q=>by rw[d5] at q;cases q⟩
 keep:=λi h h' st kk=>by
  obtain⟨h1,h2,⟨c,d,h3⟩,⟨o4,e4,r4⟩,⟨o5,e5,r5⟩⟩:=st
  exact⟨kk z bI _ h1,kk TI bI _ h2,⟨c,d,kk TO bI _ h3⟩,⟨o4,kk i1 bI _ e4,r4⟩,⟨o5,kk i2 bI _ e5,r5⟩⟩
 item:=by
  intro X hP hw hK hc i au s σ H E I hf st hg;subst hP hw hK
  obtain⟨xs,ys,ha,hb,hn,hi⟩:=hg
  obtain⟨aK,r1,p1,_⟩:=I.tuple ha
  obtain⟨its2,r2,p2,_⟩:=I.tuple hb
  have l1:=r1.length;have l2:=r2.length;have hh:X.A.in1.handled=aj:=by simp[I.ok.hd hc]
  have D1:=T3 (prog:=X.prog) (w:=X.w) hh i1 a D.l1i1 aK.toArray;have D2:Draws X.prog X.w X.A.in1 i2 [i2,b] aK.toArray.size (λi v=>its2.toArray[i]?=aa v) (λi h=>h.IsTupleIter i2 b i/\h.IsTuple b its2.toArray):=by
   have:=T3 (prog:=X.prog) (w:=X.w) hh i2 b D.l2i2 its2.toArray;rw[show aK.toArray.size=its2.toArray.size by simp;lia];exact this
  obtain⟨s1,s2,⟨c3,d3,s3⟩,s4,s5⟩:=st
  refine anj D D1 D2 (by simp;lia) (by simp;lia) s1 s2 s3 ⟨s4,p1⟩ ⟨s5,p2⟩ λh' tk x y T px py hT a1 a2 a3 a4 a5 kk=>⟨_,rfl,wpAny_letOwnedTupleGo_zip a1 λh2 z2 m2=>?_⟩
  have ltz:z<T:=pU (cG s1) hT;have ex:xs[i]?=aa (xs.getD i .non):=by
   have:i<xs.length:=hi;simp[pY,this]
  have ey:ys[i]?=aa (ys.getD i .non):=by
   have:i<ys.length:=az;simp[pY,this]
  obtain⟨u1,hu1,q1⟩:=r1.get ex
  obtain⟨u2,hu2,q2⟩:=r2.get ey
  have e1:u1=x:=by
   have:aK[i]?=aa x:=by simpa using px
   rw[hu1] at this;exact jy this
  have e2:u2=y:=by
   have:its2[i]?=aa y:=by simpa using py
   rw[hu2] at this;exact jy this
  subst e1 e2;have wf:∀c,c∈[z,TO,i1,i2]->kO X au H c:=λc hc=>hf c (by simp at hc⊢;rcases hc with rfl|rfl|rfl|rfl<;>simp)
  have JV:H T=aj:=I.hok.fresh hT;have kT:pG h2 T u1 u2:=m2.extBut _ _ (vK ltz) a5
  refine⟨.ref T,upd H T (.tup [xs.getD i .non,ys.getD i .non]),I.Nf (t':=tk) (λc o hc e=>m2.extBut _ _ (λz=>hc (by simp[z])) (kk c o hc e)) wf (cH.upd JV) (λc o e n=>?_) (λc u e=>?_),rfl,⟨T,_,_,JV,rfl,rfl,λxs' ys' h1 h2=>?_⟩,?_,λc hc=>?_⟩
  .rw[cP]
   .exact n
   .intro z;subst z;exact absurd (cG e) (Hi.mpr hT)
  .by_cases JW:c=T
   .subst JW;rw[eV] at e;cases e;exact .inr ⟨by show 2<=cJ;decide,[u1,u2],.cons q1 (.cons q2 .nil),_,kT,rfl,_,rfl⟩
   .rw[cP JW] at e;exact .inl e
  .rw[I.Tn h1 ha,I.Tn h2 hb]
   exact⟨ex,ey⟩
  .have ltI:TI≠z:=D.TIz
   refine⟨z2,m2.extBut _ _ D.TIz (kk _ _ ?_ s2),⟨_,_,m2.extBut _ _ D.TOz a2⟩,a3.1.extBut m2.extBut D.i1z,a4.1.extBut m2.extBut D.i2z⟩
   simp only[bW,iT,or_false,not_or]
   exact⟨D.TIz,D.TITO,D.TIi1,D.TIi2⟩
  .rw[cP]
   .exact(hf c hc).1
   .intro e;subst e;have:c<s.heap.objs.size:=by
     simp only[bW,iT,or_false] at hc
     obtain⟨o4,e4,_⟩:=s4
     obtain⟨o5,e5,_⟩:=s5
     rcases hc with rfl|rfl|rfl|rfl|rfl
     .exact cG s1
     .exact cG s2
     .exact cG s3
     .exact cG e4
     .exact cG e5
    exact absurd this (Hi.mpr hT)
 done:=by
  intro X hP hw hK hc i au s σ H E I hf st hg;subst hP hw hK
  obtain⟨xs,ys,ha,hb,hn,hi⟩:=hg
  obtain⟨aK,r1,p1,_⟩:=I.tuple ha
  have l1:=r1.length;have hh:X.A.in1.handled=aj:=by simp[I.ok.hd hc]
  have D1:=T3 (prog:=X.prog) (w:=X.w) hh i1 a D.l1i1 aK.toArray
  obtain⟨s1,s2,⟨c3,d3,s3⟩,s4,s5⟩:=st
  have e:i=aK.toArray.size:=by simp;lia
  subst e;have wf:∀c,c∈[z,TO,i1,i2]->kO X au H c:=λc hc=>hf c (by simp at hc⊢;rcases hc with rfl|rfl|rfl|rfl<;>simp)
  exact ao5 D D1 s1 s2 s3 ⟨s4,p1⟩ λh' kk=>⟨rfl,I.Nf (t':=s.toks) kk wf (cH.refl H) (λ_ _ _ n=>n) λ_ _ e=>.inl e⟩
 self:=λ_ _ _ _ _ st h=>Rm st.1 h
def aqi(K:aZ)(t:TA):TI:=λσ H R=>t σ H λvs H1=>∃a b xs ys,vs=[.ref a,.ref b]/\cU K H1 a xs/\cU K H1 b ys/\R (Yn K a b) H1
theorem ank{X:Cx}{es:List Expr}{k:Nat}{ps:Pos}{t:TA}{p pos:Pos}(hg:Gl X "zip")(hm:X.mg "zip"=aj)(ha:PA X [x,y] t)(hs:bR [x,y] X.env=[(aM,eval x X.env),(aM,eval y X.env)]:=by rfl)(hs2:bR [y] X.env=[(aM,eval y X.env)]:=by rfl):
  PI X (.Tuple es k ps) (.Call (.Name "zip" p) [x,y] [] pos) (aqi X.K t):=by
 intro au s σ H R I h;refine Call_ (zH I hg hm ahf (Q0 (bY (ha pos au s σ H _ I h) λus s1 aY=>?_) (by rw[hs,hs2]) (by rw[hs2];rfl)))
 obtain⟨vs,H1,I1,r1,a,b,xs,ys,e,h1,h2,q⟩:=aY
 subst e;cases r1 with
 |cons r rr=>
  cases rr with
  |cons r' rr=>
   cases rr;cases r;cases r'
   obtain⟨aK,v1,p1,_⟩:=I1.tuple h1
   obtain⟨its2,v2,p2,_⟩:=I1.tuple h2
   have YL:a<s1.heap.objs.size:=by obtain⟨_,e,_⟩:=p1;exact cG e
   have t8:b<s1.heap.objs.size:=by obtain⟨_,e,_⟩:=p2;exact cG e
   refine akt p1 p2 λh' g1 g2 g3 g4 g5 kk=>Rm g1 ?_
   have I2:Inv X au σ H1 {s1 with heap:=h'}:=I1.kept (t':=s1.toks) kk
   refine⟨s1.heap.objs.size+4,[s1.heap.objs.size+4,s1.heap.objs.size+2,s1.heap.objs.size+3,s1.heap.objs.size,s1.heap.objs.size+1],_,_,H1,rfl,I2,aku (zipApart_new YL t8),⟨g1,g2,⟨_,_,g3⟩,g4,g5⟩,λc hc=>?_,q⟩
   refine I1.wO ?_ (I1.hok.fresh ?_)
   all_goals
    simp only[bW,iT,or_false] at hc;rcases hc with rfl|rfl|rfl|rfl|rfl<;>lia
theorem anl{K:aZ}{H:Hp}{a b:aC}{vs ws:List V}(ha:er P H a=aa (.tup vs))(hb:er P H b=aa (.tup ws))(r1:cu (er P H) ds vs)(r2:cu (er P H) es ws)(hl:ds.length=es.length):yF P T H (Yn K a b) (qT ds es):=λi H2 P2 s1 s2 n=>by
 have h2:cU K H2 a vs:=cU.of (jh (s1 _ _ ha));have h3:cU K H2 b ws:=cU.of (jh (s1 _ _ hb));have l1:=jG r1;have l2:=jG r2
 refine⟨λd hd=>?_,λhi=>⟨vs,ws,h2,h3,az,by rw[hi,U6];lia⟩⟩
 obtain⟨x,y,e1,e2,rfl⟩:=V8 hd
 obtain⟨v,ev,rv⟩:=wu r1 e1
 obtain⟨w,ew,rw'⟩:=wu r2 e2
 refine⟨⟨vs,ws,h2,h3,az,(jO.mp ev).1⟩,λz H3 yl=>?_⟩
 obtain⟨p,v',w',hp,rfl,rfl,hh⟩:=yl
 obtain⟨g1,g2⟩:=hh vs ws h2 h3
 rw[ev] at g1;rw[ew] at g2;cases g1;cases g2;have sp:cH H2 (upd H2 p (.tup [v,w])):=cH.upd hp
 refine⟨sp,p,[v,w],rfl,?_,v,[w],rfl,rv.same (s1.trans (Ni sp)),w,[],rfl,rw'.same (s1.trans (Ni sp)),rfl⟩
 unfold er;rw[bH (λm=>(n p m).ne hp),eV]
def zL:aD->Option (Bool×List aD)
 |.list xs=>aa (aq,xs)
 |.tuple xs=>aa (aM,xs)
 |_=>aj
def afW:List aD->Option (List aD)
 |[x,y]=>(zL x).bind λp=>(zL y).bind λq=>if p.1=q.1/\(p.1=aq\/p.2.length=q.2.length) then aa (qT p.2 q.2) else aj
 |_=>aj
theorem afo(h:zL x=aa (b,xs)):x=cond b (.list xs) (.tuple xs):=by
 cases x<;>first|(cases h;rfl)|cases h
theorem anm(h:afW ds=aa l):∃xs ys,(ds=[.list xs,.list ys]\/ds=[.tuple xs,.tuple ys]/\xs.length=ys.length)/\l=qT xs ys:=by
 match ds,h with
 |[x,y],h=>
  obtain⟨⟨b,xs⟩,hx,h⟩:=Aw.mp h
  obtain⟨⟨c,ys⟩,hy,h⟩:=Aw.mp h
  rw[afo hx,afo hy];split at h
  .rename_i hc
   obtain⟨h1,h2⟩:=hc
   cases h
   cases(show b=c from h1)
   refine⟨xs,ys,?_,rfl⟩
   cases b with
   |true=>exact .inl rfl
   |false=>exact .inr ⟨rfl,h2.resolve_left jm⟩
  .cases h
def afX(f:Am):FI:=λao C=>(f ao C).bind λp=>(afW p.1).map λl=>(l,p.2)
theorem ano(hg:Gl X "zip")(hm:X.mg "zip"=aj)(ha:PA X [x,y] (wX X.K f))(hs:bR [x,y] X.env=[(aM,eval x X.env),(aM,eval y X.env)]:=by rfl)(hs2:bR [y] X.env=[(aM,eval y X.env)]:=by rfl):
  PI X (.Tuple es k ps) (.Call (.Name "zip" p) [x,y] [] pos) (tI X.K aq (afX f)):=((aoF hg hm ha hs hs2).or (ank hg hm ha hs hs2)).weak λσ H R aY=>by
 obtain⟨Z,Θ,ao,C,aK,aV,C',S,hf,q⟩:=aY
 refine hide λGG gg=>?_
 obtain⟨⟨ds,e1,C1⟩,h1,h2⟩:=Aw.mp hf
 obtain⟨l,h3,h4⟩:=xj.mp h2
 cases h4
 obtain⟨xs,ys,hd,rfl⟩:=anm h3
 rcases hd with rfl|⟨rfl,hl⟩
 .refine gg (.inl ⟨Z,Θ,ao,C,_,aV,C',S,h1,λvs H1 k f S1 b1=>?_⟩);refine hide λG2 g2=>?_
  obtain⟨_,_,rfl,b1,b2⟩:=Pz b1
  obtain⟨a,vs1,rfl,ha,r1⟩:=b1
  obtain⟨b,vs2,rfl,hb,r2⟩:=b2
  exact g2 ⟨a,b,vs1,vs2,rfl,cj.of (jh ha),cj.of (jh hb),q _ H1 k f S1 (aoX ha hb r1 r2)⟩
 .refine gg (.inr ⟨Z,Θ,ao,C,_,aV,C',S,h1,λvs H1 k f S1 b1=>?_⟩);refine hide λG2 g2=>?_
  obtain⟨_,_,rfl,b1,b2⟩:=Pz b1
  obtain⟨a,vs1,rfl,ha,r1⟩:=b1
  obtain⟨b,vs2,rfl,hb,r2⟩:=b2
  exact g2 ⟨a,b,vs1,vs2,rfl,cU.of (jh ha),cU.of (jh hb),q _ H1 k f S1 (anl ha hb r1 r2 hl)⟩
def zP:aD->aD->oVl
 |.list xs,.int n=>if 0<=n/\n<=1000/\xs.length<=1000 then aa (.ow (.list (fP n.toNat xs).flatten)) else aj
 |a,b=>jX a b
def afp:R2:=λx y H Q=>(rI Ju λi j=>.int (i*j)) x y H Q\/afH x y H Q
theorem aea:dU X (pZ .Mult) afp:=rK.or aoy
theorem aeb(h:cu H ds vs):∀n,cu H (fP n ds).flatten (fP n vs).flatten
 |0=>rfl
 |n+1=>by
  rw[Dt,Dt,GP,GP];exact BR h (aeb h n)
theorem aec{K:aZ}:jD K afp zP:=by
 intro Z Θ ao C σ H x y dx dy res S bx fV e Q q;unfold zP at e;split at e
 .rename_i xs n;split at e
  case isFalse=>cases e
  rename_i hn;cases e
  obtain⟨a,vs,rfl,ha,r1⟩:=bx.lst
  cases fV.int;have l1:=jG r1;refine .inr ⟨a,n,vs,rfl,rfl,ha,az,az,?_,λp hp=>q _ _ (bD.upd hp) (rH S (aeb r1 _) hp)⟩;rw[jQ,l1];have:xs.length*n.toNat<=1000*1000:=Nat.mul_le_mul hn.2.2 az;lia
 .exact .inl (rN Z Θ ao C σ H x y dx dy res S bx fV e Q q)
section
variable{X:Cx}
end
def PL(fk:FB)(fv:FE):FE:=λao C=>match fk ao C with
 |some (dk,e1,C1)=>match fv e1 C1 with
  |some (r,e2,C2)=>match fW dk with
   |some _=>match still r with
    |.im d=>aa (.ow (.dict [(dk,d)]),e2,C2)
    |_=>aj
   |none=>aj
  |none=>aj
 |none=>aj
theorem alG(hk:PE X k (eX X.K fk))(hv:PE X v (tE X.K fv)):PE X (.Dict [aa k] [v] pos) (tE X.K (PL fk fv)):=
 (adA (acr hk hv adz) rfl rfl (λz=>nomatch z) (ZG rfl)).weak λσ H Q aY=>by
 obtain⟨Z,Θ,ao,C,r,aV,C',S,hf,q⟩:=aY
 unfold PL at hf;split at hf
 case h_2=>cases hf
 rename_i dk e1 C1 h1;split at hf
 case h_2=>cases hf
 rename_i rv e2 C2 h2;split at hf
 case h_2=>cases hf
 rename_i kk hkk;split at hf
 case h_2=>cases hf
 rename_i d hs;cases hf;intro p hp
 refine⟨p::Z,Θ,ao,C,dk,e1,C1,S.push hp _ (λ_ z=>nomatch z),h1,λx H1 k1 f1 S1 bx=>?_⟩
 refine⟨p::Z,Θ,e1,C1,rv,aV,C',S1,h2,λy H2 k2 f2 r2=>?_⟩
 have R:=r2.still;rw[hs] at R
 obtain⟨S2,rz⟩:=R
 have ex:x=kV kk:=by
  cases dk<;>first|(cases hkk;exact bx)|cases hkk
 have mX:bD Θ H H2:=((bD.upd hp).trans k1).trans k2;have np:p∉Θ:=λm=>by
  have:=(ie.mp S2.nd).1;exact this (eF _ (fM _ m))
 have QG:H2 p=aa (.dK [] 0):=(k1.trans k2).keep _ _ eV np
 refine⟨QG,[(kk,y)],by rw[ex];rfl,ZG rfl,λep=>?_⟩
 have kf:bD Θ H (upd H2 p (.dK [(kk,y)] ep)):=⟨λa o ha na=>by
  rw[cP (pX ha hp)];exact mX.keep _ _ ha na,λa ha=>by
  by_cases z:a=p
  .exact absurd (z▸hp) ha
  .rw[cP z];exact mX.2 a ha⟩
 have c2:qJ Θ C' (upd H2 p (.dK [(kk,y)] ep)):=⟨S2.cell.len,λn b ns h3 h4=>by
  have:=S2.cell.at_ n b ns h3 h4;rw[cP (show b≠p from λz=>np (by rw[<-z];exact lY h3))];exact this⟩
 refine q _ _ kf (f1.trans f2) ⟨p,rfl,hp,(S.fz (f1.trans f2)).Fv hp kf ⟨_,eV,λ_ z=>nomatch z⟩ c2,[y],.inl ⟨[kk],?_,ep,eV⟩,y,[],rfl,?_,rfl⟩
 .unfold dh;rw[hkk];rfl
 .refine rz.same λa u e=>?_
  unfold er at e⊢;split at e
  .cases e
  .rename_i n;rw[bH n,cP (show a≠p from λz=>n (by rw[z];exact cX))];exact e
section
variable{prog:fj}{w:c7}{A:gV}{s:bh}{I S:aC}{fp wr:List aC}{n:Nat}{St:Nat->cg->Prop}{bt:Nat->Nat->Bool}{HK:cg->Prop}
theorem anp(W:yg prog w A.in1 I fp wr n Pv St)(cmp:∀(i j:Nat)(vi vj:aN)(s:bh)(Q:aN->bh->Prop)(E:aN->bh->Prop),HK s.heap->Pv i vi->Pv j vj->Q (.bool (bt i j)) s->aW (model prog w) A.in1 (G9 .Lt vi vj) Q E s)
  (hk:∀h h',HK h->(∀b o,b∉wr->b≠S->h.get? b=aa o->h'.get? b=aa o)->HK h')(out:S∉fp):∀(m j:Nat)(s:bh)(vb:aN)(c:Nat),n-(j+1)=m->j+1<=n->St (j+1) s.heap->HK s.heap->Pv (ji bt j) vb->s.heap.get? S=aa (afc vb c)->
  (∀v h' tk,Pv (ji bt (n-1)) v->(∀b o,b∉wr->b≠S->s.heap.get? b=aa o->h'.get? b=aa o)->R (.ok (.ret v)) {s with heap:=h',toks:=tk})->lQ (model prog w) A (.builtin "min.loop" ⟨[.ref I,.none,.ref S],[]⟩) R s:=by
 have yC:S∉wr:=λz=>out (W.sub _ z)
 have nm:(toString "min"++toString ".loop":String)="min.loop":=aR;intro m;induction m with
 |zero=>
  intro j s vb c hm hj st kp pb hS hR;have last:j+1=n:=az;refine xG ZC ?_;rw[xr Dq _];show aW _ A.in1 (Bw (.ref S) >>= _) _ _ s;refine aF (qy hS rfl ?_);show aW _ A.in1 (tryCatch (j6 (.ref I)) _ >>= _) _ _ s;refine aF (yZ (W.done s _ _ (last▸st) λh' tk kk=>?_));have g:=kk S _ yC hS;show aW _ A.in1 (Ho S (λ_=>#[]) >>= _) _ _ _;refine aF (Bd g rfl (aF (xP (bA ?_))));exact hR vb _ tk (by rw[<-last];exact pb) λb o hb hbS e=>(pR _ _ (j5 hbS)).trans (kk b o hb e)
 |succ m ih=>
  intro j s vb c hm hj st kp pb hS hR;have lt:j+1<n:=az;refine xG ZC ?_;rw[xr Dq _];show aW _ A.in1 (Bw (.ref S) >>= _) _ _ s;refine aF (qy hS rfl ?_);show aW _ A.in1 (tryCatch (j6 (.ref I)) _ >>= _) _ _ s;refine aF (yZ (W.item (j+1) s _ _ lt st λv h' tk pv st' kk=>?_));have g:=kk S _ yC hS;have J6:HK h':=hk _ _ kp λb o hb _ e=>kk b o hb e
  show aW _ A.in1 (tryCatch (nA [v,v] (G9 .Lt v vb >>= _)) _ >>= _) _ _ _;refine aF (yZ (nj (aF (cmp (j+1) (ji bt j) v vb _ _ _ J6 pv pb ?_))));refine aF (nj (yV (aF (xP (bA ?_)))));cases hb:bt (j+1) (ji bt j) with
  |true=>
   simp only[if_true];refine aF (Bd g rfl (aF (xP ?_)));rw[nm];refine bA ⟨uq Dq _,ih (j+1) _ v _ az lt (W.frame _ _ _ st' λb hbf o e=>(pR _ _ λz:S=b=>out (z▸hbf)).trans e) (hk _ _ J6 λb o _ hbS e=>(pR _ _ (j5 hbS)).trans e) (by simp only[ji,hb,if_true];exact pv) (vA _ g rfl) λv' h2 tk2 vf mX=>?_⟩;exact hR v' h2 tk2 vf λb o hb' hbS e=>mX b o hb' hbS ((pR _ _ (j5 hbS)).trans (kk b o hb' e))
  |false=>
   simp only[pW,if_false];refine aF (xP ?_);rw[nm];refine bA ⟨uq Dq _,ih (j+1) _ vb c az lt st' J6 (by simp only[ji,hb,pW,if_false];exact pb) g λv' h2 tk2 vf mX=>?_⟩;exact hR v' h2 tk2 vf λb o hb' hbS e=>mX b o hb' hbS (kk b o hb' e)
theorem anq(W:yg prog w A.in1 I fp wr n Pv St)(cmp:∀(i j:Nat)(vi vj:aN)(s:bh)(Q:aN->bh->Prop)(E:aN->bh->Prop),HK s.heap->Pv i vi->Pv j vj->Q (.bool (bt i j)) s->aW (model prog w) A.in1 (G9 .Lt vi vj) Q E s)
  (hk:∀h h',HK h->(∀b o,b∉wr->b≠S->h.get? b=aa o->h'.get? b=aa o)->HK h')(out:S∉fp)(pos:0<n)(st:St 0 s.heap)(kp:HK s.heap)(hS:s.heap.get? S=aa {cls:=.type "list",dict:=aj,data:=.seq #[] c,slots:=#[]})
  (hR:∀v h' tk,Pv (ji bt (n-1)) v->(∀b o,b∉wr->b≠S->s.heap.get? b=aa o->h'.get? b=aa o)->R (.ok (.ret v)) {s with heap:=h',toks:=tk}):lQ (model prog w) A (.builtin "min.loop" ⟨[.ref I,.none,.ref S],[]⟩) R s:=by
 have yC:S∉wr:=λz=>out (W.sub _ z)
 have nm:(toString "min"++toString ".loop":String)="min.loop":=aR;refine xG ZC ?_;rw[xr Dq _];show aW _ A.in1 (Bw (.ref S) >>= _) _ _ s;refine aF (qy hS rfl ?_);show aW _ A.in1 (tryCatch (j6 (.ref I)) _ >>= _) _ _ s;refine aF (yZ (W.item 0 s _ _ pos st λv h' tk pv st' kk=>?_));have g:=kk S _ yC hS;have J6:HK h':=hk _ _ kp λb o hb _ e=>kk b o hb e
 show aW _ A.in1 (Ho S (λ_=>#[v,v]) >>= _) _ _ _;refine aF (Bd g rfl ?_);rw[nm];refine bA ⟨uq Dq _,anp W cmp hk out _ 0 _ v _ rfl pos (W.frame _ _ _ st' λb hbf o e=>(pR _ _ λz:S=b=>out (z▸hbf)).trans e) (hk _ _ J6 λb o _ hbS e=>(pR _ _ (j5 hbS)).trans e) pv (vA _ g rfl) λv' h2 tk2 vf mX=>?_⟩;exact hR v' h2 tk2 vf λb o hb' hbS e=>mX b o hb' hbS ((pR _ _ (j5 hbS)).trans (kk b o hb' e))
theorem anr(hh:A.handled=aj)(hl:s.heap.IsList l items)(pos:0<items.size)
  (cmp:∀(i j:Nat)(vi vj:aN)(s':bh)(Q:aN->bh->Prop)(E:aN->bh->Prop),(∀b o,s.heap.get? b=aa o->s'.heap.get? b=aa o)->items[i]?=aa vi->items[j]?=aa vj->Q (.bool (bt i j)) s'->aW (model prog w) A.in1 (G9 .Lt vi vj) Q E s')
  (h:∀(v:aN)(h':cg)(tk:Nat),items[ji bt (items.size-1)]?=aa v->(∀b o,s.heap.get? b=aa o->h'.get? b=aa o)->Q v {s with heap:=h',toks:=tk}):aW (model prog w) A (call (.builtin "min") [.ref l]) Q E s:=by
 have nm:(toString "min"++toString ".loop":String)="min.loop":=aR;have Al:l<s.heap.objs.size:=by obtain⟨o,ho,_⟩:=hl;exact cG ho
 refine aaV PySem.F.kind_min PySem.F.plain_min PySem.F.entry_min (PySem.F.args_min1 _) ?_;show aW _ A.in1 (Q4 "min" ["key","default"] 0 ⟨[],[]⟩ >>= _) _ _ s;refine aF (La (show Q4 "min" ["key","default"] 0 ⟨[],[]⟩=pure [aj,aj] from rfl) ?_);refine aF (bA ?_);refine aF (Ks hl (aF (lZ ?_)));rw[nm];have vd:(s.heap.push {cls:=.type "list_iterator",data:=.fields #[.ref l,.int 0 0]}).objs.size=s.heap.objs.size+1:=sH ..;have W:=Sv (prog:=prog) (w:=w) (A:=A.in1) (by simp[hh]) s.heap.objs.size l (fQ Al) items;refine bA ⟨uq Dq _,?_⟩;show lQ (model prog w) A (.builtin "min.loop" ⟨[.ref s.heap.objs.size,.none,.ref (s.heap.push {cls:=.type "list_iterator",data:=.fields #[.ref l,.int 0 0]}).objs.size],[]⟩) _ {s with heap:=(s.heap.push {cls:=.type "list_iterator",data:=.fields #[.ref l,.int 0 0]}).push {cls:=.type "list",data:=.seq #[]}};have ol:∀b o,s.heap.get? b=aa o->b∉[s.heap.objs.size]:=λb o e=>by
  simp only[bW,iT,or_false];exact fQ (cG e)
 have ol2:∀b o,s.heap.get? b=aa o->b≠(s.heap.push {cls:=.type "list_iterator",data:=.fields #[.ref l,.int 0 0]}).objs.size:=λb o e=>by
  rw[vd];exact fQ (vG (cG e))
 refine anq (HK:=λh=>∀b o,s.heap.get? b=aa o->h.get? b=aa o) W cmp (λh h' k kk b o e=>kk b o (ol b o e) (ol2 b o e) (k b o e)) ?_ pos ⟨⟨_,cD _ (gj _ rfl),rfl,rfl⟩,(hl.push _).push _⟩ (λb o e=>cD _ (cD _ e)) (gj _ rfl) λv h' tk hv kk=>?_
 .rw[vd];simp only[bW,iT,or_false,not_or]
  exact⟨vK (KC _),vK (vG Al)⟩
 .exact h v h' tk hv λb o e=>kk b o (ol b o e) (ol2 b o e) (cD _ (cD _ e))
end
theorem aiG(hc:X.calm=aq)(hu:X.A.units+1<iM):iY X (.builtin "min") (λxs H Q=>∃(p:aC)(aP:List Row)(sh:List Bool),xs=[.ref p]/\cj X.K H p (aP.map λr=>V.ref r.1)/\0<aP.length/\(∀r∈aP,H r.1=aa (.tup (r.2.map kV))/\r.2.map cA=sh)/\
  ∀r,aP[ji (mD aP) (aP.length-1)]?=aa r->Q (.ref r.1) H):=by
 intro au s σ H xs us Q I r h
 obtain⟨p,aP,sh,rfl,hp,pos,ha,q⟩:=h
 obtain⟨u,rfl,ru⟩:=vals1 r
 cases ru
 obtain⟨aK,r',pl,hz⟩:=I.list hp
 have ei:aK=aP.map λr=>dF r.1:=by
  clear pos ha q pl hz hp;induction aP generalizing aK with
  |nil=>cases r';rfl
  |cons a aP ih=>
   cases r' with
   |cons h t=>
    cases h;rw[ih _ t];rfl
 subst ei;have tu:∀r∈aP,TupAt s.heap r/\r.2.map cA=sh:=λr hr=>by
  obtain⟨_,aK,v,t⟩:=(show f9 X.prog X.w H s.heap r.1 (.tup (r.2.map kV)) from I.hok r.1 _ (ha r hr).1)
  exact⟨⟨aK,v,t⟩,(ha r hr).2⟩
 refine anr (bt:=mD aP) (I.ok.hd hc) pl.isList (by simpa using pos) (λi j vi vj s' Q E k hi hj q=>?_) λv h' tk hv k=>?_
 .have hi':(aP.map λr=>dF r.1)[i]?=aa vi:=by simpa using hi
  have hj':(aP.map λr=>dF r.1)[j]?=aa vj:=by simpa using hj
  rw[jw] at hi' hj';cases ri:aP[i]? with
  |none=>rw[ri] at hi';cases hi'
  |some a=>
   cases rj:aP[j]? with
   |none=>rw[rj] at hj';cases hj'
   |some b=>
    rw[ri] at hi';rw[rj] at hj';cases hi';cases hj'
    obtain⟨⟨aK,v,t⟩,sa⟩:=tu a (lY ri)
    obtain⟨⟨its2,v2,t2⟩,sb⟩:=tu b (lY rj)
    have ta:=(TupAt.keep (r:=a) ⟨aK,v,t⟩ k)
    have tb:=(TupAt.keep (r:=b) ⟨its2,v2,t2⟩ k)
    obtain⟨aK,v,t⟩:=ta
    obtain⟨its2,v2,t2⟩:=tb
    refine abp t t2 (by simpa using v) (by simpa using v2) (sa.trans sb.symm) hu ?_;have e:mD aP i j=dO a.2 b.2:=by
     unfold mD uO;simp[ri,rj]
    rw[<-e];exact q
 .have hv':(aP.map λr=>dF r.1)[ji (mD aP) (aP.length-1)]?=aa v:=by simpa using hv
  rw[jw] at hv';cases rv:aP[ji (mD aP) (aP.length-1)]? with
  |none=>rw[rv] at hv';cases hv'
  |some a=>
   rw[rv] at hv';cases hv'
   exact⟨.ref a.1,H,I.kept (t':=tk) k,rfl,q a rv⟩
theorem akv(h:(nu P w).is k u=aq):RelV (kV k) u:=by
 rcases vL h with⟨i,t,rfl,rfl⟩|⟨x,t,rfl,rfl⟩<;>exact⟨t,rfl⟩
def Jp(ks:List (List Key)):Nat:=ji (λi j=>dO (ks.getD i (ks.headD [])) (ks.getD j (ks.headD []))) (ks.length-1)
theorem ajK(aP:List Row):ji (mD aP) (aP.length-1)=Jp (aP.map (·.2)):=by
 have e:mD aP=λi j=>dO ((aP.map (·.2)).getD i ((aP.map (·.2)).headD [])) ((aP.map (·.2)).getD j ((aP.map (·.2)).headD [])):=by
  funext i j;rw[mD,Mu,Mu]
 unfold Jp;rw[e,bJ]
def Xg(ds:List aD):oVl:=ds.head?.bind λd0=>(qp d0).bind λsh=>if ∀d∈ds,qp d=aa sh then(ds[Jp (ds.map rR)]?).map .im else aj
def O2:List aD->oVl
 |[.list ds]=>Xg ds
 |_=>aj
theorem ant{K:aZ}:lM K (λxs H Q=>∃(p:aC)(aP:List Row)(sh:List Bool),xs=[.ref p]/\cj K H p (aP.map λr=>V.ref r.1)/\0<aP.length/\(∀r∈aP,H r.1=aa (.tup (r.2.map kV))/\r.2.map cA=sh)/\
  ∀r,aP[ji (mD aP) (aP.length-1)]?=aa r->Q (.ref r.1) H) O2:=by
 intro Z Θ ao C σ H xs ds res S b e Q q;refine hide λGG gg=>?_
 unfold O2 at e;split at e
 case h_2=>cases e
 rename_i ds
 obtain⟨d0,h0,e⟩:=Aw.mp e
 obtain⟨sh,_,e⟩:=Aw.mp e
 split at e
 case isFalse=>cases e
 rename_i hall
 obtain⟨d,hd,rfl⟩:=xj.mp e
 obtain⟨v,rfl,bb⟩:=qL b
 obtain⟨a,vs,rfl,ha,r⟩:=bb.lst
 obtain⟨aP,rfl,e2,e3⟩:=U4 hall r
 have ek:ds.map rR=aP.map (·.2):=by
  rw[e2,fD];refine xu λr _=>?_
  show(keysOf (r.2.map mZ)).getD []=r.2
  rw[HJ];rfl
 rw[ek,<-ajK] at hd;refine gg ⟨a,aP,sh,rfl,cj.of ha,?_,λr m=>⟨jh (e3 r m).1,(e3 r m).2⟩,λr hr=>?_⟩
 .cases aP with
  |nil=>rw[e2] at h0;cases h0
  |cons _ _=>exact aiX _
 .have m:=lY hr;have hd':d=.tuple (r.2.map mZ):=by
   rw[e2,jw,hr] at hd
   exact(jy hd).symm
  obtain⟨u,t,e4,q4,_⟩:=Mz (E:=er (bB Z Θ ao σ) H) (aP:=[r]) λx hx=>by rw[gk.mp hx];exact(e3 r m).1
  cases e4;refine q _ H (bD.refl _ _) ⟨S,?_⟩;rw[hd'];exact q4
def Bl(L:Nat)(C:Ce)(b k:Nat):Prop:=C.length=L/\∃x y z:Int,C[b]?=aa [x,y,z]/\0<=x/\0<=z/\z+k<=900000
theorem Bl.mono(h:Bl L C b k)(hj:j<=k):Bl L C b j:=by
 obtain⟨l,x,y,z,h1,h2,h5,h6⟩:=h
 exact⟨l,x,y,z,h1,h2,h5,az⟩
theorem Bl.eq(h:Bl L C b k)(h':Bl L C' b' k'):C'.length=C.length:=h'.1.trans h.1.symm
theorem ao7(C:Ce)(h0:0<=x):Bl (C.length+1) (C++[[x,y,0]]) C.length 800000:=by
 refine⟨bI,x,y,0,?_,h0,xQ _,az⟩
 rw[qx (cz _),aaT];rfl
theorem acY{n s u f i j:Int}(hu:s*u%n=1)(n0:0<n)(hi:0<=i)(hj:0<=j)(hi':i<n)(hj':j<n)(e:(f+s*i)%n=(f+s*j)%n):i=j:=by
 have h1:(f+s*i-(f+s*j))%n=0:=agR.mp e
 obtain⟨d,hd⟩:=Int.dvd_of_emod_eq_zero h1
 have hq:s*u=n*(s*u / n)+1:=by
  have:=Int.mul_ediv_add_emod (s*u) n;rw[hu] at this;exact this.symm
 generalize s*u / n=q at hq;have key:i-j=n*(u*d-q*(i-j)):=by grind
 have h2:(i-j)%n=0:=Int.emod_eq_zero_of_dvd ⟨_,key⟩;have h3:i%n=j%n:=agR.mpr h2;rw[Rk hi hi',Rk hj hj'] at h3;exact h3
def Jq(s:Int):Prop:=(0<s/\s<=675)/\(∃u,s*u%676=1)/\∃u,s*u%26=1
theorem step_at(h0:0<=k)(h1:k<6):∃s,fL [lD 1,.int 3,.int 5,.int 7,.int 25,.int 675] k=aa (.int s)/\Jq s:=by
 have hk:k=0\/k=1\/k=2\/k=3\/k=4\/k=5:=az;rcases hk with rfl|rfl|rfl|rfl|rfl|rfl
 .exact⟨1,rfl,aR,⟨1,aR⟩,⟨1,aR⟩⟩
 .exact⟨3,rfl,aR,⟨451,aR⟩,⟨9,aR⟩⟩
 .exact⟨5,rfl,aR,⟨541,aR⟩,⟨21,aR⟩⟩
 .exact⟨7,rfl,aR,⟨483,aR⟩,⟨15,aR⟩⟩
 .exact⟨25,rfl,aR,⟨649,aR⟩,⟨25,aR⟩⟩
 .exact⟨675,rfl,aR,⟨675,aR⟩,⟨25,aR⟩⟩
theorem aed(e:z.cps.toList=l)(h1:1<=l.length)(h2:l.length<=8)(h3:∀c∈l,97<=c/\c<=122):nameB z=aq:=by
 have e2:z.length=l.length:=by rw[<-e];show z.cps.size=_;simp
 unfold nameB Y8;rw[e,e2];simp only[jP,decide_eq_true_eq,nR]
 exact⟨⟨h1,h2⟩,h3⟩
theorem aak(h:∀i j,i<n->j<n->f i=f j->i=j):((gG n).map f).Nodup:=by
 rw[List.nodup_iff_pairwise_ne,GR];refine atX (R:=(·<·)) (λ{a b} ha hb hab e=>?_) Zy;have:=h a b (vJ.mp ha) (vJ.mp hb) e;lia
def n1(f s:Int)(k:Nat):Str:=⟨#[97+((f+s*k)%26).toNat]⟩
theorem alH(hs:Jq s)(hn:n<=26):Names ((gG n).map (n1 f s)):=by
 refine⟨aak λi j hi hj e=>?_,λz hz=>?_⟩
 .obtain⟨_,_,u,hu⟩:=hs
  have e1:97+((f+s*i)%26).toNat=97+((f+s*j)%26).toNat:=by
   have:=congrArg (λz:Str=>z.cps.toList) e;simpa[n1] using this
  have a1:0<=(f+s*i)%26:=um _ aR;have a2:0<=(f+s*j)%26:=um _ aR;have:=acY (n:=26) (f:=f) (i:=i) (j:=j) hu aR az az az az az;lia
 .obtain⟨k,_,rfl⟩:=dD.mp hz
  have a1:0<=(f+s*k)%26:=um _ aR;have a2:(f+s*k)%26<26:=yU _ aR;refine aed (l:=[97+((f+s*k)%26).toNat]) rfl (cz _) (by show 1<=8;decide) λc hc=>?_
  rw[gk.mp hc];lia
def v2(f s:Int)(k:Nat):Int:=(f+s*k)%676
def two(v:Int):Str:=(⟨#[97+(v / 26).toNat]⟩:Str)++(⟨#[97+(v%26).toNat]⟩:Str)
def n2(hd tl:Str)(f s:Int)(q:Nat->Int)(k:Nat):Str:=hd++two (v2 f s k)++Txt.slice tl aj (aa (q k))
theorem acZ(hd tl:Str)(f s:Int)(q:Nat->Int)(k:Nat):(n2 hd tl f s q k).cps.toList=hd.cps.toList++([97+(v2 f s k / 26).toNat,97+(v2 f s k%26).toNat]++(Txt.slice tl aj (aa (q k))).cps.toList):=by
 show((hd.cps++(#[97+(v2 f s k / 26).toNat]++#[97+(v2 f s k%26).toNat]))++(Txt.slice tl aj (aa (q k))).cps).toList=_
 simp
theorem alI(hs:Jq s)(hn:n<=36)(hh:hd.length<=3)(ht:tl.length<=3)(ch:∀c∈hd.cps.toList,97<=c/\c<=122)(ct:∀c∈tl.cps.toList,97<=c/\c<=122):Names ((gG n).map (n2 hd tl f s q)):=by
 have b:∀k:Nat,0<=v2 f s k/\v2 f s k<676:=λk=>⟨um _ aR,yU _ aR⟩
 refine⟨aak λi j hi hj e=>?_,λz hz=>?_⟩
 .obtain⟨_,⟨u,hu⟩,_⟩:=hs
  have e1:=congrArg (λz:Str=>z.cps.toList) e;simp only[acZ] at e1;have e2:=List.append_cancel_left e1;rw[jn,jn,iU,jn,jn,iU] at e2;injection e2 with e3 e4
  injection e4 with e5 _
  have b1:=b i;have b2:=b j;have ev:v2 f s i=v2 f s j:=az;have:=acY (n:=676) (f:=f) (i:=i) (j:=j) hu aR az az az az ev;lia
 .obtain⟨k,_,rfl⟩:=dD.mp hz
  have bk:=b k;have l1:hd.cps.toList.length=hd.length:=by show _=hd.cps.size;simp
  have l2:(Txt.slice tl aj (aa (q k))).cps.toList.length=(Txt.slice tl aj (aa (q k))).length:=by show _=(Txt.slice tl aj (aa (q k))).cps.size;simp
  have l3:=PyProof.Txt.length_slice_le tl aj (aa (q k));refine aed (acZ hd tl f s q k) (by rw[fO,fO];show 1<=_+(2+_);lia) (by rw[fO,fO,l1,l2];show _+(2+_)<=8;lia) λc hc=>?_
  rcases cY.mp hc with hc|hc
  .exact ch c hc
  .rcases cY.mp hc with hc|hc
   .simp only[bW,iT,or_false] at hc;rcases hc with rfl|rfl<;>lia
   .exact ct c (anc hc)
def sl(z:Str)(n k:Nat):Str:=Txt.slice z (aa (k:Int)) (aa ((k:Int)+(n:Int)))
def sb(z:Str)(n:Nat):List Str:=(gG (8-n)).map (sl z (n+1))
end L2
namespace L2
section
variable{β:Type}[DecidableEq β]{ws:List (Int×β×β)}{s:β}
inductive pA(ws:List (Int×β×β)):β->List Int->β->Prop
 |nil (p:β):pA ws p [] p
 |cons {n:Int} {p q s:β} {r:List Int}:(n,p,q)∈ws->pA ws q r s->pA ws p (n::r) s
def gY(st:List (β×Int))(p:β):Option Int:=(st.find? λx=>decide (x.1=p)).map (·.2)
theorem sZ{p:β}:gY st p=aj↔p∉st.map (·.1):=by
 unfold gY;rw[ahb,ahF];simp only[dD,not_exists,not_and,decide_eq_true_eq]
theorem Nv(st:List (β×Int))(new:List β)(k:Int)(p:β):gY (st++new.map λg=>(g,k)) p=if p∈st.map (·.1) then gY st p else if p∈new then aa k else aj:=by
 unfold gY;rw[List.find?_append];by_cases h:p∈st.map (·.1)
 .rw[bG h]
  obtain⟨x,hx,rfl⟩:=dD.mp h
  cases e:st.find? λy=>decide (y.1=x.1) with
  |none=>exact absurd (gr rfl) (ahF.mp e x hx)
  |some y=>rfl
 .rw[bH h,(ahb.mp (sZ.mpr h):st.find? _=aj),Option.none_or];induction new with
  |nil=>rfl
  |cons g new ih=>
   rw[dN,rC];by_cases e:g=p
   .subst e;rw[gr rfl,bG cX];rfl
   .rw[iR e,ih];have:p∈g::new↔p∈new:=by rw[bW];exact⟨λz=>z.resolve_left λz=>e z.symm,.inr⟩
    simp only[this]
structure vp(ws:List (Int×β×β))(s:β)(st:List (β×Int))(new:List β)(k:Nat):Prop where
 sound:∀p d,gY st p=aa d->d<=k/\∃r,pA ws p r s/\(r.length:Int)=d
 whole:∀p r,pA ws p r s->r.length<=k->∃d,gY st p=aa d/\d<=r.length
 last:∀p,p∈new↔gY st p=aa (k:Int)
 nd:(st.map (·.1)).Nodup
 sub:∀p∈st.map (·.1),p=s\/p∈ws.map (·.2.1)
 low:∀p d,gY st p=aa d->d+1<=st.length
theorem vp.init(ws:List (Int×β×β))(s:β):vp ws s [(s,0)] [s] 0 where
 sound p d h:=by
  unfold gY at h;rw[rC] at h;by_cases e:s=p
  .subst e;rw[gr rfl] at h;cases h
   exact⟨xQ _,[],.nil _,rfl⟩
  .rw[iR e] at h;cases h
 whole p r h l:=by
  cases h with
  |nil=>exact⟨0,by unfold gY;rw[rC,gr rfl];rfl,xQ _⟩
  |cons _ _=>exact absurd l (Nat.not_succ_le_zero _)
 last p:=by
  unfold gY;rw[rC,gk];by_cases e:s=p
  .subst e;rw[gr rfl]
   exact⟨λ_=>rfl,λ_=>rfl⟩
  .rw[iR e]
   exact⟨λz=>absurd z.symm e,λz=>nomatch z⟩
 nd:=bI
 sub p hp:=.inl (gk.mp hp)
 low p d h:=by
  unfold gY at h;rw[rC] at h;by_cases e:s=p
  .rw[gr e] at h;cases h;exact xQ _
  .rw[iR e] at h;cases h
theorem vp.step{st:List (β×Int)}{new new':List β}{k:Nat}(B:vp ws s st new k)(hn:new'.Nodup)(hm:∀g,g∈new'↔∃w∈ws,w.2.2∈new/\w.2.1∉st.map (·.1)/\w.2.1=g):vp ws s (st++new'.map λg=>(g,(k:Int)+1)) new' (k+1) where
 sound p d h:=by
  rw[Nv] at h;split at h
  .obtain⟨h1,h2⟩:=B.sound p d h
   exact⟨az,h2⟩
  .split at h
   .rename_i m;cases h
    refine⟨az,?_⟩
    obtain⟨w,m1,m2,m3,rfl⟩:=(hm p).mp m
    obtain⟨_,r,h3,h4⟩:=B.sound _ _ ((B.last _).mp m2)
    exact⟨w.1::r,.cons (p:=w.2.1) (q:=w.2.2) m1 h3,by rw[dW];lia⟩
   .cases h
 whole p r h l:=by
  rw[Nv];by_cases hp:p∈st.map (·.1)
  .rw[bG hp];cases e:gY st p with
   |none=>exact absurd hp (sZ.mp e)
   |some d=>
    refine⟨d,rfl,?_⟩
    by_cases l':r.length<=k
    .obtain⟨d',e',h'⟩:=B.whole p r h l'
     rw[e] at e';cases e';exact h'
    .have:=(B.sound p d e).1;lia
  .rw[bH hp];cases h with
   |nil=>
    obtain⟨d,e,_⟩:=B.whole s [] (.nil s) (lC _)
    rw[sZ.mpr hp] at e;cases e
   |cons hw hr=>
    rename_i n q r;rw[dW] at l⊢
    obtain⟨d,e,hd⟩:=B.whole q r hr az
    obtain⟨hk,r2,hr2,l2⟩:=B.sound q d e
    by_cases hdk:d=k
    .subst hdk;have m:p∈new':=(hm p).mpr ⟨_,hw,(B.last q).mpr e,hp,rfl⟩;rw[bG m]
     exact⟨_,rfl,az⟩
    .obtain⟨d',e',_⟩:=B.whole p (n::r2) (.cons hw hr2) (by rw[dW];lia)
     rw[sZ.mpr hp] at e';cases e'
 last p:=by
  rw[Nv];constructor
  .intro m
   obtain⟨w,m1,m2,m3,rfl⟩:=(hm p).mp m
   rw[bH m3,bG m];rfl
  .intro e;split at e
   .have:=(B.sound p _ e).1;lia
   .split at e
    .rename_i m;exact m
    .cases e
 nd:=by
  rw[iC,fD,show((λx:β×Int=>x.1) ∘ λg=>(g,(k:Int)+1))=id from rfl,DW];refine jF.mpr ⟨B.nd,hn,λa ha b hb e=>?_⟩;subst e
  obtain⟨w,_,_,m3,rfl⟩:=(hm a).mp hb
  exact m3 ha
 sub p hp:=by
  rw[iC,fD,show((λx:β×Int=>x.1) ∘ λg=>(g,(k:Int)+1))=id from rfl,DW] at hp;rcases cY.mp hp with hp|hp
  .exact B.sub p hp
  .obtain⟨w,m1,_,_,rfl⟩:=(hm p).mp hp
   exact .inr (dD.mpr ⟨w,m1,rfl⟩)
 low p d h:=by
  rw[Nv] at h;rw[fO,bJ];split at h
  .have:=B.low p d h;lia
  .split at h
   .rename_i m;cases h
    obtain⟨w,m1,m2,m3,rfl⟩:=(hm p).mp m
    have:=B.low _ _ ((B.last _).mp m2);have:=ahc m;lia
   .cases h
theorem len_sub:∀{l m:List β},l.Nodup->(∀x∈l,x∈m)->l.length<=m.length
 |[],_,_,_=>lC _
 |a::l,m,hn,h=>by
  have ha:=h a cX;have:=len_sub (m:=m.erase a) (ie.mp hn).2 λx hx=>(List.mem_erase_of_ne (show x≠a from λz=>(ie.mp hn).1 (z▸hx))).mpr (h x (dM _ hx))
  rw[List.length_erase_of_mem ha] at this;have:=ahc ha;rw[dW];lia
theorem vp.few(B:vp ws s st new k):st.length<=ws.length+1:=by
 have h:(st.map (·.1)).length<=(s::ws.map (·.2.1)).length:=by
  refine len_sub B.nd λp hp=>?_
  rcases B.sub p hp with rfl|h
  .exact cX
  .exact dM _ h
 simpa using h
structure Dj(ws:List (Int×β×β))(s:β)(st:List (β×Int)):Prop where
 sound:∀p d,gY st p=aa d->∃r,pA ws p r s/\(r.length:Int)=d
 whole:∀p r,pA ws p r s->∃d,gY st p=aa d/\d<=r.length
 few:∀p d,gY st p=aa d->d<=ws.length
 nd:(st.map (·.1)).Nodup
theorem vp.done{st:List (β×Int)}{k:Nat}(B:vp ws s st [] k):Dj ws s st where
 sound p d h:=(B.sound p d h).2
 nd:=B.nd
 few p d h:=by
  have:=B.low p d h;have:=B.few;lia
 whole p r h:=by
  induction h with
  |nil p=>exact B.whole p [] (.nil p) (lC _)
  |cons hw hr ih=>
   rename_i n p q s' r
   obtain⟨d,e,hd⟩:=ih B
   obtain⟨hk,r2,hr2,l2⟩:=B.sound q d e
   have:d≠k:=λz=>by
    subst z;exact nomatch(B.last q).mpr e
   obtain⟨d',e',h'⟩:=B.whole p (n::r2) (.cons hw hr2) (by rw[dW];lia)
   refine⟨d',e',?_⟩
   rw[dW] at h'⊢;lia
theorem Dj.iff(B:Dj ws s st)(p:β):p∈st.map (·.1)↔∃r,pA ws p r s:=by
 constructor
 .intro h;cases e:gY st p with
  |none=>exact absurd h (sZ.mp e)
  |some d=>
   obtain⟨r,h,_⟩:=B.sound p d e
   exact⟨r,h⟩
 .rintro⟨r,h⟩
  obtain⟨d,e,_⟩:=B.whole p r h
  apply Q8;intro n;rw[sZ.mpr n] at e;cases e
def Y9(ws:List (Int×β×β))(a b:β):Prop:=∃r,pA ws a r b
theorem pA.snoc(h:pA ws a r b)(hw:(n,b,c)∈ws):pA ws a (r++[n]) c:=by
 induction h with
 |nil p=>exact .cons hw (.nil _)
 |cons h1 _ ih=>exact .cons h1 (ih hw)
def lexLe:List Int->List Int->Prop
 |[],_=>True
 |_::_,[]=>False
 |a::r,b::q=>a<b\/(a=b/\lexLe r q)
def wM(ws:List (Int×β×β))(p s:β)(r:List Int):Prop:=pA ws p r s/\∀r',pA ws p r' s->r.length<r'.length\/(r.length=r'.length/\lexLe r r')
theorem wM.self(ws:List (Int×β×β))(s:β):wM ws s s []:=⟨.nil s,λr' _=>by
 cases r' with
 |nil=>exact .inr ⟨rfl,trivial⟩
 |cons _ _=>exact .inl (aiX _)⟩
theorem wM.go(hU:∀w∈ws,∀w'∈ws,w.1=w'.1->w=w')(B:Dj ws s st)(hp:gY st p=aa d)(hw:(n,p,q)∈ws)(hq:∃e,gY st q=aa e/\e<d)(hmin:∀n' q' e,(n',p,q')∈ws->gY st q'=aa e->e<d->n<=n')(hr:wM ws q s r):wM ws p s (n::r):=by
 obtain⟨e,hq,hlt⟩:=hq
 obtain⟨r1,hr1,l1⟩:=B.sound q e hq
 have hle:r.length<=r1.length:=by rcases hr.2 r1 hr1 with h|h<;>lia
 refine⟨.cons hw hr.1,λr' h'=>?_⟩
 obtain⟨d',e',hd'⟩:=B.whole p r' h'
 rw[hp] at e';cases e';rw[dW];cases h' with
 |nil=>
  simp only[GX] at hd';lia
 |cons hw' hr'=>
  rename_i n' q' r';rw[dW] at hd'⊢
  obtain⟨e2,h2,l2⟩:=B.whole q' r' hr'
  by_cases hl:r.length<r'.length
  .exact .inl az
  .refine .inr ⟨az,?_⟩;have hn:=hmin n' q' e2 hw' h2 az;by_cases hnn:n<n'
   .exact .inl hnn
   .have:n=n':=az;subst this;have:=hU _ hw _ hw' rfl;cases this;refine .inr ⟨rfl,?_⟩;rcases hr.2 r' hr' with h|h
    .lia
    .exact h.2
end
end L2
namespace L2
open PySem PySem.Spec PyProof.Rows PySem.W
def aqj(i j k:Nat)(ta:TA):TS:=λD σ H=>ta σ H λvs H1=>vs.length=3/\(∀v w z,vs=[v,w,z]->D.nx (((σ.set i (aa v)).set j (aa w)).set k (aa z)) H1)
theorem anu{kt k2 o7}(hc:X.calm=aq)(hN:X.N.Nodup)(hi:X.N[i]?=aa x)(hj:X.N[j]?=aa y)(hk:X.N[k]?=aa z)(hij:i≠j)(hik:i≠k)(hjk:j≠k)
  (hx:X.env.scope.names.lookup x=aa .local)(hy:X.env.scope.names.lookup y=aa .local)(hz:X.env.scope.names.lookup z=aa .local)(ha:PA X [a,b,c] ta)
  (hw:xO [.Tuple [.Name x px,.Name y py,.Name z pz] kt pt] (.Tuple [a,b,c] k2 o7) X.env=pure (aa [x,y,z]))
  (hs:xN [.Tuple [.Name x px,.Name y py,.Name z pz] kt pt] (.Tuple [a,b,c] k2 o7) pos.line X.env=pure aM:=by rfl):
  PS X (.Assign [.Tuple [.Name x px,.Name y py,.Name z pz] kt pt] (.Tuple [a,b,c] k2 o7) pos) (aqj i j k ta):=by
 intro au s σ H D I h;rw[exec_Assign_arm];refine aF (xM ?_);rw[hs];refine aF (bA ?_);rw[bH aR];refine aF (Tuple_ (bY (ha _ au s σ H _ I h) λus s1 aY=>?_))
 obtain⟨vs,H1,I1,r1,l1,q1⟩:=aY
 cases r1 with
 |nil=>cases l1
 |cons rv r1=>
 cases r1 with
 |nil=>cases l1
 |cons rw' r1=>
 cases r1 with
 |nil=>cases l1
 |cons rz r1=>
 cases r1 with
 |cons _ _=>cases l1
 |nil=>
 rename_i v u1 w u2 zz u3;refine lZ ?_ (by show 3<=cJ;decide);have I2:Inv X au σ H1 {s1 with heap:=s1.heap.push {cls:=.type "tuple",data:=.seq [u1,u2,u3].toArray}}:=I1.kept (t':=s1.toks) λb o e=>cD _ e
 rw[hw];refine aF (bA ?_);show aW (model X.prog X.w) X.A (do rule "assign.swapped-stores";let items <-unpackItems (.ref s1.heap.objs.size) 3 aj;G3 [λv=>xT X.env z v,λv=>xT X.env y v,λv=>xT X.env x v] items.reverse;pure Tp) _ _ _;refine aF (sV (aF (unpackItems_tuple (items:=#[u1,u2,u3]) (I.ok.hd hc) (IsTup.new s1.heap _) λh' hx'=>?_)));have I3:=I2.kept (h':=h') (t':=s1.toks) λb o e=>hx' b o (fQ (cG e)) e
 show aW _ _ (G3 [λv=>xT X.env z v,λv=>xT X.env y v,λv=>xT X.env x v] [u3,u2,u1] >>= λ_=>pure Tp) _ _ _;refine aF (assignInOrder_cons (KD (vQ I3 hN hk (.inl hz) rz (λs2 I4=>?_) (.inr hz))));refine assignInOrder_cons (KD (vQ I4 hN hj (.inl hy) rw' (λs3 I5=>?_) (.inr hy)));refine assignInOrder_cons (KD (vQ I5 hN hi (.inl hx) rv (λs4 I6=>assignInOrder_nil (bA ?_)) (.inr hx)));rw[RB _ _ (j5 hij),RB _ _ (j5 hik),RB _ _ (j5 hjk)] at I6
 exact⟨_,H1,I6,q1 _ _ _ rfl⟩
theorem anv{kt k2 o7}(hc:X.calm=aq)(hN:X.N.Nodup)(hi:X.N[i]?=aa x)(hj:X.N[j]?=aa y)(hk:X.N[k]?=aa z)(hij:i≠j)(hik:i≠k)(hjk:j≠k)
  (hx:X.env.scope.names.lookup x=aa .local)(hy:X.env.scope.names.lookup y=aa .local)(hz:X.env.scope.names.lookup z=aa .local)(ha:PA X [a,b,c] (An X.K g))
  (hw:xO [.Tuple [.Name x px,.Name y py,.Name z pz] kt pt] (.Tuple [a,b,c] k2 o7) X.env=pure (aa [x,y,z]))
  (hs:xN [.Tuple [.Name x px,.Name y py,.Name z pz] kt pt] (.Tuple [a,b,c] k2 o7) pos.line X.env=pure aM:=by rfl):
  PS X (.Assign [.Tuple [.Name x px,.Name y py,.Name z pz] kt pt] (.Tuple [a,b,c] k2 o7) pos) (tS X.K (qm [i,j,k] g)):=(anu hc hN hi hj hk hij hik hjk hx hy hz ha hw hs).weak λD σ H aY=>by
 obtain⟨Z,Θ,ao,C,fl,aV,C',S,hf,q⟩:=aY
 unfold qm at hf;split at hf
 case h_2=>cases hf
 rename_i xs e1 C1 h1;split at hf
 case isFalse=>cases hf
 rename_i hl;cases hf
 refine⟨Z,Θ,ao,C,xs,e1,C',S,h1,λvs as H1 k1 f1 n1 S1 a1=>⟨by rw[Np a1,<-hl.1];rfl,λv w zz e=>?_⟩⟩
 obtain⟨S2,o2⟩:=V2 a1 hl.1 (cH.refl _) S1
 subst e;refine q Θ _ H1 ⟨lg.refl _ _,uD k1,λb m=>?_,S2⟩;rcases o2 b m with m|m
 .exact .inl (f1.own.subset m)
 .exact .inr (n1 b m)
theorem alJ(rel:KV aA vs):∀{us:List aN},us.length=vs.length->(∀(i:Nat)(v:aN),us[i]?=aa v->∃k x,vs[i]?=aa (k,x)/\(nu P w).is k v=aq)->Vals (aA.map λkv=>kV kv.1) us:=by
 induction rel with
 |nil=>
  intro us h2 h3;cases us with
  |nil=>exact .nil
  |cons _ _=>cases h2
 |@cons p w ps ws hp _ ih=>
  intro us h2 h3;cases us with
  |nil=>cases h2
  |cons u us=>
   refine .cons ?_ (ih (aiY h2) λi v e=>h3 (i+1) v e)
   obtain⟨k,x,e1,e2⟩:=h3 0 u rfl
   have ek:k=p.1:=by rw[hp.1];exact congrArg Prod.fst (jy e1.symm)
   subst ek;exact akv e2
section
variable{X:Cx}
theorem za(hc:X.calm=aq):iY X (.builtin "sorted") (λxs H Q=>∃(d:aC)(aA:List (Key×V))(ns:List Str),xs=[.ref d]/\Ai H d aA/\aA.map (·.1)=ns.map .inr/\ns.length<64/\∀(l:aC)(ns':List Str),H l=aj->ns'.Perm ns->sortedS ns'=aq->Q (.ref l) (upd H l (.lst (ns'.map V.str)))):=by
 intro au s σ H xs us Q I r h
 obtain⟨d,aA,ns,rfl,hd,hns,few,q⟩:=h
 obtain⟨u,rfl,ru⟩:=vals1 r
 cases ru
 obtain⟨z,lo,vs,rel,dd⟩:=Cw I.hok hd
 obtain⟨ep,da⟩:=dd.dictAt
 have lv:vs.length=aA.length:=(Paired.length rel).symm;have ln:aA.length=ns.length:=by have:=congrArg zf hns;simpa using this
 refine Zn kind_sorted plain_sorted entry_sorted (args_sorted1 _) ?_;unfold oK.«sorted»;refine aF (m:=abo "sorted" 1 1 _) (bA (aF (aa9 (A:=X.A.in1) (kdl_dict (knd:=nu X.prog X.w) (ep:=ep) lo) (I.ok.hd hc) da (by rw[lv];exact z) λh1 tk bu hsz kk hacc=>?_)));have hV:=alJ (P:=X.prog) (w:=X.w) rel (us:=bu.toList) (by rw[m9];exact hacc.1) λi v e=>hacc.2 i v (by rw[<-Kg];exact e)
 have hV:Vals (ns.map V.str) bu.toList:=by
  rw[show ns.map V.str=(ns.map fG).map kV by rw[fD];rfl,<-hns,fD];exact hV
 have hS:StrsAre bu.toList ns:=Lr hV;have lu:bu.toList.length=ns.length:=by rw[<-hV.length,bJ]
 refine aF (RJ ?_ (by rw[jQ];lia));have gL:(h1.push (seqObj "list" bu.toList.toArray 0)).get? h1.objs.size=aa (seqObj "list" bu.toList.toArray 0):=gj _ rfl;refine aF (nj (nQ slot_list_sort ⟨_,gL,rfl⟩ entry_list_sort (list_sort_treeK strKind_oneLt gL hS.keysOf (λv1 v2 rest e=>keyKind_strs (by rw[<-e];exact hS)) az λst hp1 hp2=>⟨_,rfl,?_⟩) (args_list_sort _)))
 obtain⟨ns',b1,b2,b3⟩:=sorted_out_str hS hp1 hp2
 obtain⟨c,gD⟩:=sortedHeap_at (out:=(arrOf st).map (·.2)) gL
 have kb:∀b o,s.heap.get? b=aa o->(sortedHeap (h1.push (seqObj "list" bu.toList.toArray 0)) h1.objs.size bu.toList ((arrOf st).map (·.2))).get? b=aa o:=λb o e=>by
  have lb:b<h1.objs.size:=cG (kk b o e);rw[sortedHeap_old (fQ lb) (by rw[sH];exact vG lb)];exact cD _ (kk b o e)
 exact bA ⟨_,rfl,.ref h1.objs.size,_,I.laid (o:=.lst (ns'.map V.str)) (t':=tk) kb hsz ⟨by rw[bJ,b2.length_eq,jQ];lia,((arrOf st).map (·.2)).toList,c,Mf b1,by rw[Array.toArray_toList];exact gD⟩,rfl,q _ ns' (I.hok.fresh hsz) b2 b3⟩
def qH:List aD->oVl
 |[.dict aA]=>(strsOf (aA.map (·.1))).bind λns=>bif decide (ns.length<64) then aa (.ow (.list ((mG strLt ns).map .str))) else aj
 |_=>aj
theorem ab5:∀{aA:List (aD×aD)}{ns:List Str},strsOf (aA.map (·.1))=aa ns->dh fW aA=aa (ns.map .inr)
 |[],ns,h=>by cases h;rfl
 |(.str z,v)::aA,ns,h=>by
  obtain⟨ns',h1,rfl⟩:∃ns',strsOf (aA.map (·.1))=aa ns'/\ns=z::ns':=by
   have h:(strsOf (iD z::aA.map (·.1)))=aa ns:=h;unfold strsOf at h;cases e:strsOf (aA.map (·.1)) with
   |none=>rw[e] at h;cases h
   |some t=>rw[e] at h;cases h;exact⟨t,rfl,rfl⟩
  show dh fW ((.str z,v)::aA)=_;unfold dh;rw[ab5 h1];rfl
 |(.none,v)::aA,ns,h=>by cases h
 |(.bool _,v)::aA,ns,h=>by cases h
 |(.int _,v)::aA,ns,h=>by cases h
 |(.list _,v)::aA,ns,h=>by cases h
 |(.tuple _,v)::aA,ns,h=>by cases h
 |(.dict _,v)::aA,ns,h=>by cases h
theorem zy{K:aZ}:lM K (λxs H Q=>∃(d:aC)(aA:List (Key×V))(ns:List Str),xs=[.ref d]/\Ai H d aA/\aA.map (·.1)=ns.map .inr/\ns.length<64/\∀(l:aC)(ns':List Str),H l=aj->ns'.Perm ns->sortedS ns'=aq->Q (.ref l) (upd H l (.lst (ns'.map V.str)))) qH:=by
 intro Z Θ ao C σ H xs ds res S b e Q q;refine hide λGG gg=>?_
 unfold qH at e;split at e
 case h_2=>cases e
 rename_i aA
 obtain⟨ns,hns,e⟩:=fZ e
 cases hl:decide (ns.length<64) with
 |false=>rw[hl] at e;cases e
 |true=>
 rw[hl] at e;cases e;have hl:=of_decide_eq_true hl
 obtain⟨v,rfl,bb⟩:=qL b
 obtain⟨a,vs,rfl,da,r⟩:=bb.dct
 have hk:=ab5 hns;rcases da with⟨ks,h1,ha⟩|⟨ks,⟨ne,h2⟩,ha⟩
 .rw[hk] at h1;cases h1;have lz:vs.length=(ns.map (fG:Str->Key)).length:=by rw[Es r,uz hk]
  refine gg ⟨a,_,ns,rfl,rdK ha,by rw[Rp az],hl,λl ns' hn p hp=>?_⟩;rw[Xa p hp];exact q _ _ (bD.upd hn) (rH S (Uz _) hn)
 .exact absurd (vV hk h2) ne
end
inductive gR(K:aZ)(x:Str)(st:dI):Prop
 |mk {f:aC} {oc:aN} {od an:Option aC} {osl:Array (Option aN)} {kV doc pm cdv ct:aN} (a:qz K jz x=aa (aa (.ref f))) (l:K.lookup f=aa ⟨oc,od,.func (Bj x x (Er st) (zE st) (cZ st) .none kV doc pm an cdv ct),osl⟩) (c:Rx K cdv x=aq) (k:DG K (.ref f)=aq):gR K x st
abbrev Xh(x:Str)(st:dI)(ps:List Str):Prop:=∀(kV doc pm:aN)(an:Option aC)(cdv ct:aN)(us:List aN),us.length=ps.length->bindArgs (Bj x x (Er st) (zE st) (cZ st) .none kV doc pm an cdv ct) ⟨us,[]⟩=pure (ps.zip us)
section
variable{P:fj}{w:c7}{K:aZ}{x:Str}{st:dI}{k:Nat}{ps:List Str}{sp:Sp}
theorem gR.has(d:gR K x st)(X:K.In h)(G:h.Ns jz mg)(o:∀f fd,gw K x x st f fd->fK P w K mg base fU k f fd ps sp)(hb:Xh x st ps):dJ P w K mg base x k ps sp:=by
 obtain⟨a,l,c,kp⟩:=d
 have F:=WX l c kp
 exact⟨_,_,aaI X G a,kp,F.binds hb,o _ _ F⟩
theorem gR.arc(d:gR K x st)(X:K.In h)(G:h.Ns jz mg)(o:∀f fd,mg x=aa (.ref f)->DG K (.ref f)=aq->Binds K fd ps []->gw K x x st f fd->dJ P w K mg base x k ps sp)(hb:Xh x st ps):dJ P w K mg base x k ps sp:=by
 obtain⟨a,l,c,kp⟩:=d
 have F:=WX l c kp;exact o _ _ (aaI X G a) kp (F.binds hb) F
theorem gR.law{y:Str}(d:gR K x st)(X:K.In h)(G:h.Ns jz mg)(hfa:mg x=aa (.ref fa))(o:∀base f fd,gw K x x st f fd->fK P w K mg base fU k f fd [y] sp)(hb:Xh x st [y]):
  ∃fd:vR,(∀(s:bh)(v:aN),Em s fd ⟨[v],[]⟩ [(y,v)])/\∀base:cg,K.In base->base.Ns jz mg->fK P w K mg base fU k fa fd [y] sp:=by
 obtain⟨a,l,c,kp⟩:=d
 have e:=hfa.symm.trans (aaI X G a);cases e
 exact⟨_,λs v=>.of_eq (hb _ _ _ _ _ _ [v] rfl),λbase _ _=>o base _ _ (WX l c kp)⟩
theorem ju{B:List aN->Prop}(h:B []):∀us:List aN,us.length=0->B us
 |[],_=>h
theorem cC{B:List aN->Prop}(h:∀a,∀us:List aN,us.length=n->B (a::us)):∀us:List aN,us.length=n+1->B us
 |a::us,e=>h a us (aiY e)
end
section
open PySem.SeqAt
open PySem.AutoSeq1 (wpAny_loadPart')
open PySem.MeetsSeq PySem.MeetsSeq2 PySem.MeetsSeq3
end
theorem aqk(h:er P H a=aa o):H a=aa o:=by
 unfold er at h;split at h
 .cases h
 .exact h
section
variable{X:Cx}{e es:Expr}{p2 pos:Pos}
end
def pairsOf:List aD->Option (List (aD×aD))
 |[]=>aa []
 |.tuple [k,v]::r=>(pairsOf r).map λt=>(k,v)::t
 |_=>aj
theorem aql(d:aD):CT (.im d)=aM:=rfl
theorem aqm(d:aD):CT (.ow d)=aM:=rfl
theorem aqn(n:Nat):CT (.ce n)=aM:=rfl
end L2
namespace HT
open PySem PySem.Spec PyProof.Rows
open Sem (wp)
open Builtin
end HT
namespace L2
open PySem PySem.Spec PyProof.Rows PySem.W
section
variable{X:Cx}
end
end L2
namespace HT
open PySem PySem.Spec PyProof.Rows
open Sem (wp)
open Builtin
end HT
namespace L2
open PySem PySem.Spec PyProof.Rows PySem.W
theorem anw(hs:∀k∈ks,k.map cA=sh):(ql ks).Pairwise λa b=>dO b a=aM:=by
 by_cases h2:ks.length<2
 .have l:=(abT ks).length_eq
  match h:ql ks with
  |[]=>exact .nil
  |[a]=>exact List.pairwise_singleton _ _
  |a::b::r=>rw[h] at l;simp at l;lia
 .have h0:0<ks.length:=az
  let f:Nat->List Key:=λi=>ks.getD i (ks.headD [])
  have fm:∀i,(f i).map cA=sh:=λi=>by
   show(ks.getD i (ks.headD [])).map cA=sh
   by_cases hi:i<ks.length
   .rw[Ar,jb hi];exact hs _ (xF hi)
   .rw[Ar,Dr az];cases ks with
    |nil=>cases h0
    |cons a r=>exact hs a cX
  have O:Ord λi j=>dO (f i) (f j):=⟨λa b h=>adF h,λa b c h1 h2=>by
   cases e:dO (f c) (f a) with
   |false=>rfl
   |true=>
    rcases aeM ((fm c).trans (fm b).symm) ((fm b).trans (fm a).symm) e with h|h
    .exact aib (h.symm.trans h2)
    .exact aib (h.symm.trans h1)⟩
  obtain⟨hp,hu⟩:=(dH.run (amO O h0)).2
  unfold ql pK;rw[bH h2,Av];intro i j hi hj hij;rw[bJ,m9] at hi hj;have sz:=KP.size hp;have hu:=hu i j hij (by rw[<-sz];exact hj);rw[yc,yc,lX hi,lX hj] at hu;rw[aic,aic,ahq,ahq];exact hu
abbrev yI:=aC×List Key×aC
theorem eq_self(h:Q aq s):aW (model prog w) A (eqBool (.ref a) (.ref a)) Q E s:=by
 unfold eqBool;refine nj ?_;rw[bG bI];exact aF (sV (bA h))
theorem ab6:∀{ks js:List Key}{us vs:List aN}{a b:aC}{i:Nat},Vals (ks.map kV) us->Vals (js.map kV) vs->ks.map cA=js.map cA->(ks=js->a=b)->Q (dO ks js) s->KatLex prog w A aq aM Q ((us++[dF a]).zip (vs++[dF b])) i s
 |[],[],_,_,_,_,_,ra,rb,_,hab,h=>by
  cases ra;cases rb;cases hab rfl;exact kat_cons (eq_self (kat_yes (kat_nil h)))
 |[],_::_,_,_,_,_,_,_,_,e,_,_=>by cases e
 |_::_,[],_,_,_,_,_,_,_,e,_,_=>by cases e
 |a::ks,b::js,us,vs,x,y,i,ra,rb,e,hxy,h=>by
  cases ra with
  |cons r1 ra=>
   cases rb with
   |cons r2 rb=>
    have e1:cA a=cA b:=(uo e).1;have e2:=(uo e).2;refine kat_cons (Om r1 r2 (Ej a) (Ej b) prog w _ _ ?_);rw[VH e1];unfold dO at h;by_cases hab:a=b
    .rw[bG hab] at h;rw[gr hab];exact kat_yes (ab6 ra rb e2 (λz=>hxy (by rw[hab,z])) h)
    .rw[bH hab] at h;rw[iR hab];exact kat_no (acv r1 r2 e1 h)
def Cq(h:cg)(r:yI):Prop:=∃aK,Vals (r.2.1.map kV) aK/\IsTup h r.1 (aK++[dF r.2.2]).toArray
theorem Cq.keep(t:Cq h r)(k:∀b o,h.get? b=aa o->h'.get? b=aa o):Cq h' r:=by
 obtain⟨aK,v,o,e,c⟩:=t
 exact⟨aK,v,o,k _ _ e,c⟩
theorem ac0:∀{aP:List yI},(∀r∈aP,Cq h r/\r.2.1.map cA=b::sh)->∃fs,KatTups h (aP.map λr=>dF r.1) fs/\fs.length=aP.length/\∀f∈fs,∃k,RelV (kV k) f/\cA k=b
 |[],_=>⟨[],KatTups.nil,rfl,bI⟩
 |r::aP,ha=>by
  obtain⟨fs,t,l,g⟩:=ac0 (aP:=aP) λq hq=>ha q (dM _ hq)
  obtain⟨⟨aK,v,o,e,c,n,d⟩,s⟩:=ha r cX
  obtain⟨a,ks,x⟩:=r
  cases ks with
  |nil=>cases s
  |cons k ks=>
   cases v with
   |@cons _ u _ us v1 v2=>
    refine⟨u::fs,KatTups.cons e c d bI t,by simp[l],λf hf=>?_⟩
    rcases bW.mp hf with rfl|hf
    .exact⟨k,v1,(uo s).1⟩
    .exact g f hf
theorem ajL{w:c7}{A:gV}{s':bh}{aP:List yI}{b:Bool}(ha:∀r∈aP,Cq s'.heap r/\r.2.1.map cA=b::sh)(h0:0<aP.length)(Q:SortKind->bh->Prop)(q:Q (tuples' aq) s'):
  aW (model prog w) A (keyKind' (aP.map λr=>dF r.1).toArray) Q (λ_ _=>False) s':=by
 obtain⟨fs,t,l,g⟩:=ac0 ha
 refine kat_kind (T:=if b=aq then .type "int" else .type "str") t az (λv hv=>?_) (by cases b<;>rfl) (by cases b<;>exact q)
 obtain⟨k,r,e⟩:=g v hv
 exact abP r e
def ue(aP:List yI):List Row:=aP.map λr=>(r.1,r.2.1)
theorem alK(ha:∀r∈aP,Cq s'.heap r/\r.2.1.map cA=sh)(nd:(aP.map (·.2.1)).Nodup)(hi:i<aP.length)(hj:j<aP.length)(C:Bool->bh->Prop)(q:C (mD (ue aP) i j) s'):
  kas_ask prog w A (tuples' aq) (aP.map λr=>dF r.1) i j C s':=by
 obtain⟨⟨aK,v,o,e,c,n,d⟩,s1⟩:=ha aP[i] (xF hi)
 obtain⟨⟨its2,v2,o2,e2,c2,n2,d2⟩,s2⟩:=ha aP[j] (xF hj)
 unfold kas_ask;have g:∀k (hk:k<aP.length),(aP.map λr=>dF r.1).getD k j4=.ref aP[k].1:=λk hk=>by simp[pY,hk]
 rw[g i hi,g j hj];have l1:=v.length;have l2:=v2.length;have l3:aP[i].2.1.length=aP[j].2.1.length:=by
  have:=congrArg zf (s1.trans s2.symm);simpa using this
 refine kat_lt e d e2 d2 ?_;rw[bJ] at l1 l2;have ez:decide ((aK++[dF aP[i].2.2]).toArray.size<(its2++[dF aP[j].2.2]).toArray.size)=aM:=by
  rw[iR];simp only[gZ,fO,dW,GX];lia
 rw[ez];have eo:∀k (hk:k<aP.length),uO (ue aP) k=aP[k].2.1:=λk hk=>by simp[uO,ue,pY,hk]
 unfold mD at q;rw[eo i hi,eo j hj] at q;refine ab6 (by simpa using v) (by simpa using v2) (s1.trans s2.symm) (λz=>?_) q;have:i=j:=by
  have hi':i<(aP.map (·.2.1)).length:=by simpa using hi
  have hj':j<(aP.map (·.2.1)).length:=by simpa using hj
  refine(List.getElem?_inj hi' nd).mp ?_
  rw[jw,jw,jb hi,jb hj];exact congrArg aa z
 subst this;rfl
theorem abz:∀{xs ys:List V}{us:List aN},Vals (xs++ys) us->∃a b,us=a++b/\Vals xs a/\Vals ys b
 |[],ys,us,h=>⟨[],us,rfl,.nil,h⟩
 |x::xs,ys,us,h=>by
  cases h with
  |cons r t=>
   obtain⟨a,b,rfl,h1,h2⟩:=abz t
   exact⟨_::a,b,rfl,.cons r h1,h2⟩
abbrev O3(K:aZ):List V->Hp->VK->Prop:=λxs H Q=>∃(p:aC)(aP:List yI)(b:Bool)(sh:List Bool),xs=[.ref p]/\cj K H p (aP.map λr=>V.ref r.1)/\aP.length<64/\(∀r∈aP,H r.1=aa (.tup (r.2.1.map kV++[.ref r.2.2]))/\r.2.1.map cA=b::sh)/\(aP.map (·.2.1)).Nodup/\
  ∀l:aC,H l=aj->Q (.ref l) (upd H l (.lst ((pK (aP.map (·.2.1))).map λi=>(aP.map λr=>V.ref r.1).getD i .non)))
theorem ac1(aP:List yI):(ue aP).map (·.2)=aP.map (·.2.1):=by
 unfold ue;rw[fD];rfl
theorem alL(aP:List yI):(ue aP).map (λr=>dF r.1)=aP.map λr=>dF r.1:=by
 unfold ue;rw[fD];rfl
theorem ao8(aP:List yI):(ue aP).map (λr=>V.ref r.1)=aP.map λr=>V.ref r.1:=by
 unfold ue;rw[fD];rfl
theorem ahU:iY X (.builtin "sorted") (O3 X.K):=by
 intro au s σ H xs us Q I r h
 obtain⟨p,aP,b,sh,rfl,hp,h64,ha,nd,q⟩:=h
 obtain⟨u,rfl,ru⟩:=vals1 r
 cases ru
 obtain⟨aK,rv,pl,_⟩:=I.list hp
 rw[<-ao8] at rv;have e0:=VJ rv;subst e0;rw[alL] at pl;have tu:∀r∈aP,Cq s.heap r/\r.2.1.map cA=b::sh:=λr hr=>by
  obtain⟨_,aK,v,t⟩:=(show f9 X.prog X.w H s.heap r.1 (.tup (r.2.1.map kV++[.ref r.2.2])) from I.hok r.1 _ (ha r hr).1)
  obtain⟨i1,i2,e,v1,v2⟩:=abz v
  obtain⟨w,rfl,ew⟩:=vals1 v2
  cases ew;subst e
  exact⟨⟨i1,v1,t⟩,(ha r hr).2⟩
 refine R4 (κ:=tuples' aq) (lt:=mD (ue aP)) (vs:=aP.map λr=>dF r.1) (Rl:=λp=>p=pK (aP.map (·.2.1))) (by simpa using h64) (λh2=>by rw[<-ac1];exact Tw (by rw[bJ,ue,bJ]) h2) (λh2=>by rw[<-ac1];exact Sw (by rw[bJ,ue,bJ]) h2) (λR hR=>?_) (λh2 s' k Q' q'=>ajL (λr hr=>⟨(tu r hr).1.keep k,(tu r hr).2⟩) (by rw[bJ] at h2;lia) Q' q')
  (λh2 s' k i j hi hj C q'=>alK (sh:=b::sh) (λr hr=>⟨(tu r hr).1.keep k,(tu r hr).2⟩) nd (by simpa using hi) (by simpa using hj) C q') λp D h' c tk hp' hrl hD k e=>?_
 .refine collect_list pl.isList (hR _ _ s.toks ?_ (λb o e=>?_) rfl)
  .rw[ah6,size_push'];lia
  .have hlt:b≠s.heap.objs.size:=fQ (cG e);rw[aht _ _ _ _ hlt];exact cD _ e
 .subst hrl;have vv:∀p:List Nat,(∀i∈p,i<aP.length)->Vals (p.map λi=>(aP.map λr=>V.ref r.1).getD i .non) (p.map λi=>(aP.map λr=>dF r.1).getD i j4):=λp=>by
   induction p with
   |nil=>exact λ_=>.nil
   |cons i p ih=>
    intro hp;refine .cons ?_ (ih λj hj=>hp j (dM _ hj));have hi:=hp i cX;simp[pY,hi];rfl
  have hlt:∀i∈pK (aP.map (·.2.1)),i<aP.length:=λi hi=>by
   have:=vJ.mp (hp'.mem_iff.mp hi);simpa using this
  refine⟨.ref D,_,I.laid (o:=.lst ((pK (aP.map (·.2.1))).map λi=>(aP.map λr=>V.ref r.1).getD i .non)) k hD ⟨?_,_,c,vv _ hlt,by simpa[seqObj] using e⟩,rfl,q D (I.hok.fresh hD)⟩
  rw[bJ,hp'.length_eq,pC,bJ,jQ];lia
def afY:aD->Option (List Key)
 |.tuple ds=>match ds.getLast? with
  |some (.tuple _)=>keysOf ds.dropLast
  |_=>aj
 |_=>aj
def Qm:List aD->Option (List (List Key))
 |[]=>aa []
 |d::r=>(afY d).bind λk=>(Qm r).map λt=>k::t
def ard(ks:List (List Key))(ds:List aD):List aD:=(pK ks).map λi=>ds.getD i .none
def Nx:List aD->oVl
 |[.list ds]=>(Qm ds).bind λks=>match ks with
  |(b::sh)::r=>if(r.length<63/\r.all (λk=>decide (k.map cA=(b::sh).map cA))=aq)/\((b::sh)::r).Nodup then aa (.ow (.list (ard ((b::sh)::r) ds))) else aj
  |_=>aj
 |_=>aj
theorem ac2:∀{ds:List aD}{ks:List (List Key)},Qm ds=aa ks->ks.length=ds.length
 |[],ks,h=>by cases h;rfl
 |d::ds,ks,h=>by
  obtain⟨k,h1,h⟩:=Aw.mp h
  obtain⟨t,h2,rfl⟩:=xj.mp h
  rw[dW,dW,ac2 h2]
theorem ae1:∀{ds:List aD}{ks:List (List Key)}{vs:List V},Qm ds=aa ks->cu E ds vs->∃aP:List yI,vs=aP.map (λr=>V.ref r.1)/\(∀r∈aP,E r.1=aa (.tup (r.2.1.map kV++[.ref r.2.2])))/\aP.map (·.2.1)=ks
 |[],ks,vs,h,r=>by
  cases h;cases(show vs=[] from r)
  exact⟨[],rfl,λ_ h=>(nomatch h),rfl⟩
 |d::ds,ks,vs,h,r=>by
  obtain⟨k,h1,h⟩:=Aw.mp h
  obtain⟨t,h2,rfl⟩:=xj.mp h
  obtain⟨v,vs',rfl,rv,rs⟩:=r
  obtain⟨aP,rfl,hr,rfl⟩:=ae1 h2 rs
  unfold afY at h1;split at h1
  case h_2=>cases h1
  rename_i xs;split at h1
  case h_2=>cases h1
  rename_i ys hl
  obtain⟨a,us,rfl,ha,ru⟩:=rv
  have ex:xs=xs.dropLast++[.tuple ys]:=by
   obtain⟨zs,rfl⟩:=List.getLast?_eq_some_iff.mp hl
   simp
  rw[ex] at ru
  obtain⟨u1,u2,rfl,r1,r2⟩:=abX ru
  cases zg h1 r1
  obtain⟨w,t,rfl,⟨b,ws,rfl,_⟩,rn⟩:=r2
  cases(show t=[] from rn)
  refine⟨(a,k,b)::aP,rfl,λr hr'=>?_,rfl⟩
  rcases bW.mp hr' with rfl|hr'
  .exact ha
  .exact hr r hr'
theorem ac3(r:cu E ds vs):∀(p:List Nat),(∀i∈p,i<ds.length)->cu E (p.map λi=>ds.getD i .none) (p.map λi=>vs.getD i .non)
 |[],_=>rfl
 |i::p,h=>by
  have hi:=h i cX
  obtain⟨v,e,rv⟩:=wu r (jb hi)
  refine⟨v,_,?_,?_,ac3 r p λj hj=>h j (dM _ hj)⟩
  .rw[dN,Ar,e];rfl
  .show RZ E (ds.getD i .none) v;rw[Ar,jb hi];exact rv
theorem alM{K:aZ}:lM K (O3 K) Nx:=by
 intro Z Θ ao C σ H xs ds res S b e Q q;unfold Nx at e;split at e
 case h_2=>cases e
 rename_i ds
 obtain⟨ks,h1,e⟩:=Aw.mp e
 split at e
 case h_2=>cases e
 rename_i k0 sh rr;split at e
 case isFalse=>cases e
 rename_i hc;cases e
 obtain⟨⟨h64,hall⟩,nd⟩:=hc
 obtain⟨v,rfl,bb⟩:=qL b
 obtain⟨a,vs,rfl,ha,r⟩:=bb.lst
 obtain⟨aP,rfl,hr,ek⟩:=ae1 h1 r
 have lk:=ac2 h1;have lr:aP.length=ds.length:=by
  have:=jG r;simpa using this
 refine⟨a,aP,cA k0,sh.map cA,rfl,cj.of ha,?_,λr hr'=>⟨aqk (hr r hr'),?_⟩,by rw[ek];exact nd,λl hl=>q _ _ (bD.upd hl) ?_⟩
 .rw[lr,<-lk,dW];lia
 .have m:r.2.1∈(k0::sh)::rr:=by rw[<-ek];exact dD.mpr ⟨r,hr',rfl⟩
  rcases bW.mp m with e|m
  .rw[e];rfl
  .exact of_decide_eq_true (nR.mp hall _ m)
 .rw[ek];refine rH S (ac3 r _ λi hi=>?_) hl;have:=vJ.mp ((abS _).mem_iff.mp hi);rw[<-lk];exact this
def Za(a:aC)(aA:List (List Key×V))(ep:Nat):It:=
 ⟨λi H=>H a=aa (.dT aA ep)/\i<aA.length,λi H x H'=>H'=H/\∃kv b,aA[i]?=aa kv/\x=.ref b/\H b=aa (.tup (kv.1.map kV)),λi H=>H a=aa (.dT aA ep)/\aA.length<=i⟩
theorem akx{P:fj}{w:c7}{K:aZ}{tg:Expr}{J:It}{a it:aC}{n ep:Nat}
  (hgo:∀(X:Cx)(au:List (aC×Obj))(σ:St)(H:Hp)(s:bh),X.prog=P->X.w=w->Inv X au σ H s->∀i,J.go i H->∃es,uX s.heap a es ep/\es.size=n/\∃(e:Tt)(x:V),es[i]?=aa e/\RelV x e.key/\J.JP i H x H)
  (hst:∀(X:Cx)(au:List (aC×Obj))(σ:St)(H:Hp)(s:bh),X.prog=P->X.w=w->Inv X au σ H s->∀i,J.stop i H->∃es,uX s.heap a es ep/\es.size=n/\n<=i):
  Turn P w K tg J [it] it (λi h=>h.IsKeyIter it a i n ep) where
 mem:=bI
 obj:=λi h st b hb=>by
  have e:b=it:=by simpa using hb
  subst e
  obtain⟨o,e,c,d⟩:=st
  exact⟨o,e,λv z=>by rw[d] at z;cases z⟩
 keep:=λi h h' st k=>st.at λo e=>k it bI o e
 item:=by
  intro X hP hw hK hc i au s σ H E I hf st hg
  obtain⟨es,raw,hn,e,x,he,rx,y⟩:=hgo X au σ H s hP hw I i hg
  subst hP hw hK hn
  obtain⟨f0,f1,f2,f3,f4,f5⟩:=hf it bI
  obtain⟨hlt,e1⟩:=ag4.mp he
  refine acz st raw hlt λh' st' sb=>?_
  have I1:Inv X au σ H {s with heap:=h'}:=I.turned (t':=s.toks) (λb o hb e=>(sb.2 b hb).trans e) f0 f1 f3 f4 f5
  obtain⟨o,e0,c,d⟩:=id st'
  exact⟨_,rfl,Pk (s:={s with heap:=h'}) e0 c d aR ⟨x,H,I1,by rw[e1];exact rx,y,st',λb hb=>(hf b hb).1⟩⟩
 done:=by
  intro X hP hw hK hc i au s σ H E I hf st hg
  obtain⟨es,raw,hn,he⟩:=hst X au σ H s hP hw I i hg
  subst hP hw hK hn
  obtain⟨f0,f1,f2,f3,f4,f5⟩:=hf it bI
  exact adD (I.ok.hd hc) st raw he λh' eb=>⟨rfl,I.turned (t':=s.toks) (λb o hb e=>eb b o hb e) f0 f1 f3 f4 f5⟩
 self:=λ_ _ _ _ _ st h=>ahm st h
def Il(ds:List aD):oVl:=match Nx ds with
 |some z=>aa z
 |none=>uE ds
theorem alN{K:aZ}:lM K (λxs H Q=>O3 K xs H Q\/O1 K xs H Q) Il:=Xb alM (U7 (K:=K))
theorem ajM(hc:X.calm=aq):iY X (.builtin "sorted") (λxs H Q=>O3 X.K xs H Q\/O1 X.K xs H Q):=ahU.or (SJ (X:=X) hc)
theorem aQ(i:Nat)(hN:X.N[i]?=aa x:=by rfl)(hv:Gj X.env.scope x:=by first|exact qb rfl|exact xZ (qb rfl)|exact xZ (xZ rfl))(hd:(x==("__debug__":Str))=aM:=by decide)(hcd:(x==("__classdict__":Str))=aM:=by decide):PE X (.Name x pos) (eX X.K (aH i)):=j7 (WM hN hv hd hcd)
theorem bC(i:Nat)(hN:X.N[i]?=aa x:=by rfl)(hv:Gj X.env.scope x:=by first|exact qb rfl|exact xZ (qb rfl)|exact xZ (xZ rfl))(hd:(x==("__debug__":Str))=aM:=by decide)(hcd:(x==("__classdict__":Str))=aM:=by decide):PE X (.Name x pos) (tE X.K (aU i)):=jB (WM hN hv hd hcd)
theorem fY:PE X (.Constant (.int i) j pos) (tE X.K (bM (.int i))):=bN gn
theorem bZ:PE X (.Constant (.int i) j pos) (eX X.K (aG (bM (.int i)))):=aL fY
theorem iW(ha:PE X a (eX X.K fa))(hb:PE X b (eX X.K fb)):PE X (.BinOp a .Add b pos) (tE X.K (aJ bU fa fb)):=eY p6 qg ha hb
theorem bT(hr:jZ k X.A)(ha:PE X a (eX X.K fa))(hb:PE X b (eX X.K fb))(hs:BK b:=by exact λ_ _=>rfl):PE X (.Subscript a b pos) (tE X.K (aJ bf fa fb)):=lF (j8 hr.dX) lG ha hb hs
theorem cR(F:dJ X.prog X.w X.K X.mg X.base x k ps (spT X.K f))(hr:jZ n X.A)(ha:PA X (e::es) (yQ X.K g))(hk:k<=n:=by decide)(hg:Gl X x:=by rfl)(hdb:(x==("__debug__":Str))=aM:=by decide)
  (he:bR (e::es) X.env=(aM,eval e X.env)::bR es X.env:=by rfl)(hpl:(jA pos (bR es X.env)).any (·.1)=aM:=by rfl):PE X (.Call (.Name x p) (e::es) [] pos) (tE X.K (bL f g)):=mF F (hr.mono hk) hg ha hdb he hpl
theorem mH(i:Nat)(hN:X.N.Nodup)(hi:X.N[i]?=aa x:=by rfl)(hx:Loc X.env.scope x:=by first|exact .inl rfl|exact .inr rfl)(hf:X.fn x=aq\/X.env.scope.names.lookup x=aa .local:=by first|exact .inl rfl|exact .inr rfl|assumption):PG X (.Name x pos) (uN i):=adq hN hi hx hf
theorem fJ(i:Nat)(hN:X.N.Nodup)(he:PE X e (tE X.K f))(hi:X.N[i]?=aa x:=by rfl)(hx:Loc X.env.scope x:=by first|exact .inl rfl|exact .inr rfl)(hs:sW e (aa (.Name x pos')) pos.line X.env=pure aM:=by rfl)(hf:X.fn x=aq\/X.env.scope.names.lookup x=aa .local:=by first|exact .inl rfl|exact .inr rfl|assumption):
  PS X (.Assign [.Name x pos'] e pos) (tS X.K (cB i f)):=aeR hN hi hx he hs hf
theorem iQ(h:PE X e (tE X.K f)):je X [.Return (aa e) pos] (tS X.K (gb f)):=jT (aoQ h)
theorem iZ(hc:iY X (.builtin bid) r)(L:lM X.K r op)(hm:X.mg x=aj)(ha:PA X (e::es) (wX X.K g))(hg:Gl X x:=by rfl)(hv:ur x=aa (.builtin bid):=by decide +kernel)(hn:x≠"__name__":=by decide)(hdb:(x==("__debug__":Str))=aM:=by decide)
  (he:bR (e::es) X.env=(aM,eval e X.env)::bR es X.env:=by rfl)(hpl:(jA pos (bR es X.env)).any (·.1)=aM:=by rfl):PE X (.Call (.Name x p) (e::es) [] pos) (tE X.K (cM op g)):=zq hc L hg hm hv ha hn hdb he hpl
section
open PySem.Builtin PySem.Builtin.Str
end
def sp:Str:=bz " "
theorem anx{x y:Str}(h:x.cps.toList=y.cps.toList):x=y:=by
 obtain⟨⟨a⟩⟩:=x
 obtain⟨⟨b⟩⟩:=y
 cases h;rfl
theorem Ny(x y:Str):(x++y).cps.toList=x.cps.toList++y.cps.toList:=Array.toList_append
theorem ab7(x y z:Str):x++y++z=x++(y++z):=anx (by rw[Ny,Ny,Ny,Ny,kE])
def nl:Str:=bz ""
inductive rm(X:Cx)(pos:Pos):List (Option Expr)->List Expr->List (Str×FE)->List (TE×TE)->Prop
 |nil:rm X pos [] [] [] []
 |cons {k v:Expr} {ks:List (Option Expr)} {vs:List Expr} {z:Str} {f:FE} {l:List (Str×FE)} {oE:List (TE×TE)}:PE X k (tC (.str z))->PE X v (tE X.K f)->rm X pos ks vs l oE->rm X pos (aa k::ks) (v::vs) ((z,f)::l) ((tC (.str z),tE X.K f)::oE)
theorem rm.Dk(h:rm X pos ks vs l oE):JT X pos ks vs oE:=by
 induction h with
 |nil=>exact adz
 |cons a b _ ih=>exact acr a b ih
theorem rm.len(h:rm X pos ks vs l oE):ks.all (·.isSome)=aq/\ks.length=vs.length:=by
 induction h with
 |nil=>exact⟨rfl,rfl⟩
 |cons _ _ _ ih=>exact⟨by rw[KN,ih.1];rfl,by rw[dW,dW,ih.2]⟩
theorem aee{k:Key}(h:k∉aA.map (·.1)):putK aA k v=aA++[(k,v)]:=by
 unfold putK;rw[bH];intro c
 obtain⟨x,hx,e⟩:=aad.mp c
 exact h (by rw[<-of_decide_eq_true e];exact ahw hx)
theorem ab8:∀{more aA:List (Key×V)},((aA++more).map (·.1)).Nodup->zM aA more=aA++more
 |[],aA,_=>(mj _).symm
 |p::more,aA,h=>by
  have h1:p.1∉aA.map (·.1):=λm=>by
   rw[iC,jF] at h;exact h.2.2 _ m _ (ahw cX) rfl
  show zM (putK aA p.1 p.2) more=_;rw[aee h1,ab8 (by rw[kE];exact h),kE];rfl
inductive Bi where
 |dat (d:aD)
 |lst (ds:List aD)
 |fB (aA:List (aD×aD))
abbrev eN:=List (Str×Bi)
def Bi.tree:Bi->aD
 |.dat d=>d
 |.lst ds=>.list ds
 |.fB aA=>.dict aA
def Gg(b:eN):List (aD×aD):=b.map λp=>(.str p.1,p.2.tree)
def fH(b:eN):aD:=.dict (Gg b)
def jE(H H':Hp):Prop:=∀a vs,H a=aa (.tup vs)->H' a=aa (.tup vs)
theorem jE.trans(h:jE H H1)(g:jE H1 H2):jE H H2:=λa vs e=>g a vs (h a vs e)
theorem jE.er(h:∀a∈P,NT (H a)):jE H (er P H):=λa vs e=>by
 unfold L2.er;rw[bH]
 .exact e
 .intro m
  obtain⟨u,hu,n⟩:=h a m
  rw[e] at hu;cases hu;exact n vs rfl
theorem jE.upd(h:NT (H a)):jE H (upd H a o):=λb vs e=>by
 rw[cP]
 .exact e
 .intro z;subst z
  obtain⟨u,hu,n⟩:=h
  rw[e] at hu;cases hu;exact n vs rfl
mutual
theorem RZ.mV(k:jE H H'):∀{d:aD}{v:V},jf d=aq->RZ H d v->RZ H' d v
 |.none,_,_,h=>h
 |.bool _,_,_,h=>h
 |.int _,_,_,h=>h
 |.str _,_,_,h=>h
 |.list ds,_,n,h=>by cases n
 |.tuple ds,_,n,h=>by
  obtain⟨a,vs,e,q,r⟩:=h
  exact⟨a,vs,e,k _ _ q,cu.mV k n r⟩
 |.dict aA,_,n,h=>by cases n
theorem cu.mV(k:jE H H'):∀{ds:List aD}{vs:List V},dY ds=aq->cu H ds vs->cu H' ds vs
 |[],_,_,h=>h
 |d::ds,vs,n,h=>by
  obtain⟨v,r,e,q,t⟩:=h
  have n':jf d=aq/\dY ds=aq:=by rw[dY,jP] at n;exact n
  exact⟨v,r,e,RZ.mV k n'.1 q,cu.mV k n'.2 t⟩
end
theorem gA.mV(k:jE H H'):∀{ds:List (aD×aD)}{vs:List V},oA ds=aq->gA H ds vs->gA H' ds vs
 |[],_,_,h=>h
 |(x,d)::ds,vs,n,h=>by
  obtain⟨v,r,e,q,t⟩:=h
  have n':L2.jf d=aq/\L2.oA ds=aq:=by
   rw[oA,jP] at n;exact n
  exact⟨v,r,e,RZ.mV k n'.1 (show RZ H d v from q),gA.mV k n'.2 t⟩
def qU(H:Hp):Bi->V->List aC->Prop
 |.dat d,v,as=>as=[]/\jf d=aq/\RZ H d v
 |.lst ds,v,as=>∃a vs,v=.ref a/\as=[a]/\H a=aa (.lst vs)/\dY ds=aq/\cu H ds vs
 |.fB aA,v,as=>∃a vs,v=.ref a/\as=[a]/\o8 H a aA vs/\oA aA=aq/\gA H aA vs
def nH(H:Hp):eN->List V->List aC->Prop
 |[],vs,as=>vs=[]/\as=[]
 |p::r,vs,as=>∃v t a1 a2,vs=v::t/\as=a1++a2/\qU H p.2 v a1/\nH H r t a2
def uT(H:Hp)(v:V)(as:List aC)(b:eN):Prop:=∃a vs ep bs,v=.ref a/\as=a::bs/\H a=aa (.dK ((b.map λp=>(fG p.1:Key)).zip vs) ep)/\nH H b vs bs
theorem o8.keep(e:∀o,H a=aa o->H' a=aa o)(h:o8 H a aA vs):o8 H' a aA vs:=by
 rcases h with⟨ks,k,ep,h⟩|⟨ks,k,ep,h⟩
 .exact .inl ⟨ks,k,ep,e _ h⟩
 .exact .inr ⟨ks,k,ep,e _ h⟩
theorem qU.keep(k:jE H H')(e:∀a∈as,∀o,H a=aa o->H' a=aa o)(h:qU H x v as):qU H' x v as:=by
 cases x with
 |dat d=>exact⟨h.1,h.2.1,RZ.mV k h.2.1 h.2.2⟩
 |lst ds=>
  obtain⟨a,vs,e1,rfl,q,n,r⟩:=h
  exact⟨a,vs,e1,rfl,e a cX _ q,n,cu.mV k n r⟩
 |fB aA=>
  obtain⟨a,vs,e1,rfl,q,n,r⟩:=h
  exact⟨a,vs,e1,rfl,q.keep (e a cX),n,gA.mV k n r⟩
theorem nH.keep(k:jE H H'):∀{b:eN}{vs:List V}{as:List aC},(∀a∈as,∀o,H a=aa o->H' a=aa o)->nH H b vs as->nH H' b vs as
 |[],_,_,_,h=>h
 |p::r,vs,as,e,h=>by
  obtain⟨v,t,a1,a2,rfl,rfl,h1,h2⟩:=h
  exact⟨v,t,a1,a2,rfl,rfl,h1.keep k λa m=>e a (fM _ m),nH.keep k (λa m=>e a (eF _ m)) h2⟩
theorem uT.keep(k:jE H H')(e:∀a∈as,∀o,H a=aa o->H' a=aa o)(h:uT H v as b):uT H' v as b:=by
 obtain⟨a,vs,ep,bs,rfl,rfl,h1,h2⟩:=h
 exact⟨a,vs,ep,bs,rfl,rfl,e a cX _ h1,h2.keep k λc m=>e c (dM _ m)⟩
theorem qU.rz(h:qU H x v as):RZ H x.tree v:=by
 cases x with
 |dat d=>exact h.2.2
 |lst ds=>obtain⟨a,vs,e1,_,q,n,r⟩:=h;exact⟨a,vs,e1,q,r⟩
 |fB aA=>obtain⟨a,vs,e1,_,q,n,r⟩:=h;exact⟨a,vs,e1,q,r⟩
theorem nH.rz:∀{b:eN}{vs:List V}{as:List aC},nH H b vs as->gA H (Gg b) vs
 |[],_,_,h=>h.1
 |p::r,vs,as,h=>by
  obtain⟨v,t,a1,a2,rfl,_,h1,h2⟩:=h
  exact⟨v,t,rfl,h1.rz,h2.rz⟩
theorem afq:∀b:eN,dh fW (Gg b)=aa (b.map λp=>(fG p.1:Key))
 |[]=>rfl
 |p::r=>by
  show dh fW ((iD p.1,p.2.tree)::Gg r)=_;unfold dh;rw[afq r];rfl
theorem uT.rz(h:uT H v as b):RZ H (fH b) v:=by
 obtain⟨a,vs,ep,bs,rfl,rfl,h1,h2⟩:=h
 exact⟨a,vs,rfl,.inl ⟨_,afq b,ep,h1⟩,h2.rz⟩
theorem qU.nt(h:qU H x v as):∀a∈as,NT (H a):=λb m=>by
 cases x with
 |dat d=>rw[h.1] at m;cases m
 |lst ds=>
  obtain⟨a,vs,e1,rfl,q,n,r⟩:=h
  rw[gk.mp m]
  exact⟨_,q,λ_ z=>nomatch z⟩
 |fB aA=>
  obtain⟨a,vs,e1,rfl,q,n,r⟩:=h
  rw[gk.mp m];rcases q with⟨ks,k,ep,e⟩|⟨ks,k,ep,e⟩
  .exact⟨_,e,λ_ z=>nomatch z⟩
  .exact⟨_,e,λ_ z=>nomatch z⟩
theorem nH.nt:∀{b:eN}{vs:List V}{as:List aC},nH H b vs as->∀a∈as,NT (H a)
 |[],_,_,h,a,m=>by rw[h.2] at m;cases m
 |p::r,vs,as,h,a,m=>by
  obtain⟨v,t,a1,a2,_,rfl,h1,h2⟩:=h
  exact(cY.mp m).elim (h1.nt a) (h2.nt a)
theorem uT.nt(h:uT H v as b):∀a∈as,NT (H a):=λc m=>by
 obtain⟨a,vs,ep,bs,rfl,rfl,h1,h2⟩:=h
 rcases bW.mp m with rfl|m
 .exact⟨_,h1,λ_ z=>nomatch z⟩
 .exact h2.nt c m
def Gy:Vl->Bool
 |.im d=>jf d
 |.ow (.list ds)=>dY ds
 |.ow (.dict aA)=>oA aA
 |.ce _=>aq
 |_=>aM
def eO(ao:En)(i:Nat):Bool:=(ao.mapIdx λj x=>j==i||(match x with
 |some y=>Gy y
 |none=>aq)).all id
theorem ao9(h:eO ao i=aq)(e:ao[j]?=aa (aa y))(n:j≠i):Gy y=aq:=by
 have hl:j<ao.length:=(jO.mp e).1;have m:=nR.mp h ((λj x=>j==i||(match x with
  |some y=>Gy y
  |none=>aq)) j (aa y)) (lY (i:=j) (by rw[Ds,e];rfl))
 have:(j==i)=aM:=beq_eq_false_iff_ne.mpr n;simp only[id_eq,this,aiz] at m;exact m
structure Bm(K:aZ)(i:Nat)(Z Θ0:List aC)(env0:En)(σ0:St)(H0:Hp)(Θ:List aC)(ao:En)(C:Ce)(σ:St)(H:Hp)(b:eN):Prop where
 st:eE K Z Θ0 env0 σ0 H0 Θ ao C σ H
 im:ao[i]?=aa (aa (.im (fH b)))
 sh:eO ao i=aq
 ex:∃v as,σ[i]?=aa (aa v)/\uT H v as b/\as.Nodup/\∀a∈as,a∉bB Z Θ ao σ/\H0 a=aj
abbrev m6:=En->Ce->eN->Option (Fl×En×Ce×eN)
def arf(K:aZ)(i:Nat)(Z Θ0:List aC)(env0:En)(σ0:St)(H0:Hp)(aV:En)(C':Ce)(b':eN)(D:Ends):Fl->Prop
 |.nx=>∀Θ' σ' H',Bm K i Z Θ0 env0 σ0 H0 Θ' aV C' σ' H' b'->D.nx σ' H'
 |.rt r=>∀Θ' v H',Qy K Z Θ0 env0 σ0 H0 Θ' C' r v H'->D.rt v H'
 |_=>False
inductive lN(K:aZ)(i:Nat)(f:m6)(D:Ends)(σ:St)(H:Hp):Prop
 |mk (Z Θ0:List aC) (env0:En) (σ0:St) (H0:Hp) (Θ:List aC) (ao:En) (C:Ce) (b:eN) (fl:Fl) (aV:En) (C':Ce) (b':eN) (S:Bm K i Z Θ0 env0 σ0 H0 Θ ao C σ H b) (hf:f ao C b=aa (fl,aV,C',b')) (q:arf K i Z Θ0 env0 σ0 H0 aV C' b' D fl):lN K i f D σ H
section
variable{K:aZ}{i:Nat}{σ0 σ σ':St}{H0 H H':Hp}{C C':Ce}{b:eN}
theorem eE.tups(p:eE K Z Θ ao σ H Θ' aV C' σ' H')(S:Sm K Z Θ ao C σ H):jE H H':=λa vs e=>p.kp.keep _ _ e λm=>by
 have m':a∈bB Z Θ ao σ:=eF _ m
 obtain⟨u,hu,n⟩:=S.yN a m'
 rw[e] at hu;cases hu;exact n vs rfl
theorem Bm.step(B:Bm K i Z Θ0 env0 σ0 H0 Θ ao C σ H b)(p:eE K Z Θ ao σ H Θ' aV C' σ' H')(hs:σ'[i]?=σ[i]?)(he:aV[i]?=ao[i]?)(sh:eO aV i=aq):Bm K i Z Θ0 env0 σ0 H0 Θ' aV C' σ' H' b:=by
 obtain⟨v,as,e1,bx,nd,dj⟩:=B.ex
 have S:=B.st.sm;have na:∀a∈as,a∉Θ++bV ao σ:=λa m z=>(dj a m).1 (eF _ z)
 refine⟨B.st.trans p,by rw[he];exact B.im,sh,v,as,by rw[hs];exact e1,bx.keep (p.tups S) λa m o h=>p.kp.keep _ _ h (na a m),nd,λa m=>⟨λz=>?_,(dj a m).2⟩⟩
 have hne:H a≠aj:=(bx.nt a m).ne;rcases gO.mp z with z|z|z
 .exact(dj a m).1 (gO.mpr (.inl z))
 .obtain⟨Δ,e,n⟩:=p.th.ex
  rw[e] at z;rcases cY.mp z with z|z
  .exact(dj a m).1 (gO.mpr (.inr (.inl z)))
  .exact hne (n a z)
 .rcases p.own a z with z|z
  .exact(dj a m).1 (gO.mpr (.inr (.inr z)))
  .exact hne z
theorem FQ:∀{ao e1:En}{i:Nat}{d:aD},Fz ao e1->ao[i]?=aa (aa (.im d))->e1[i]?=aa (aa (.im d))
 |[],_,i,d,_,h=>by simp at h
 |_::_,[],_,_,f,_=>nomatch f
 |x::r,y::t,0,d,f,h=>by
  simp at h;rcases f.1 with q|⟨d',q1,q2⟩
  .rw[q,h];rfl
  .rw[h] at q1;cases q1
 |x::r,y::t,i+1,d,f,h=>by
  have:=FQ (i:=i) f.2 (by simpa using h);simpa using this
end
def oY(f g:m6):m6:=λao C b=>match f ao C b with
 |some (.nx,e1,C1,b1)=>g e1 C1 b1
 |r=>r
theorem aky{K:aZ}:∀D σ H,lN K i (oY f g) D σ H->X3 (lN K i f) (lN K i g) D σ H:=by
 rintro D σ H ⟨Z,Θ0,env0,σ0,H0,Θ,ao,C,b,fl,aV,C',b',S,hf,q⟩;unfold oY at hf;split at hf
 .rename_i e1 C1 b1 h1
  exact⟨Z,Θ0,env0,σ0,H0,Θ,ao,C,b,.nx,e1,C1,b1,S,h1,λΘ1 σ1 H1 S1=>⟨Z,Θ0,env0,σ0,H0,Θ1,e1,C1,b1,fl,aV,C',b',S1,hf,q⟩⟩
 .rename_i hne
  refine⟨Z,Θ0,env0,σ0,H0,Θ,ao,C,b,fl,aV,C',b',S,hf,?_⟩
  cases fl with
  |nx=>exact absurd hf (hne _ _ _)
  |bk=>exact q
  |ct=>exact q
  |rt r=>exact q
def u5(i j:Nat)(f:FE):m6:=λao C b=>(f ao C).bind λp=>if j≠i/\eO (p.2.1.set j (aa p.1)) i=aq then aa (.nx,p.2.1.set j (aa p.1),p.2.2,b) else aj
theorem akz{K:aZ}:∀D σ H,lN K i (u5 i j f) D σ H->CP (tE K f) (uN j) D σ H:=by
 rintro D σ H ⟨Z,Θ0,env0,σ0,H0,Θ,ao,C,b,fl,aV,C',b',S,hf,q⟩
 obtain⟨p,h1,hf⟩:=fZ hf
 obtain⟨r,e1,C1⟩:=p
 dsimp only at hf;split at hf
 case isFalse=>cases hf
 rename_i g;cases hf
 refine⟨Z,Θ,ao,C,r,e1,_,S.st.sm,h1,λv H1 k f R=>q Θ _ H1 (S.step ⟨lg.refl _ _,uD k,λa m=>?_,R.set⟩ ?_ ?_ g.2)⟩
 .rcases uC m with m|⟨⟨d,e⟩,e2⟩
  .exact .inl (f.own.subset m)
  .subst e
   obtain⟨b,e3,n,_⟩:=R
   rw[e2] at e3;cases e3;exact .inr n
 .rw[xq g.1]
 .rw[xq g.1,FQ f S.im,S.im]
def PN:m6:=λao C b=>aa (.rt (.im (fH b)),ao,C,b)
theorem akA{K:aZ}:∀D σ H,lN K i PN D σ H->afx (qj i) D σ H:=by
 rintro D σ H ⟨Z,Θ0,env0,σ0,H0,Θ,ao,C,b,fl,aV,C',b',S,hf,q⟩;cases hf
 obtain⟨v,e1,r⟩:=S.st.sm.slot i _ S.im
 exact⟨v,e1,q Θ v H ⟨S.st.th,S.st.kp,S.st.sm.none,RZ.same zu r⟩⟩
theorem O4(hN:X.N.Nodup)(hi:X.N[j]?=aa x)(hx:Loc X.env.scope x)(he:PE X e (tE X.K f))(hs:sW e (aa (.Name x pos')) pos.line X.env=pure aM:=by rfl)(hf:X.fn x=aq\/X.env.scope.names.lookup x=aa .local:=by first|exact .inl rfl|exact .inr rfl|assumption):
  PS X (.Assign [.Name x pos'] e pos) (lN X.K i (u5 i j f)):=(Oj hN hi hx he hs hf).weak akz
theorem apa(h:PE X e (qj i)):PS X (.Return (aa e) pos) (lN X.K i PN):=(WN h).weak akA
theorem O5{s1:dI}{f:m6}(h:PS X s1 (lN X.K i f)):je X [s1] (lN X.K i f):=ado h
theorem tL{s1:dI}{rest:List dI}{f g:m6}(h:PS X s1 (lN X.K i f))(hr:je X rest (lN X.K i g)):je X (s1::rest) (lN X.K i (oY f g)):=(Ui h hr).weak aky
theorem ae2:∀{ao:En}{σ:St}{i:Nat}{d d':aD},ao[i]?=aa (aa (.im d))->bV (ao.set i (aa (.im d'))) σ=bV ao σ
 |[],_,_,_,_,h=>by simp at h
 |x::e,[],i,_,_,h=>by cases i<;>rfl
 |x::e,v::s,0,d,d',h=>by
  simp at h;subst h;rfl
 |x::e,v::s,i+1,d,d',h=>by
  show own1 x v++bV (e.set i (aa (.im d'))) s=own1 x v++bV e s;rw[ae2 (by simpa using h)]
theorem uF(h:eO ao i=aq):eO (ao.set i y) i=aq:=by
 unfold eO at h⊢;rw[nR] at h⊢;intro x m
 obtain⟨j,e⟩:=ahk.mp m
 rw[Ds] at e
 obtain⟨z,hz,rfl⟩:=xj.mp e
 by_cases c:j=i
 .have:(j==i)=aq:=beq_iff_eq.mpr c;simp[this]
 .rw[xq (λq=>c q.symm)] at hz;exact h _ (lY (i:=j) (by rw[Ds,hz];rfl))
section
variable{K:aZ}{i:Nat}{σ0 σ σ':St}{H0 H H':Hp}{C C':Ce}{b b':eN}{v:V}{c:aC}{o:HO}
theorem kY.mV(k:jE E E')(n:Gy (.ow d)=aq)(e:∀o,H a=aa o->H' a=aa o)(r:kY E H a d):kY E' H' a d:=by
 cases d<;>first|exact r.elim|skip
 .obtain⟨vs,e1,q⟩:=r
  exact⟨vs,e _ e1,cu.mV k n q⟩
 .obtain⟨vs,e1,q⟩:=r
  exact⟨vs,e1.keep e,gA.mV k n q⟩
theorem Bm.write(B:Bm K i Z Θ0 env0 σ0 H0 Θ ao C σ H b)(hv:σ[i]?=aa (aa v))(hc:NT (H c))(hp:c∉bB Z Θ ao σ)(h0:H0 c=aj)(bx:uT (upd H c o) v as' b')(nd:as'.Nodup)(dj:∀a∈as',a∉bB Z Θ ao σ/\H0 a=aj):
  Bm K i Z Θ0 env0 σ0 H0 Θ (ao.set i (aa (.im (fH b')))) C σ (upd H c o) b':=by
 have S:=B.st.sm;have eo:bV (ao.set i (aa (.im (fH b')))) σ=bV ao σ:=ae2 B.im;have ep:bB Z Θ (ao.set i (aa (.im (fH b')))) σ=bB Z Θ ao σ:=by show _++(_++_)=_;rw[eo]
 have up:∀a,a∈bB Z Θ ao σ->upd H c o a=H a:=λa m=>cP λz=>hp (z▸m)
 have pn:∀a∈bB Z Θ ao σ,NT (upd H c o a):=λa m=>by rw[up a m];exact S.yN a m
 have kt:jE (er (bB Z Θ ao σ) H) (er (bB Z Θ ao σ) (upd H c o)):=λa vs e=>jE.er pn a vs (jE.upd hc a vs (jh e))
 have hil:i<ao.length:=(jO.mp B.im).1;have sm:Sm K Z Θ (ao.set i (aa (.im (fH b')))) C σ (upd H c o):=by
  refine⟨by rw[Bc];exact S.len,by rw[ep];exact S.nd,λa m=>by rw[up a (fM _ m)];exact S.dom a m,λj x e=>?_,⟨S.cell.len,λn a ns e1 e2=>by
   rw[up a (gO.mpr (.inr (.inl (lY e1))))];exact S.cell.at_ n a ns e1 e2⟩⟩
  rw[ep];rcases get_set e with⟨rfl,ex,_⟩|⟨n,e⟩
  .cases ex
   refine⟨v,hv,(bx.keep (jE.er pn) λa m u hu=>?_).rz⟩
   unfold L2.er;rw[bH (dj a m).1];exact hu
  .obtain⟨w,e1,r⟩:=S.slot j x e
   refine⟨w,e1,?_⟩
   have sv:=ao9 B.sh e n;cases x with
   |im d=>exact RZ.mV kt sv r
   |ow d=>
    obtain⟨a,rfl,q⟩:=r
    refine⟨a,rfl,kY.mV kt sv (λu hu=>?_) q⟩
    rw[up a (gO.mpr (.inr (.inr (nU.mpr ⟨j,d,e,e1⟩))))];exact hu
   |ce n=>exact r
   |sc ns=>cases sv
   |ks ns=>cases sv
   |tp=>cases sv
 refine⟨⟨B.st.th,⟨λa u e na=>?_,λa e=>?_⟩,λa m=>B.st.own a (by rw[<-eo];exact m),sm⟩,by rw[Kf hil],uF B.sh,v,as',hv,bx,nd,λa m=>by rw[ep];exact dj a m⟩
 .rw[cP (pX e h0)];exact B.st.kp.keep a u e na
 .by_cases z:a=c
  .subst z;rw[eV];exact xx _
  .rw[cP z];exact B.st.kp.dom a e
end
def sG:Vl->Option Bi
 |.im d=>if jf d=aq then aa (.dat d) else aj
 |.ow (.list ds)=>if dY ds=aq then aa (.lst ds) else aj
 |.ow (.dict aA)=>if oA aA=aq then aa (.fB aA) else aj
 |_=>aj
theorem nH.app(hx:qU H x w a1):∀{b:eN}{vs:List V}{bs:List aC},nH H b vs bs->nH H (b++[(k,x)]) (vs++[w]) (bs++a1)
 |[],vs,bs,h=>by
  obtain⟨rfl,rfl⟩:=h
  exact⟨w,[],a1,[],rfl,by rw[iU,mj],hx,rfl,rfl⟩
 |p::r,vs,bs,h=>by
  obtain⟨v,t,b1,b2,rfl,rfl,h1,h2⟩:=h
  exact⟨v,t++[w],b1,b2++a1,rfl,by rw[kE],h1,h2.app hx⟩
theorem nH.len:∀{b:eN}{vs:List V}{bs:List aC},nH H b vs bs->vs.length=b.length
 |[],vs,bs,h=>by rw[h.1];rfl
 |p::r,vs,bs,h=>by
  obtain⟨v,t,b1,b2,rfl,rfl,h1,h2⟩:=h
  rw[dW,dW,h2.len]
theorem apb{K:aZ}{ao:En}{C:Ce}{σ:St}{r:Vl}{v:V}{x:Bi}(h:sG r=aa x)(R:Res K Z Θ ao C σ H H' r v):∃as,qU H' x v as/\as.Nodup/\∀a∈as,H a=aj/\a∉bB Z Θ ao σ:=by
 cases r with
 |im d=>
  unfold sG at h;dsimp only at h;split at h
  .rename_i n;cases h
   exact⟨[],⟨rfl,n,R.2.same (qK _ _)⟩,lO,λ_ m=>nomatch m⟩
  .cases h
 |ow d=>
  obtain⟨a,rfl,hn,S,rt⟩:=R
  have na:a∉bB Z Θ ao σ:=(ie.mp S.nd).1;cases d<;>first|cases h|skip
  .unfold sG at h;dsimp only at h;split at h
   .rename_i n;cases h
    obtain⟨vs,e,q⟩:=rt
    exact⟨[a],⟨a,vs,rfl,rfl,e,n,q.same (qK _ _)⟩,(ie.mpr ⟨iT,lO⟩),λc m=>by rw[gk.mp m];exact⟨hn,na⟩⟩
   .cases h
  .unfold sG at h;dsimp only at h;split at h
   .rename_i n;cases h
    obtain⟨vs,e,q⟩:=rt
    exact⟨[a],⟨a,vs,rfl,rfl,e,n,q.same (qK _ _)⟩,(ie.mpr ⟨iT,lO⟩),λc m=>by rw[gk.mp m];exact⟨hn,na⟩⟩
   .cases h
 |ce n=>cases h
 |sc ns=>cases h
 |ks ns=>cases h
 |tp=>cases h
def yJ(i:Nat)(key:Str)(f:FE):m6:=λao C b=>(f ao C).bind λp=>(sG p.1).bind λx=>if key∉b.map (·.1)/\b.length<gB/\eO p.2.1 i=aq then aa (.nx,p.2.1.set i (aa (.im (fH (b++[(key,x)])))),p.2.2,b++[(key,x)]) else aj
theorem Jd{o k e:Expr}{i:Nat}{key:Str}{fe:FE}{p pos:Pos}(hu:X.A.units+1<iM)(ho:PE X o (qj i))(hk:PE X k (eX X.K (aG (bM (.str key)))))(he:PE X e (tE X.K fe))
  (ha:∀v,assign (.Subscript o k p) X.env v=(do
   let ov <-nA [v] (eval o X.env)
   let iv <-nA [v,ov] (eval k X.env)
   tD p
   nA [v,ov,iv] (Ie ov iv v)
   release [v,ov,iv] []):=by intro _;rfl)
  (hs:xN [.Subscript o k p] e pos.line X.env=pure aM:=by rfl)(hw:xO [.Subscript o k p] e X.env=pure aj:=by rfl)(h1:(sU [.Subscript o k p] X.env).map (·.2)=[assign (.Subscript o k p) X.env]:=by rfl):
  PS X (.Assign [.Subscript o k p] e pos) (lN X.K i (yJ i key fe)):=(Iu he (WQ (t:=zR) ho hk (V3 hu) ha) hs hw h1).weak λD σ H aY=>by
 obtain⟨Z,Θ0,env0,σ0,H0,Θ,ao,C,b,fl,aV,C',b',S,hf,q⟩:=aY
 obtain⟨⟨r,e1,C1⟩,hf1,hf⟩:=fZ hf
 obtain⟨x,hx,hf⟩:=fZ hf
 dsimp only at hf hx;split at hf
 case isFalse=>cases hf
 rename_i g;cases hf
 refine⟨Z,Θ,ao,C,r,e1,_,S.st.sm,hf1,λv H1 k1 f1 R1=>?_⟩
 obtain⟨a1,bi,nd1,QH⟩:=apb hx R1
 have B1:=S.step (eE.o9 k1 f1 R1.sm) rfl (by rw[FQ f1 S.im,S.im]) g.2.2
 obtain⟨u,as,eu,bx,nd,dj⟩:=S.ex
 refine⟨u,eu,Z,Θ,e1,_,.str key,e1,_,B1.st.sm,rfl,λw H2 k2 f2 S2 b2=>?_⟩
 have b2:w=.str key:=b2;subst b2;have p2:=eE.o9 k2 f2 S2;have B2:=B1.step p2 rfl rfl g.2.2;have kt:=p2.tups B1.st.sm;have nT:∀c∈as,c∉Θ:=λc m z=>(dj c m).1 (gO.mpr (.inr (.inl z)))
 have nT1:∀c∈a1,c∉Θ:=λc m z=>(QH c m).2 (gO.mpr (.inr (.inl z)))
 have wZ:∀c∈as,c∉a1:=λc m z=>(bx.nt c m).ne (QH c z).1
 have Zb:∀c∈as++a1,c∉bB Z Θ e1 σ/\H0 c=aj:=λc m=>by
  rcases cY.mp m with m|m
  .exact⟨λz=>(dj c m).1 (f1.sub c z),(dj c m).2⟩
  .exact⟨(QH c m).2,S.st.kp.none (QH c m).1⟩
 have bx2:uT H2 u as b:=(bx.keep ((eE.o9 k1 f1 R1.sm).tups S.st.sm) λc m o h=>k1.keep _ _ h (nT c m)).keep kt λc m o h=>k2.keep _ _ h (nT c m)
 have bi2:qU H2 x v a1:=bi.keep kt λc m o h=>k2.keep _ _ h (nT1 c m)
 have Zc:=bx2.nt
 obtain⟨a,vs,ep,bs,rfl,rfl,h3,h4⟩:=bx2
 have hl:=h4.len;have kn:(fG key:Key)∉((b.map λp=>(fG p.1:Key)).zip vs).map (·.1):=λm=>by
  rw[Rp (by rw[bJ,hl];exact cz _)] at m
  obtain⟨p,mp,e⟩:=dD.mp m
  cases e;exact g.1 (dD.mpr ⟨p,mp,rfl⟩)
 have ze:putK ((b.map λp=>(fG p.1:Key)).zip vs) (fG key) v=((b++[(key,x)]).map λp=>(fG p.1:Key)).zip (vs++[v]):=by
  rw[aee kn,iC,List.zip_append (by rw[bJ,hl])];rfl
 have na:a∉bs++a1:=λm=>by
  rcases cY.mp m with m|m
  .exact(ie.mp nd).1 m
  .exact wZ a cX m
 refine .inl (.inr ⟨a,_,rfl,qN.k (k:=fG key) h3 (by rw[Be,bJ,hl,aaY,jQ];have:=g.2.1;unfold gB at this;lia),λe=>q Θ σ _ ?_⟩);refine B2.write (as':=a::(bs++a1)) eu (Zc a cX) (Zb a (fM _ cX)).1 (Zb a (fM _ cX)).2 ⟨a,_,e,bs++a1,rfl,rfl,by rw[eV,ze],(h4.app bi2).keep (jE.upd (Zc a cX)) λc m o h=>?_⟩ (ie.mpr ⟨na,jF.mpr ⟨(ie.mp nd).2,nd1,λc m d m' e=>by subst e;exact wZ c (dM _ m) m'⟩⟩) λc m=>Zb c m
 have ne:c≠a:=λz=>na (by rw[<-z];exact m)
 rw[cP ne];exact h
def gC:eN->Str->Option Bi
 |[],_=>aj
 |p::r,k=>if p.1=k then aa p.2 else gC r k
def setB:eN->Str->Bi->eN
 |[],_,_=>[]
 |p::r,k,x=>if p.1=k then(p.1,x)::r else p::setB r k x
theorem T4(k:Str)(x:Bi):∀b:eN,((setB b k x).map λp=>(fG p.1:Key))=b.map λp=>(fG p.1:Key)
 |[]=>rfl
 |p::r=>by
  unfold setB;split
  .rfl
  .rw[dN,dN,T4 k x r]
theorem nH.at:∀{b:eN}{vs:List V}{bs:List aC},nH H b vs bs->bs.Nodup->gC b key=aa x->
  ∃w a1,oW ((b.map λp=>(fG p.1:Key)).zip vs) (fG key)=aa w/\qU H x w a1/\(∀c∈a1,c∈bs)/\∀(H':Hp)(x':Bi),jE H H'->(∀c∈bs,c∉a1->∀o,H c=aa o->H' c=aa o)->qU H' x' w a1->nH H' (setB b key x') vs bs
 |[],_,_,_,_,e=>by cases e
 |p::r,vs,bs,h,nd,e=>by
  obtain⟨v,t,b1,b2,rfl,rfl,h1,h2⟩:=h
  rw[jF] at nd;unfold gC at e;split at e
  .rename_i c;cases e
   refine⟨v,b1,?_,h1,λc m=>fM _ m,λH' x' kt ke hx=>?_⟩
   .rw[dN,GK];exact Hu (show(fG p.1:Key)=fG key by rw[c])
   .unfold setB;rw[bG c]
    exact⟨v,t,b1,b2,rfl,rfl,hx,h2.keep kt λc m=>ke c (eF _ m) λm'=>nd.2.2 c m' c m rfl⟩
  .rename_i c
   obtain⟨w,a1,g1,g2,g3,g4⟩:=h2.at nd.2.1 e
   refine⟨w,a1,?_,g2,λc m=>eF _ (g3 c m),λH' x' kt ke hx=>?_⟩
   .rw[dN,GK,Hv (show ¬(fG p.1:Key)=fG key from λz=>c (by cases z;rfl))];exact g1
   .unfold setB;rw[bH c]
    exact⟨v,t,b1,b2,rfl,rfl,h1.keep kt λc m=>ke c (fM _ m) λm'=>nd.2.2 c m c (g3 c m') rfl,g4 H' x' kt (λc m=>ke c (eF _ m)) hx⟩
def Gz:Vl->Option aD
 |.im d=>if jf d=aq then aa d else aj
 |_=>aj
theorem ae3(h:Gz r=aa d):r=.im d/\jf d=aq:=by
 unfold Gz at h;split at h
 .split at h
  .rename_i n;cases h;exact⟨rfl,n⟩
  .cases h
 .cases h
theorem Va:∀{ds es:List aD},dY ds=aq->dY es=aq->dY (ds++es)=aq
 |[],_,_,h=>h
 |d::ds,es,h,g=>by
  have n:jf d=aq/\dY ds=aq:=by rw[dY,jP] at h;exact h
  rw[jn,dY,n.1,Va n.2 g];rfl
def afZ(i:Nat)(key:Str)(b:eN)(p:Vl×En×Ce):Bi->Option (Fl×En×Ce×eN)
 |.lst ds=>(Gz p.1).bind λd=>if ds.length<gB/\eO p.2.1 i=aq then aa (.nx,p.2.1.set i (aa (.im (fH (setB b key (.lst (ds++[d])))))),p.2.2,setB b key (.lst (ds++[d]))) else aj
 |_=>aj
def JG(i:Nat)(key:Str)(f:FE):m6:=λao C b=>(gC b key).bind λx=>(f ao C).bind λp=>afZ i key b p x
theorem apc{o k e:Expr}{i:Nat}{key:Str}{f:FE}{p apos cpos pos:Pos}(hu:X.A.units+1<iM)(ho:PE X o (qj i))(hk:PE X k (tC (.str key)))(hx:BK k)(he:PE X e (tE X.K f))
  (hs0:sW (.Call (.Attribute (.Subscript o k p) "append" apos) [e] [] cpos) aj pos.line X.env=pure aM:=by rfl)
  (hbase:RC (.Subscript o k p) "append" X.env (eval (.Subscript o k p) X.env)=eval (.Subscript o k p) X.env:=by rfl)
  (hfew:((jA cpos (bR [e] X.env)).all (λx=>!x.1)&&(Uj cpos (R0 [] X.env)).all (λx=>x.1.isSome)
   &&decide (([e]:List Expr).length+([]:List BL).length+(if([]:List BL).isEmpty then 0 else 1)<30))=aq:=by rfl)
  (hline:(apos.endLine==cpos.line)=aq:=by rfl)(hs:bR [e] X.env=(aM,eval e X.env)::bR [] X.env:=by rfl)(hplain:(jA cpos (bR [] X.env)).any (·.1)=aM:=by rfl):
  PS X (.Expr (.Call (.Attribute (.Subscript o k p) "append" apos) [e] [] cpos) pos) (lN X.K i (JG i key f)):=
 (adp (Xw ag8 ZR ag6 (Df.r Tq) (Jj (j8 hu) ho hk hx) (rG he wg hs) hbase hfew hline hs hplain) hs0).weak λD σ H aY=>by
  obtain⟨Z,Θ0,env0,σ0,H0,Θ,ao,C,b,fl,aV,C',b',S,hf,q⟩:=aY
  obtain⟨x,hx,hf⟩:=fZ hf
  obtain⟨⟨r,e1,C1⟩,hf1,hf⟩:=fZ hf
  cases x with
  |dat d=>cases hf
  |fB aA=>cases hf
  |lst ds=>
  obtain⟨d,hd,hf⟩:=fZ hf
  obtain⟨rfl,QJ⟩:=ae3 hd
  dsimp only at hf;split at hf
  case isFalse=>cases hf
  rename_i g;cases hf
  obtain⟨u,as,eu,bx,nd,dj⟩:=S.ex
  have Zc:=bx.nt
  obtain⟨a,vs,ep,bs,rfl,rfl,h3,h4⟩:=bx
  obtain⟨w,a1,g1,g2,g3,g4⟩:=h4.at (ie.mp nd).2 hx
  obtain⟨c,us,rfl,rfl,hc,nl,rz⟩:=g2
  have cm:c∈bs:=g3 c cX;have ca:c≠a:=λz=>(ie.mp nd).1 (z▸cm)
  refine⟨.ref a,eu,.inr ⟨a,.ref c,rfl,?_,.inl ⟨rfl,us,cj.of hc⟩,Z,Θ,ao,C,.im d,e1,_,S.st.sm,hf1,λv H1 k f R=>?_⟩⟩
  .have:=n6.k (k:=(fG key:Key)) h3;rw[g1] at this;exact this
  have pp:=eE.o9 k f R.sm;have B1:=S.step pp rfl (by rw[FQ f S.im,S.im]) g.2;have kt:=pp.tups S.st.sm;have nT:∀b∈a::bs,b∉Θ:=λb m z=>(dj b m).1 (gO.mpr (.inr (.inl z)))
  have hc1:H1 c=aa (.lst us):=k.keep _ _ hc (nT c (dM _ cm));have rz1:cu H1 ds us:=cu.mV kt nl rz;have rd:RZ H1 d v:=R.2.same (qK _ _);have wZ:∀b∈a::bs,b∉bB Z Θ e1 σ/\H0 b=aj:=λb m=>⟨λz=>(dj b m).1 (f.sub b z),(dj b m).2⟩
  have nc:NT (H1 c):=⟨_,hc1,λ_ z=>nomatch z⟩
  refine⟨c,us,v,rfl,rfl,hc1,by rw[jG rz1,jQ];have:=g.1;unfold gB at this;lia,q Θ σ _ ?_⟩
  have ku:jE H1 (upd H1 c (.lst (us++[v]))):=jE.upd nc;refine B1.write (as':=a::bs) eu nc (wZ c (dM _ cm)).1 (wZ c (dM _ cm)).2 ⟨a,vs,ep,bs,rfl,rfl,?_,?_⟩ nd wZ
  .rw[T4,cP (λz=>ca z.symm)];exact k.keep _ _ h3 (nT a cX)
  .refine g4 _ _ (kt.trans ku) (λb m n o h=>?_) ⟨c,us++[v],rfl,rfl,eV,Va nl (by rw[dY,QJ];rfl),cu.mV ku (Va nl (by rw[dY,QJ];rfl)) (BR rz1 ⟨v,[],rfl,rd,rfl⟩)⟩;rw[cP (λz=>n (by rw[z];exact cX))];exact k.keep _ _ h (nT b (dM _ m))
theorem alO(hp:putD aA dk d=aa kvs')(hl:aA.length<gB)(da:o8 H a aA vs)(r3:gA E aA vs)(r2:RZ E d v)(b2:gK Z Θ e2 σ H dk w)
  (go:∀o vs',(∀H':Hp,H' a=aa o->o8 H' a kvs' vs')->gA E kvs' vs'->R (upd H a o)):zR (.ref a) w v H R:=by
 have hl':∀{κ:Type}(ks:List κ)(vs:List V),ks.length=aA.length->(ks.zip vs).length<cJ:=λks vs e=>by
  rw[Be,jQ,e];unfold gB at hl;lia
 unfold putD at hp;split at hp
 .rename_i k hk;split at hp
  case isFalse=>cases hp
  rename_i hs';cases hp;have wk:w=kV k:=by
   cases dk<;>first|(cases hk;exact b2)|cases hk
  rcases da with⟨ks,g1,ep,ha⟩|⟨ks,⟨ne,g2⟩,ha⟩
  .obtain⟨ks',vs',g3,g4,g5⟩:=BV hk r2 g1 r3
   subst wk;exact .inl (.inr ⟨a,_,rfl,qN.k (k:=k) (v:=v) ha (hl' ks vs (uz g1)),λe=>go _ vs' (λH' h=>.inl ⟨ks',g3,e,by rw[g5];exact h⟩) g4⟩)
  .obtain⟨Yh,g1⟩:=xg.mp hs'
   exact absurd (vV g1 g2) ne
 .split at hp
  case h_2=>cases hp
  rename_i Gu hks;split at hp
  case isFalse=>cases hp
  rename_i hs';cases hp
  obtain⟨b,hb,rfl⟩:∃b,H b=aa (.tup (Gu.map kV))/\w=.ref b:=by
   cases dk<;>first|cases hks|skip
   obtain⟨b,ws,rfl,hb,rr⟩:=b2.tup
   rw[zg hks rr] at hb
   exact⟨b,hb,rfl⟩
  rcases da with⟨ks,g1,ha⟩|⟨ks,⟨ne,g1⟩,ep,ha⟩
  .obtain⟨Yh,g2⟩:=xg.mp hs'
   have e0:=vV g1 g2;subst e0;cases g1;have e0:vs=[]:=r3;subst e0
   obtain⟨ks',vs',g3,g4,g5⟩:=BV (aA:=[]) (vs:=[]) (ks:=[]) hks r2 rfl rfl
   exact .inr ⟨a,b,Gu,rfl,ha,rfl,hb,λe=>go _ vs' (λH' h=>.inr ⟨ks',⟨Nq [],g3⟩,e,by rw[g5];exact h⟩) g4⟩
  .obtain⟨ks',vs',g3,g4,g5⟩:=BV hks r2 g1 r3
   exact .inl (.inr ⟨a,_,rfl,qN.t ha hb (hl' ks vs (uz g1)),λe=>go _ vs' (λH' h=>.inr ⟨ks',⟨Nq aA,g3⟩,e,by rw[g5];exact h⟩) g4⟩)
def af0(i:Nat)(key:Str)(b:eN)(d:aD)(q:aD×En×Ce):Bi->Option (Fl×En×Ce×eN)
 |.fB aA=>(putD aA q.1 d).bind λkvs'=>if aA.length<gB/\oA kvs'=aq/\eO q.2.1 i=aq then aa (.nx,q.2.1.set i (aa (.im (fH (setB b key (.fB kvs'))))),q.2.2,setB b key (.fB kvs')) else aj
 |_=>aj
def FW(i:Nat)(key:Str)(fk:FB)(fe:FE):m6:=λao C b=>(fe ao C).bind λp=>if eO p.2.1 i=aq then(Gz p.1).bind λd=>(fk p.2.1 p.2.2).bind λq=>(gC b key).bind λx=>af0 i key b d q x else aj
theorem aef{o k k2 e:Expr}{i:Nat}{key:Str}{fk:FB}{fe:FE}{p p2 pos:Pos}(hu:X.A.units+1<iM)(ho:PE X o (qj i))(hk:PE X k (tC (.str key)))(hx:BK k)(hk2:PE X k2 (eX X.K fk))(he:PE X e (tE X.K fe))
  (ha:∀v,assign (.Subscript (.Subscript o k p) k2 p2) X.env v=(do
   let ov <-nA [v] (eval (.Subscript o k p) X.env)
   let iv <-nA [v,ov] (eval k2 X.env)
   tD p2
   nA [v,ov,iv] (Ie ov iv v)
   release [v,ov,iv] []):=by intro _;rfl)
  (hs:xN [.Subscript (.Subscript o k p) k2 p2] e pos.line X.env=pure aM:=by rfl)(hw:xO [.Subscript (.Subscript o k p) k2 p2] e X.env=pure aj:=by rfl)(h1:(sU [.Subscript (.Subscript o k p) k2 p2] X.env).map (·.2)=[assign (.Subscript (.Subscript o k p) k2 p2) X.env]:=by rfl):
  PS X (.Assign [.Subscript (.Subscript o k p) k2 p2] e pos) (lN X.K i (FW i key fk fe)):=(Iu he (WQ (t:=zR) (Jj (j8 hu) ho hk hx) hk2 (V3 hu) ha) hs hw h1).weak λD σ H aY=>by
 obtain⟨Z,Θ0,env0,σ0,H0,Θ,ao,C,b,fl,aV,C',b',S,hf,q⟩:=aY
 obtain⟨⟨r,e1,C1⟩,hf1,hf⟩:=fZ hf
 dsimp only at hf;split at hf
 case isFalse=>cases hf
 rename_i g1
 obtain⟨d,hd,hf⟩:=fZ hf
 obtain⟨⟨dk,e2,C2⟩,hf2,hf⟩:=fZ hf
 obtain⟨x,hx,hf⟩:=fZ hf
 obtain⟨rfl,QJ⟩:=ae3 hd
 cases x with
 |dat d=>cases hf
 |lst aA=>cases hf
 |fB aA=>
 obtain⟨kvs',hp,hf⟩:=fZ hf
 dsimp only at hf hp;split at hf
 case isFalse=>cases hf
 rename_i g;cases hf
 refine⟨Z,Θ,ao,C,.im d,e1,_,S.st.sm,hf1,λv H1 k1 f1 R1=>?_⟩
 have B1:=S.step (eE.o9 k1 f1 R1.sm) rfl (by rw[FQ f1 S.im,S.im]) g1;have rd1:RZ H1 d v:=R1.2.same (qK _ _)
 obtain⟨u,as,eu,bx,nd,dj⟩:=B1.ex
 have bx0:=bx
 obtain⟨a,vs,ep,bs,rfl,rfl,h3,h4⟩:=bx
 obtain⟨w,a1,gg1,gg2,gg3,gg4⟩:=h4.at (ie.mp nd).2 hx
 obtain⟨c,us,rfl,rfl,hc,nl,rz⟩:=gg2
 have cm:c∈bs:=gg3 c cX;have ca:c≠a:=λz=>(ie.mp nd).1 (z▸cm)
 refine⟨.ref a,eu,.inr ⟨a,.ref c,rfl,?_,?_⟩⟩
 .have:=n6.k (k:=(fG key:Key)) h3;rw[gg1] at this;exact this
 refine⟨Z,Θ,e1,_,dk,e2,_,B1.st.sm,hf2,λw2 H2 k2 f2 S2 b2=>?_⟩
 have p2:=eE.o9 k2 f2 S2;have B2:=B1.step p2 rfl (by rw[FQ f2 B1.im,B1.im]) g.2.2;have kt:=p2.tups B1.st.sm;have nT:∀b∈a::bs,b∉Θ:=λb m z=>(dj b m).1 (gO.mpr (.inr (.inl z)))
 have dc:o8 H2 c aA us:=hc.keep λo h=>k2.keep _ _ h (nT c (dM _ cm))
 have rz2:gA H2 aA us:=gA.mV kt nl rz;have rd2:RZ H2 d v:=RZ.mV kt QJ rd1;have wZ:∀b∈a::bs,b∉bB Z Θ e2 σ/\H0 b=aj:=λb m=>⟨λz=>(dj b m).1 (f2.sub b z),(dj b m).2⟩
 have nc:NT (H2 c):=(bx0.keep kt λb m o h=>k2.keep _ _ h (nT b m)).nt c (dM _ cm);refine alO hp g.1 dc rz2 rd2 b2 λo us' go1 go2=>q Θ σ _ ?_
 have ku:jE H2 (upd H2 c o):=jE.upd nc;refine B2.write (as':=a::bs) eu nc (wZ c (dM _ cm)).1 (wZ c (dM _ cm)).2 ⟨a,vs,ep,bs,rfl,rfl,?_,?_⟩ nd wZ
 .rw[T4,cP (λz=>ca z.symm)];exact k2.keep _ _ h3 (nT a cX)
 .refine gg4 _ _ (kt.trans ku) (λb m n o' h=>?_) ⟨c,us',rfl,rfl,go1 _ eV,g.2.1,gA.mV ku g.2.1 go2⟩;rw[cP (λz=>n (by rw[z];exact cX))];exact k2.keep _ _ h (nT b (dM _ m))
def tX(j:Nat)(body:m6):List aD->m6
 |[]=>λao C b=>aa (.nx,ao,C,b)
 |d::r=>λao C b=>match body (ao.set j (aa (.im d))) C b with
  |some (.nx,e2,C2,b2)=>tX j body r e2 C2 b2
  |some (.rt v,e2,C2,b2)=>aa (.rt v,e2,C2,b2)
  |_=>aj
def Ae(i j:Nat)(f:FB)(body:m6):m6:=λao C b=>match f ao C with
 |some (.int m,_,C1)=>if(-(2^62)<=m/\m<2^62)/\j≠i then tX j body (gf 0 m.toNat) ao C1 b else aj
 |_=>aj
theorem tB(h:eO ao i=aq)(hy:Gy y=aq):eO (ao.set j (aa y)) i=aq:=by
 unfold eO at h⊢;rw[nR] at h⊢;intro x m
 obtain⟨n,e⟩:=ahk.mp m
 rw[Ds] at e
 obtain⟨z,hz,rfl⟩:=xj.mp e
 rcases get_set hz with⟨rfl,rfl,_⟩|⟨ne,hz⟩
 .simp[hy]
 .exact h _ (lY (i:=n) (by rw[Ds,hz];rfl))
section
variable{K:aZ}{i j:Nat}{Z Θ0 Θ:List aC}{env0 ao:En}{σ0 σ:St}{H0 H:Hp}{C:Ce}{b:eN}
theorem Bm.arh(B:Bm K i Z Θ0 env0 σ0 H0 Θ ao C σ H b)(ne:j≠i)(n:Int):Bm K i Z Θ0 env0 σ0 H0 Θ (ao.set j (aa (.im (.int n)))) C (σ.set j (aa (.int n))) H b:=by
 have S:=B.st.sm;have S':Sm K Z Θ (ao.set j (aa (.im (.int n)))) C (σ.set j (aa (.int n))) H:=S.wR (λ_ e=>nomatch e) (show RZ (er (bB Z Θ ao σ) H) (.int n) (.int n) from rfl);refine B.step ⟨lg.refl _ _,bD.refl _ _,λa m=>?_,S'⟩ (by rw[xq ne]) (by rw[xq ne]) (tB B.sh rfl);rcases uC m with m|⟨⟨d,e⟩,_⟩
 .exact .inl m
 .cases e
end
theorem akB{K:aZ}{f:FB}:∀D σ H,lN K i (Ae i j f body) D σ H->X6 (ae9 (wX K (cF f cL))) (uN j) (lN K i body) D σ H:=by
 rintro D σ H ⟨Z,Θ0,env0,σ0,H0,Θ,ao,C,b,fl,aV,C',b',S,hf,q⟩;unfold Ae at hf;split at hf
 case h_2=>cases hf
 rename_i m e1 C1 h1;split at hf
 case isFalse=>cases hf
 rename_i g
 refine⟨Z,Θ,ao,C,[.int m],e1,C1,S.st.sm,by unfold cF cL;rw[h1],λvs H1 k f S1 b1=>?_⟩
 cases b1 with
 |cons b1 b2=>
 cases b2;have B1:=S.step (eE.o9 k (Fz.refl _) (S.st.sm.go k S1.cell)) rfl rfl S.sh
 refine⟨m,by rw[show _=V.int m from b1],g.1.1,g.1.2,λt mm σ2 H2=>mm=(gf 0 m.toNat).length-t/\t<=(gf 0 m.toNat).length/\∃Θ2 e2 C2 b2,Bm K i Z Θ0 env0 σ0 H0 Θ2 e2 C2 σ2 H2 b2/\tX j body ((gf 0 m.toNat).drop t) e2 C2 b2=aa (fl,aV,C',b'),⟨_,rfl,lC _,Θ,ao,C1,b,B1,hf⟩,?_⟩
 rintro t mm σ2 H2 ⟨rfl,ht,Θ2,e2,C2,b2,B2,hl⟩;have rl:=vX 0 m.toNat;cases hd:(gf 0 m.toNat)[t]? with
 |none=>
  have h2:t=(gf 0 m.toNat).length:=by
   have:=Q7.mp hd;lia
  rw[h2,aac] at hl;cases hl;exact .inl ⟨show m.toNat<=t by lia,q Θ2 σ2 H2 B2⟩
 |some d=>
  have hlt:t<(gf 0 m.toNat).length:=(jO.mp hd).1;have ed:(gf 0 m.toNat).drop t=d::(gf 0 m.toNat).drop (t+1):=by
   rw[Zo hlt]
   obtain⟨_,e⟩:=jO.mp hd
   rw[e]
  rw[ed] at hl
  obtain⟨rfl,_⟩:=tK hd
  unfold tX at hl;refine .inr ⟨show t<m.toNat by lia,λσ' H'=>∃Θ2 e2 C2 b2,Bm K i Z Θ0 env0 σ0 H0 Θ2 e2 C2 σ' H' b2/\tX j body ((gf 0 m.toNat).drop (t+1)) e2 C2 b2=aa (fl,aV,C',b'),λσ' H' h=>⟨(gf 0 m.toNat).length-(t+1),az,rfl,hlt,h⟩,λx H3 y=>?_⟩
  obtain⟨rfl,rfl⟩:=y
  have B3:=B2.arh (j:=j) g.2 (0+(t:Int));show lN K i body _ (σ2.set j (aa (.int (0+(t:Int))))) _;split at hl
  .rename_i e4 C4 b4 h4
   exact⟨Z,Θ0,env0,σ0,H0,Θ2,_,C2,b2,.nx,e4,C4,b4,B3,h4,λΘ5 σ5 H5 B5=>⟨Θ5,e4,C4,b4,B5,hl⟩⟩
  .rename_i v e4 C4 b4 h4;cases hl
   exact⟨Z,Θ0,env0,σ0,H0,Θ2,_,C2,b2,.rt v,_,_,_,B3,h4,q⟩
  .cases hl
theorem Xi{x:Str}{a:Expr}{body:List dI}{i j:Nat}{f:FB}{fb:m6}{p0 p p1 pos:Pos}(hp:Ma (model X.prog X.w) X.A X.env X.xe)(hc:X.calm=aq)(hN:X.N.Nodup)(hi:X.N[j]?=aa x)(hx:Loc X.env.scope x)(hg:Gl X "range")(hm:X.mg "range"=aj)(ha:PE X a (eX X.K f))(hb:je X body (lN X.K i fb))
  (hs1:bR [a] X.env=(aM,eval a X.env)::bR [] X.env:=by rfl)(hs':bR [a] X.env=[(aM,eval a X.env)]:=by rfl)(hf:X.fn x=aq\/X.env.scope.names.lookup x=aa .local:=by first|exact .inl rfl|exact .inr rfl|assumption)
  (hs:∀x,vD (.Call (.Name "range" p) [a] [] p1) X.env x=pure x:=by intro _;rfl):PS X (.For (.Name x p0) (.Call (.Name "range" p) [a] [] p1) body [] pos) (lN X.K i (Ae i j f fb)):=
 (aez hp hc (abG hg hm (dm ha dG hs1) hs') (adq hN hi hx hf) hb hs).weak akB
def JH:List (Str×FE)->En->Ce->Option (eN×En×Ce)
 |[],ao,C=>aa ([],ao,C)
 |(k,f)::r,ao,C=>(f ao C).bind λp=>(sG p.1).bind λx=>(JH r p.2.1 p.2.2).bind λq=>aa ((k,x)::q.1,q.2)
section
variable{K:aZ}{ao:En}{C:Ce}{σ:St}
theorem apd{r:Vl}(h:sG r=aa x)(R:Res K Z Θ ao C σ H H' r v):∃as,qU H' x v as/\(∀a∈as,H a=aj)/\Sm K (as++Z) Θ ao C σ H':=by
 cases r with
 |im d=>
  unfold sG at h;dsimp only at h;split at h
  .rename_i n;cases h
   exact⟨[],⟨rfl,n,R.2.same (qK _ _)⟩,λ_ m=>(nomatch m),R.1⟩
  .cases h
 |ow d=>
  obtain⟨a,rfl,hn,S,rt⟩:=R
  cases d<;>first|cases h|skip
  .unfold sG at h;dsimp only at h;split at h
   .rename_i n;cases h
    obtain⟨vs,e,q⟩:=rt
    exact⟨[a],⟨a,vs,rfl,rfl,e,n,q.same (qK _ _)⟩,λc m=>by rw[gk.mp m];exact hn,S⟩
   .cases h
  .unfold sG at h;dsimp only at h;split at h
   .rename_i n;cases h
    obtain⟨vs,e,q⟩:=rt
    exact⟨[a],⟨a,vs,rfl,rfl,e,n,q.same (qK _ _)⟩,λc m=>by rw[gk.mp m];exact hn,S⟩
   .cases h
 |ce n=>cases h
 |sc ns=>cases h
 |ks ns=>cases h
 |tp=>cases h
theorem anz(S:Sm K Z Θ ao C σ H)(k:bD Θ H H'):jE H H':=λa vs e=>k.keep _ _ e λm=>by
 obtain⟨u,hu,n⟩:=S.cell.dom a m
 rw[e] at hu;cases hu;exact n vs rfl
theorem Sm.af1:∀{as:List aC},Sm K (as++Z) Θ ao C σ H->Sm K Z Θ ao C σ H
 |[],S=>S
 |_::_,S=>Sm.af1 (Sm.pop S)
theorem Sm.ari{p:aC}(S:Sm K Z Θ ao C σ H)(hp:p∈Z)(no:∀vs,o≠.tup vs):Sm K Z Θ ao C σ (upd H p o):=by
 have mp:p∈bB Z Θ ao σ:=fM _ hp;have e:er (bB Z Θ ao σ) (upd H p o)=er (bB Z Θ ao σ) H:=Oz mp;have nd:=S.nd;rw[jF] at nd;have up:∀a,a∈Θ++bV ao σ->upd H p o a=H a:=λa m=>cP λz=>nd.2.2 p hp a m z.symm
 refine⟨S.len,S.nd,λa m=>?_,λi x h=>?_,⟨S.cell.len,λn a ns e1 e2=>by
  rw[up a (fM _ (lY e1))];exact S.cell.at_ n a ns e1 e2⟩⟩
 .by_cases z:a=p
  .subst z;exact⟨o,eV,no⟩
  .rw[cP z];exact S.dom a m
 .obtain⟨v,e1,r⟩:=S.slot i x h
  rw[e]
  refine⟨v,e1,r.same (cH.refl _) λd a ex ev u hu=>?_⟩
  subst ex ev;rw[up a (eF _ (nU.mpr ⟨i,d,h,e1⟩))];exact hu
end
theorem rm.arj(h:rm X pos ks vs l oE):∀{Z:List aC}{ao aV:En}{C C':Ce}{H:Hp}{b:eN}{Q:List (V×V)->Hp->Prop},Sm X.K Z Θ ao C σ H->JH l ao C=aa (b,aV,C')->
  (∀ws as H',bD Θ H H'->Fz ao aV->Sm X.K (as++Z) Θ aV C' σ H'->nH H' b ws as->(∀a∈as,H a=aj)->Q ((b.map (λp=>V.str p.1)).zip ws) H')->Oq oE σ H Q:=by
 induction h with
 |nil=>
  intro Z ao aV C C' H b Q S hf q;cases hf;exact q [] [] H (bD.refl _ _) (Fz.refl _) S ⟨rfl,rfl⟩ λ_ m=>nomatch m
 |@cons k v ks vs z f l oE a b _ ih=>
  intro Z ao aV C C' H b Q S hf q
  obtain⟨⟨r,e1,C1⟩,h1,f1⟩:=fZ hf
  obtain⟨x,h2,f2⟩:=fZ f1
  obtain⟨⟨b2,e2,C2⟩,h3,f3⟩:=fZ f2
  cases f3
  refine⟨Z,Θ,ao,C,r,e1,C1,S,h1,λv1 H1 k1 f1' R=>?_⟩
  obtain⟨a1,g1,g2,S1⟩:=apd h2 R
  refine ih S1 h3 λws as H' k2 f2' S2 bx fr=>?_
  have nT:∀c∈a1,c∉Θ:=λc m=>S1.dZ.2.2.2 c (fM _ m)
  refine q (v1::ws) (a1++as) H' (k1.trans k2) (f1'.trans f2') (S2.perm ?_) ⟨v1,ws,a1,as,rfl,rfl,g1.keep (anz S1 k2) λc m o h=>k2.keep _ _ h (nT c m),bx⟩ λc m=>?_
  .rw[<-kE];exact aha _ ahj
  .rcases cY.mp m with m|m
   .exact g2 c m
   .exact k1.none (fr c m)
def Yo:Option (Fl×En×Ce×eN)->Option (Fl×En×Ce)
 |some (.nx,e,C,_)=>aa (.nx,e,C)
 |some (.rt r,e,C,_)=>aa (.rt r,e,C)
 |_=>aj
def Qn(i:Nat)(l:List (Str×FE))(g:m6):FS:=λao C=>(JH l ao C).bind λq=>if((q.1.map (·.1)).Nodup/\q.1.length<=15)/\eO q.2.1 i=aq/\i<q.2.1.length then Yo (g (q.2.1.set i (aa (.im (fH q.1)))) q.2.2 q.1) else aj
theorem ac4:∀(b:eN)(ws:List V),(b.map (λp=>V.str p.1)).zip ws=((b.map λp=>(fG p.1:Key)).zip ws).map λkv=>(kV kv.1,kv.2)
 |[],_=>rfl
 |_::_,[]=>rfl
 |p::r,w::ws=>by
  rw[dN,dN,GK,GK,dN,ac4 r ws];rfl
theorem ape{x:Str}{ks:List (Option Expr)}{vs:List Expr}{i:Nat}{l:List (Str×FE)}{oE:List (TE×TE)}{rest:List dI}{g:m6}{p0 pos1 pos:Pos}(hN:X.N.Nodup)(hi:X.N[i]?=aa x)(hx:Loc X.env.scope x)(D:rm X pos1 ks vs l oE)(hr:je X rest (lN X.K i g))(h0:ks≠[]:=by simp)(h15:ks.length<=15:=by decide)
  (hs:sW (.Dict ks vs pos1) (aa (.Name x p0)) pos.line X.env=pure aM:=by rfl)(hf:X.fn x=aq\/X.env.scope.names.lookup x=aa .local:=by first|exact .inl rfl|exact .inr rfl|assumption):
  je X (.Assign [.Name x p0] (.Dict ks vs pos1) pos::rest) (tS X.K (Qn i l g)):=(Ui (Oj hN hi hx (adA D.Dk D.len.1 D.len.2 h0 h15) hs hf) hr).weak λEn σ H aY=>by
 obtain⟨Z,Θ,ao,C,fl,aV,C',S,hf,q⟩:=aY
 obtain⟨⟨b,e1,C1⟩,h1,hg⟩:=fZ hf
 dsimp only at hg;split at hg
 case isFalse=>cases hg
 rename_i hn;intro p hp;refine D.arj (S.push hp (.dK [] 0) (λ_ z=>nomatch z)) h1 λws as H2 k2 f2 S2 bx fr=>?_
 have mX:bD Θ H H2:=(bD.upd hp).trans k2;have np:p∉Θ:=S2.dZ.2.2.2 p (eF _ cX);have QG:H2 p=aa (.dK [] 0):=k2.keep _ _ eV np;have lw:=bx.len;have nd:(((b.map λp=>(fG p.1:Key)).zip ws).map (·.1)).Nodup:=by
  rw[Rp (by rw[bJ,lw];exact cz _)];have e:(b.map λp=>(fG p.1:Key))=(b.map (·.1)).map λz=>(fG z:Key):=by rw[fD];rfl
  rw[e];exact GR.mpr (hn.1.1.imp λh e=>h (aa2 e))
 refine⟨QG,(b.map λp=>(fG p.1:Key)).zip ws,ac4 b ws,by rw[Be,bJ];have:=hn.1.2;lia,λep=>?_⟩
 rw[show zM [] ((b.map λp=>(fG p.1:Key)).zip ws)=(b.map λp=>(fG p.1:Key)).zip ws from ab8 (aA:=[]) nd];have zn:=S2.dZ.1;rw[jF] at zn;have pa:p∉as:=λm=>zn.2.2 p m p cX rfl
 have ntp:NT (H2 p):=⟨_,QG,λ_ z=>nomatch z⟩
 generalize hH:upd H2 p (.dK ((b.map λp=>(fG p.1:Key)).zip ws) ep)=H3;have S3:Sm X.K (as++p::Z) Θ e1 C1 σ H3:=by
  rw[<-hH];exact S2.ari (eF _ cX) λ_ z=>nomatch z
 have bx3:uT H3 (.ref p) (p::as) b:=⟨p,ws,ep,as,rfl,rfl,by rw[<-hH,eV],by
  rw[<-hH];refine bx.keep (jE.upd ntp) λc m o h=>?_
  have ne:c≠p:=λz=>pa (by rw[<-z];exact m)
  rw[cP ne];exact h⟩
 have S4:Sm X.K Z Θ e1 C1 σ H3:=S3.af1.pop;have dZ:=S3.nd;have djp:∀c∈p::as,c∉bB Z Θ e1 σ:=λc m z=>by
  have m':c∈as++[p]:=by
   rcases bW.mp m with rfl|m
   .exact eF _ cX
   .exact fM _ m
  have n2:((as++[p])++bB Z Θ e1 σ).Nodup:=by
   have:(as++[p])++bB Z Θ e1 σ=bB (as++p::Z) Θ e1 σ:=by
    show(as++[p])++(Z++(Θ++bV e1 σ))=(as++p::Z)++(Θ++bV e1 σ)
    simp
   rw[this];exact dZ
  rw[jF] at n2;exact n2.2.2 c m' c z rfl
 have rz:RZ (er (bB Z Θ e1 σ) H3) (fH b) (.ref p):=(bx3.keep (jE.er S4.yN) λc m o h=>by
  unfold L2.er;rw[bH (djp c m)];exact h).rz
 have S5:Sm X.K Z Θ (e1.set i (aa (.im (fH b)))) C1 (σ.set i (aa (.ref p))) H3:=S4.wR (λ_ e=>nomatch e) rz;have af2:∀a∈bV (e1.set i (aa (.im (fH b)))) (σ.set i (aa (.ref p))),a∈bV e1 σ:=λa m=>by
  rcases uC m with m|⟨⟨d,e⟩,_⟩
  .exact m
  .cases e
 have kf:bD Θ H H3:=⟨λa o ha na=>by
  rw[<-hH,cP (pX ha hp)];exact mX.keep _ _ ha na,λa ha=>by
  rw[<-hH];by_cases z:a=p
  .exact absurd (z▸hp) ha
  .rw[cP z];exact mX.2 a ha⟩
 have il:i<σ.length:=by rw[S4.len];exact hn.2.2
 have B:Bm X.K i Z Θ ao σ H Θ (e1.set i (aa (.im (fH b)))) C1 (σ.set i (aa (.ref p))) H3 b:=by
  refine⟨⟨lg.refl _ _,uD kf,λa m=>.inl (f2.own.subset (af2 a m)),S5⟩,by rw[Kf hn.2.2],uF hn.2.1,.ref p,p::as,by rw[Kf il],bx3,ie.mpr ⟨pa,zn.1⟩,λc m=>⟨λz=>djp c m ?_,?_⟩⟩
  .rcases gO.mp z with z|z|z
   .exact gO.mpr (.inl z)
   .exact gO.mpr (.inr (.inl z))
   .exact gO.mpr (.inr (.inr (af2 c z)))
  .rcases bW.mp m with rfl|m
   .exact hp
   .exact(bD.upd (Θ:=Θ) (o:=.dK [] 0) hp).none (fr c m)
 show lN X.K i g _ (σ.set i (aa (.ref p))) H3;cases QK:g (e1.set i (aa (.im (fH b)))) C1 b with
 |none=>rw[QK] at hg;cases hg
 |some y=>
  obtain⟨f0,e9,C9,b9⟩:=y
  rw[QK] at hg;cases f0 with
  |nx=>
   cases hg
   exact⟨Z,Θ,ao,σ,H,Θ,_,C1,b,.nx,_,_,b9,B,QK,λΘ' σ' H' B'=>q Θ' σ' H' B'.st⟩
  |rt r=>
   cases hg
   exact⟨Z,Θ,ao,σ,H,Θ,_,C1,b,.rt r,_,_,b9,B,QK,q⟩
  |bk=>cases hg
  |ct=>cases hg
theorem akC{α β:Type}{R:α->β->Prop}{as:List α}{bs:List β}(h:Paired R as bs):∀(i:Nat)(q:β),bs[i]?=aa q->∃p,as[i]?=aa p/\R p q:=by
 induction h with
 |nil=>intro i q e;simp at e
 |@cons p q' ps qs hr t ih=>
  intro i q e;cases i with
  |zero=>
   simp at e;subst e
   exact⟨p,rfl,hr⟩
  |succ i=>
   obtain⟨x,g1,g2⟩:=ih i q (by simpa using e)
   exact⟨x,by simpa using g1,g2⟩
theorem Wd{X:Cx}{σ:St}{H:Hp}{a:aC}{ep:Nat}(I:Inv X au σ H s)(h:H a=aa (.dT aA ep)):
  (a==sJ)=aM/\∃es,uX s.heap a es ep/\es.size=aA.length/\∀(i:Nat)(e:Tt),es[i]?=aa e->∃kv b,aA[i]?=aa kv/\e.key=.ref b/\H b=aa (.tup (kv.1.map kV)):=by
 obtain⟨z,lo,xs,rel,o,es,h1,h2,h3,h4,h5⟩:=(show f9 X.prog X.w H s.heap a (.dT aA ep) from I.hok a _ h)
 have l2:=Paired.length rel
 refine⟨lo,es,⟨o,h1,h2,h3⟩,?_,λi e he=>?_⟩
 .rw[<-m9,h4,bJ,l2]
 .have he:es.toList[i]?=aa e:=by rw[Kg];exact he
  rw[h4,jw] at he
  obtain⟨q,hq,rfl⟩:=xj.mp he
  obtain⟨kv,g1,g2⟩:=akC rel i q hq
  exact⟨kv,q.2.1,g1,rfl,g2.2.1⟩
theorem anA{K:aZ}{tg:Expr}(a it:aC)(aA:List (List Key×V))(ep:Nat):Turn P w K tg (Za a aA ep) [it] it (λi h=>h.IsKeyIter it a i aA.length ep):=
 akx (λX au σ H s _ _ I i hg=>by
  obtain⟨lo,es,raw,hn,hk⟩:=Wd I hg.1
  have hi:i<es.size:=by rw[hn];exact hg.2
  obtain⟨kv,b,e1,e2,e3⟩:=hk i es[i] (lX hi)
  exact⟨es,raw,hn,es[i],.ref b,lX hi,by rw[e2];exact rfl,rfl,kv,b,e1,rfl,e3⟩) λX au σ H s _ _ I i hg=>by
  obtain⟨lo,es,raw,hn,hk⟩:=Wd I hg.1
  exact⟨es,raw,hn,hg.2⟩
def aqo(tl:TE):TI:=λσ H R=>tl σ H λx H1=>∃a aA ep,x=.ref a/\H1 a=aa (.dT aA ep)/\R (Za a aA ep) H1
theorem alP(hl:PE X l tl):PI X tg l (aqo tl):=by
 intro au s σ H R I h;refine bY (hl au s σ H _ I h) λv s1 aY=>?_
 obtain⟨x,H1,I1,r1,a,aA,ep,e,ha,q⟩:=aY
 subst e;cases r1
 obtain⟨lo,es,raw,hn,hk⟩:=Wd I1 ha
 refine acy lo raw ?_
 refine⟨s1.heap.objs.size,[s1.heap.objs.size],_,_,H1,rfl,I1.kept (t':=s1.toks) λb o e=>cD _ e,anA a _ aA ep,⟨_,gj _ rfl,rfl,by rw[<-hn];rfl⟩,λb hb=>?_,q⟩
 have e:b=s1.heap.objs.size:=by simpa using hb
 subst e;exact I1.wO (cz _) (I1.hok.fresh (cz _))
def J7:aD->Option (List aD)
 |.dict aA=>if aA≠[]/\(dh jC aA).isSome=aq then aa (aA.map (·.1)) else aj
 |_=>aj
theorem apf(h:J7 d=aa aK):∃aA ks,d=.dict aA/\aA≠[]/\dh jC aA=aa ks/\aK=aA.map (·.1):=by
 unfold J7 at h;split at h
 .split at h
  .rename_i hs;cases h
   obtain⟨ks,hk⟩:=xg.mp hs.2
   exact⟨_,ks,rfl,hs.1,hk,rfl⟩
  .cases h
 .cases h
theorem o8.ark(da:o8 H a aA vs)(ne:aA≠[])(hk:dh jC aA=aa ks):∃ep,H a=aa (.dT (ks.zip vs) ep):=by
 rcases da with⟨ks',h1,h2⟩|⟨ks',⟨_,h1⟩,h2⟩
 .exact absurd (vV h1 hk) ne
 .rw[hk] at h1;cases h1;exact h2
theorem aeg:∀{ds:List aD}{ks:List Key},keysOf ds=aa ks->cu E ds (ks.map kV)
 |[],ks,h=>by cases h;rfl
 |d::ds,ks,h=>by
  unfold keysOf at h;split at h
  .rename_i k t h1 h2;cases h
   refine⟨kV k,t.map kV,rfl,?_,aeg h2⟩
   cases d<;>first|cases h1|skip
   .rfl
   .rfl
  .cases h
theorem aeh:∀{aA:List (aD×aD)}{ks:List κ}{vs:List V},dh f aA=aa ks->ks.length=vs.length->∀(i:Nat)(d:aD),(aA.map (·.1))[i]?=aa d->∃kv,(ks.zip vs)[i]?=aa kv/\f d=aa kv.1
 |[],ks,vs,h,_,i,d,e=>by simp at e
 |(p,x)::aA,ks,vs,h,hl,i,d,e=>by
  unfold dh at h;split at h
  .rename_i k t h1 h2;cases h;cases vs with
   |nil=>simp at hl
   |cons v vs=>
    cases i with
    |zero=>
     simp at e;subst e
     exact⟨(k,v),rfl,h1⟩
    |succ i=>
     obtain⟨kv,g1,g2⟩:=aeh (vs:=vs) h2 (by simpa using hl) i d (by simpa using e)
     exact⟨kv,by simpa using g1,g2⟩
  .cases h
theorem aqp(ha:er T H a=aa (.dT (ks.zip vs) ep))(hk:dh jC aA=aa ks)(hl:vs.length=aA.length):yF P T H (Za a (ks.zip vs) ep) (aA.map (·.1)):=λi H2 P2 s1 s2 n=>by
 have h2:H2 a=aa (.dT (ks.zip vs) ep):=jh (s2 _ _ ha);have l1:=uz hk;have l2:(ks.zip vs).length=aA.length:=by rw[Be,l1,hl,aaY]
 refine⟨λd hd=>?_,λhi=>⟨h2,by rw[l2,hi,bJ];exact cz _⟩⟩
 have hi:i<aA.length:=by
  obtain⟨h,_⟩:=jO.mp hd
  simpa using h
 refine⟨⟨h2,by rw[l2];exact hi⟩,λx H3 y=>?_⟩
 obtain⟨rfl,kv,b,e1,rfl,hb⟩:=y
 obtain⟨kv',e2,e3⟩:=aeh (vs:=vs) hk (by rw[l1,hl]) i d hd
 rw[e1] at e2;cases e2;cases d<;>first|cases e3|skip
 refine⟨cH.refl _,b,_,rfl,?_,aeg e3⟩
 unfold L2.er;rw[bH]
 .exact hb
 .intro m
  obtain⟨u,hu,nt⟩:=n b m
  rw[hb] at hu;cases hu;exact nt _ rfl
def QL(f:FB):FI:=λao C=>(f ao C).bind λp=>(J7 p.1).map λaK=>(aK,p.2)
theorem aqq(h:PE X e (eX X.K f)):PI X tg e (tI X.K aq (QL f)):=(alP h).weak λσ H R aY=>by
 obtain⟨Z,Θ,ao,C,aK,aV,C',S,hf,q⟩:=aY
 obtain⟨p,h1,hf⟩:=fZ hf
 obtain⟨its',h2,hf⟩:=xj.mp hf
 obtain⟨d,e1,C1⟩:=p
 cases hf
 obtain⟨aA,ks,rfl,ne,hk,rfl⟩:=apf h2
 refine⟨Z,Θ,ao,C,_,aV,C',S,h1,λv H1 k f S1 b=>?_⟩
 obtain⟨a,vs,rfl,da,r⟩:=b
 obtain⟨ep,ha⟩:=da.ark ne hk
 exact⟨a,_,ep,rfl,jh ha,q _ H1 k f S1 (aqp ha hk (Es r))⟩
theorem abA(I:Nat->En->Ce->eN->Prop):∀(aK:List aD)(k:Nat)(ao:En)(C:Ce)(b:eN),I k ao C b->
  (∀i d ao C b,aK[i]?=aa d->I (k+i) ao C b->∃aV C' b',body (ao.set j (aa (.im d))) C b=aa (.nx,aV,C',b')/\I (k+i+1) aV C' b')->
  ∃aV C' b',tX j body aK ao C b=aa (.nx,aV,C',b')/\I (k+aK.length) aV C' b'
 |[],k,ao,C,b,h,_=>⟨ao,C,b,rfl,h⟩
 |d::r,k,ao,C,b,h,st=>by
  obtain⟨e1,C1,b1,g1,g2⟩:=st 0 d ao C b rfl h
  obtain⟨e2,C2,b2,g3,g4⟩:=abA I r (k+1) e1 C1 b1 g2 λi d ao C b hd hI=>by
   have e:k+1+i=k+(i+1):=az;rw[e] at hI⊢;exact st (i+1) d ao C b (by simpa using hd) hI
  refine⟨e2,C2,b2,?_,?_⟩
  .unfold tX;rw[g1];exact g3
  .rw[dW,show k+(r.length+1)=k+1+r.length by lia];exact g4
theorem T5(I:Nat->En->Ce->eN->Prop)(h:I 0 ao C b)
  (st:∀i d ao C b,aK[i]?=aa d->I i ao C b->∃aV C' b',body (ao.set j (aa (.im d))) C b=aa (.nx,aV,C',b')/\I (i+1) aV C' b'):
  ∃aV C' b',tX j body aK ao C b=aa (.nx,aV,C',b')/\I aK.length aV C' b':=by
 have:=abA I aK 0 ao C b h λi d ao C b hd hI=>by
  rw[zc] at hI⊢;exact st i d ao C b hd hI
 rw[zc] at this;exact this
theorem tM(h:f ao C b=aa (.nx,e1,C1,b1)):oY f g ao C b=g e1 C1 b1:=by
 unfold oY;rw[h]
abbrev cI(n:Int):FB:=aG (bM (.int n))
abbrev cS(s:String):FB:=aG (bM (.str (bz s)))
theorem ac5:∀(b:eN)(k:Str),((b.map λp=>(p.1,p.2.tree)).find? λp=>decide (p.1=k)).map (·.2)=(gC b k).map Bi.tree
 |[],_=>rfl
 |p::r,k=>by
  rw[dN,rC,gC];by_cases h:p.1=k
  .rw[gr h,bG h];rfl
  .rw[iR h,bH h];exact ac5 r k
theorem mO(h:gC b k=aa x)(hd:x.tree=d):bf (fH b) (.str k)=aa (.im d):=by
 have e:Gg b=bQ (b.map λp=>(p.1,p.2.tree)):=by
  unfold Gg bQ;rw[fD];rfl
 unfold bf qX fH;simp only[e,TV,ac5,h,oF,hd]
theorem anB{α:Type}{f:α->aD}{l:List α}{k:Int}(h0:0<=k)(h1:k<l.length):∃z,z∈l/\l[k.toNat]?=aa z/\fL (l.map f) k=aa (f z):=by
 obtain⟨x,e1,e2⟩:=Xc (xs:=l.map f) h0 (by rw[bJ];exact h1)
 rw[jw] at e2;cases hz:l[k.toNat]? with
 |none=>rw[hz] at e2;cases e2
 |some z=>
  rw[hz] at e2;cases e2
  exact⟨z,lY hz,rfl,e1⟩
theorem zA(ps:List (Str×Str))(h:ps.length<64):qH [.dict (bQ (cO ps))]=aa (.ow (.list ((mG strLt (ps.map (·.1))).map .str))):=by
 have e:(bQ (cO ps)).map (·.1)=(ps.map (·.1)).map iD:=by
  unfold bQ cO;rw[fD,fD,fD];rfl
 show((strsOf ((bQ (cO ps)).map (·.1))).bind _)=_
 rw[e,SN,jx,gr (by rw[bJ];exact h)];rfl
theorem aei{α:Type}{f:α->Int}:∀{l m:List α},l.Perm m->(l.map f).Pairwise (·<·)->(m.map f).Pairwise (·<·)->l=m
 |[],m,p,_,_=>(List.Perm.nil_eq p)
 |a::l,[],p,_,_=>by have:=p.length_eq;simp at this
 |a::l,b::m,p,h,g=>by
  rw[dN,vC] at h g;have ha:a=b:=by
   rcases bW.mp (p.mem_iff.mp cX) with e|e
   .exact e
   .rcases bW.mp (p.mem_iff.mpr (cX (a:=b) (l:=m))) with e2|e2
    .exact e2.symm
    .have h1:=g.1 _ (dD.mpr ⟨a,e,rfl⟩);have h2:=h.1 _ (dD.mpr ⟨b,e2,rfl⟩);lia
  subst ha;rw[aei (ais a |>.mp p) h.2 g.2]
theorem ab9{α:Type}{D:α->aD}{f:α->Int}{ks:α->List Key}(aP:List α)(h64:aP.length<64)
  (hk:∀r,rR (D r)=mC (f r)::ks r)(hs:∀r,qp (D r)=aa (aq::sh))(hi:∀r l,intsOf (D r::l)=aj)(ht:∀r l,strsOf (D r::l)=aj)(hsh:∀r,(mC (f r)::ks r:List Key).map cA=aq::sh)
  (up:(aP.map f).Pairwise (·<·)):uE [.list (aP.map D)]=aa (.ow (.list (aP.map D))):=by
 cases aP with
 |nil=>rfl
 |cons r rs=>
  have hall:(((r::rs).map D).all λp=>decide (qp p=aa (aq::sh)))=aq:=by
   rw[nR];intro p hp
   obtain⟨q,_,rfl⟩:=dD.mp hp
   exact gr (hs q)
  have hs':Jm ((r::rs).map D)=aa (qR ((r::rs).map D)):=by
   unfold Jm;rw[bG (by rw[bJ];exact h64),dN,hi,ht];simp only[hs r];exact bG hall
  obtain⟨rs',p1,p2⟩:=aa0 (ab0 (ds:=(r::rs).map D) λd hd=>by obtain⟨p,_,rfl⟩:=dD.mp hd;rw[hs];rfl)
  have ek:rs'.map (λx=>(mC (f x)::ks x:List Key))=ql (((r::rs).map D).map rR):=by
   have e1:(rs'.map D).map rR=rs'.map (λx=>(mC (f x)::ks x:List Key)):=by
    rw[fD];exact xu λx _=>hk x
   have e2:(qR ((r::rs).map D)).map rR=ql (((r::rs).map D).map rR):=by
    unfold qR;rw[fD]
    refine(xu λk _=>?_).trans (DW _)
    show(keysOf (k.map mZ)).getD []=k
    rw[HJ];rfl
   rw[<-e1,<-p2,e2]
  have upk:=anw (ks:=((r::rs).map D).map rR) (sh:=aq::sh) λk hk'=>by
   obtain⟨d,hd,rfl⟩:=dD.mp hk'
   obtain⟨x,_,rfl⟩:=dD.mp hd
   rw[hk];exact hsh x
  rw[<-ek,GR] at upk;have nd:((r::rs).map f).Nodup:=up.imp λh=>aiZ h
  have Zd:(rs'.map f).Nodup:=(p1.map f).nodup_iff.mpr nd;have up':(rs'.map f).Pairwise (·<·):=by
   rw[GR]
   refine(upk.and (GR.mp Zd)).imp λ{x y} hxy=>?_
   have:=hxy.1;unfold dO at this;rw[bH (λz=>hxy.2 (RW z).symm)] at this;have this:decide (f y<f x)=aM:=this;have h3:=of_decide_eq_false this;have h4:=hxy.2;lia
  have e:=aei p1 up' up;subst e;unfold uE HH;simp only[hs',p2,oF]
theorem ac6(h1:fe ao C=aa (.im d,e1,C1))(nd:jf d=aq)(s1:eO e1 i=aq)(h2:fk e1 C1=aa (dk,e2,C2))(h3:gC b key=aa (.fB aA))(h4:putD aA dk d=aa kvs')(hl:aA.length<1000000)(n':oA kvs'=aq)(s2:eO e2 i=aq)(hb:setB b key (.fB kvs')=b'):
  FW i key fk fe ao C b=aa (.nx,e2.set i (aa (.im (fH b'))),C2,b'):=by
 subst hb;unfold FW Gz;simp only[h1,jx,s1,if_true,nd,h2,h3];unfold af0;simp only[h4,jx];exact bG ⟨hl,n',s2⟩
theorem anC(h1:f ao C=aa (r,e1,C1))(hx:sG r=aa x)(hk:key∉b.map (·.1))(hl:b.length<1000000)(s1:eO e1 i=aq):
  yJ i key f ao C b=aa (.nx,e1.set i (aa (.im (fH (b++[(key,x)])))),C1,b++[(key,x)]):=by
 unfold yJ;simp only[h1,jx,hx];exact bG ⟨hk,hl,s1⟩
theorem aej:∀{b:eN}{k:Str},gC b k=aj->k∉b.map (·.1)
 |[],_,_,m=>nomatch m
 |p::r,k,h,m=>by
  unfold gC at h;split at h
  .cases h
  .rename_i n;rcases bW.mp m with e|m
   .exact n e.symm
   .exact aej h m
theorem Je{i:Nat}{f:FE}{b:eN}{r:Vl}{x:Bi}(h1:f ao C=aa (r,e1,C1))(hx:sG r=aa x)(s1:eO e1 i=aq)(hk:gC b key=aj:=by rfl)(hl:Nat.ble b.length 15=aq:=by rfl):
  yJ i key f ao C b=aa (.nx,e1.set i (aa (.im (fH (b++[(key,x)])))),C1,b++[(key,x)]):=anC h1 hx (aej hk) (by have:=ZG hl;lia) s1
theorem anD(h3:gC b key=aa (.lst ds))(h1:f ao C=aa (.im d,e1,C1))(nd:jf d=aq)(hl:ds.length<1000000)(s1:eO e1 i=aq)(hb:setB b key (.lst (ds++[d]))=b'):
  JG i key f ao C b=aa (.nx,e1.set i (aa (.im (fH b'))),C1,b'):=by
 subst hb;unfold JG;simp only[h3,h1,jx];unfold afZ Gz;simp only[nd,if_true,jx];exact bG ⟨hl,s1⟩
theorem Nz{f:FE}{b:eN}{r:Vl}(h1:f ao C=aa (r,e1,C1))(hj:j≠i)(s1:eO (e1.set j (aa r)) i=aq):u5 i j f ao C b=aa (.nx,e1.set j (aa r),C1,b):=by
 unfold u5;simp only[h1,jx];exact bG ⟨hj,s1⟩
theorem We(h1:f ao C=aa (.int m,e1,C1))(hj:j≠i)(m0:-1000000<=m)(m1:m<=1000000):Ae i j f body ao C b=tX j body (gf 0 m.toNat) ao C1 b:=by
 unfold Ae;simp only[h1];exact bG ⟨az,hj⟩
theorem anE(h:JH l ao C=aa (b,e1,C1))(nd:(b.map (·.1)).Nodup)(hl:b.length<=15)(sh:eO e1 i=aq)(hi:i<e1.length):Qn i l g ao C=Yo (g (e1.set i (aa (.im (fH b)))) C1 b):=by
 unfold Qn;simp only[h,jx];exact bG ⟨⟨nd,hl⟩,sh,hi⟩
theorem oR(h:f ao C=aa (.nx,e1,C1)):bO f g ao C=g e1 C1:=by
 unfold bO;rw[h]
theorem anF(rs:List jr)(p:Str)(s:Int)(ss:List jH):sr rs p s ss≠[]:=by
 unfold sr;split
 .rename_i h;intro e;rw[ahx] at e;rw[e] at h;cases h
 .exact λe=>List.cons_ne_nil _ _ (List.append_eq_nil_iff.mp e).2
theorem aek:∀rs:List jr,oA (eU rs)=aq
 |[]=>rfl
 |r::rs=>by
  show(dY (r.2.2.map cQ)&&oA (eU rs))=aq
  rw[aek rs,Mj];rfl
theorem anG{os:List Str}(h:Over f z os):∀y∈os,∃w,f y=aa w:=by
 induction h with
 |stop _=>exact λy hy=>absurd hy iT
 |step h _ ih=>
  intro y hy;rcases bW.mp hy with rfl|hy
  .exact⟨_,h⟩
  .exact ih y hy
theorem aqr(hN:Names zs)(hP:jR zs ps)(h:y∈up ps z):y∈ps.map (·.1):=by
 obtain⟨w,e⟩:=anG (Wa hN hP z) y h
 exact dD.mpr ⟨(y,w),(uw (DX hN hP)).mp e,rfl⟩
theorem Wf(ps:List (Str×Str)):jc [.dict (bQ (cO ps))]=aa (.im (.int ps.length)):=by
 have:JD (.dict (bQ (cO ps)))=aa ps.length:=by
  show(if(dh fW (bQ (cO ps))).isSome then aa (bQ (cO ps)).length else aj)=_
  rw[MK];unfold bQ cO;rw[bJ,bJ];rfl
 unfold jc;simp only[this];rfl
theorem apg{α:Type}(D:α->aD){xs:List α}(h:a<=b)(hb:b<=xs.length):rZ (xs.map D) (aa (a:Int)) (aa (b:Int))=((xs.drop a).take (b-a)).map D:=by
 unfold rZ;rw[bJ,HT.Vz,HT.Vz,aal (show a<=xs.length by lia),aal hb,aiH,List.map_drop]
theorem Wg{α:Type}{D:α->aD}{R:Nat->α->Prop}:∀{ys:List aD}{k:Nat},(∀i y,ys[i]?=aa y->∃r,y=D r/\R (k+i) r)->∃l:List α,ys=l.map D/\∀i r,l[i]?=aa r->R (k+i) r
 |[],k,_=>⟨[],rfl,λi r e=>by simp at e⟩
 |y::ys,k,h=>by
  obtain⟨r,rfl,hr⟩:=h 0 y rfl
  obtain⟨l,rfl,hl⟩:=Wg (ys:=ys) (k:=k+1) λi z hz=>by
   rw[show k+1+i=k+(i+1) by lia];exact h (i+1) z (by simpa using hz)
  refine⟨r::l,rfl,λi z hz=>?_⟩
  cases i with
  |zero=>cases hz;exact hr
  |succ i=>
   rw[show k+(i+1)=k+1+i by lia];exact hl i z (by simpa using hz)
theorem ael{α:Type}{f:α->Int}{l:List α}(h:∀(i:Nat)(r:α),l[i]?=aa r->f r=(i:Int)):(l.map f).Pairwise (·<·):=by
 rw[GR,Av];intro i j hi hj c;rw[h i _ (jb hi),h j _ (jb hj)];lia
theorem anH{α:Type}{l:List α}{x:α}{r:α}(e:(l++[x])[i]?=aa r):l[i]?=aa r\/(i=l.length/\r=x):=by
 by_cases hi:i<l.length
 .rw[pB hi] at e;exact .inl e
 .rw[qx az] at e;by_cases h0:i-l.length=0
  .rw[h0] at e;cases e;exact .inr ⟨az,rfl⟩
  .rw[Dr (by simp;lia)] at e;cases e
structure j0 where
 ps:List (Str×Str)
 u:Int
 rs:List jr
 pp:List Str
 mn:Str
 ss:List Int
 rk:List jk
 lv:List nY
def gW(x:j0):eN:=[(bz "parts",.fB (bQ (cO x.ps))),(bz "unit",.dat (.int x.u)),(bz "rules",.fB (eU x.rs)),(bz "people",.lst (x.pp.map .str)),(bz "main",.dat (.str x.mn)),(bz "sums",.lst (x.ss.map .int)),(bz "ranks",.lst (x.rk.map jU)),(bz "leaves",.lst (x.lv.map dz))]
def cW(x:j0):aD:=fH (gW x)
structure nF(zs:List Str)(x:j0):Prop where
 names:Names zs
 parts:jR zs x.ps
 p1:1<=x.ps.length
 p8:x.ps.length<=8
 u0:0<=x.u
 u1:x.u<=4999
 rules:∀r∈x.rs,yf (x.ps.map (·.1)) r
 pP:x.rs.length<=10
 r1:x.rs≠[]
 unlike:(x.rs.map qZ).Nodup
 Ao:2<=x.pp.length
 CW:x.pp.length<=12
 J8:x.pp.Nodup
 su:∀z∈x.pp,z∈zs
 main:x.mn∈x.ps.map (·.1)
 ss6:x.ss.length=6
 ssb:∀s∈x.ss,0<=s/\s<=1000000000
 ranks:∀r∈x.rk,Jc zs (x.ps.map (·.1)) r
 r20:x.rk.length<=20
 J4:(x.rk.map (·.1)).Pairwise (·<·)
 leaves:∀r∈x.lv,Et zs (x.ps.map (·.1)) r
 qu:x.lv.length<=16
 J9:(x.lv.map (·.1)).Pairwise (·<·)
theorem NB(x:j0):bf (cW x) (.str (bz "parts"))=aa (.im (.dict (bQ (cO x.ps)))):=mO (b:=gW x) rfl rfl
theorem aph(x:j0):bf (cW x) (.str (bz "unit"))=aa (.im (.int x.u)):=mO (b:=gW x) rfl rfl
theorem NK(x:j0):bf (cW x) (.str (bz "rules"))=aa (.im (.dict (eU x.rs))):=mO (b:=gW x) rfl rfl
theorem Vb(x:j0):bf (cW x) (.str (bz "people"))=aa (.im (.list (x.pp.map .str))):=mO (b:=gW x) rfl rfl
theorem api(x:j0):bf (cW x) (.str (bz "main"))=aa (.im (.str x.mn)):=mO (b:=gW x) rfl rfl
theorem aem(x:j0):bf (cW x) (.str (bz "ranks"))=aa (.im (.list (x.rk.map jU))):=mO (b:=gW x) rfl rfl
theorem ac7(x:j0):bf (cW x) (.str (bz "leaves"))=aa (.im (.list (x.lv.map dz))):=mO (b:=gW x) rfl rfl
theorem Vc(x:j0):gC (gW x) (bz "parts")=aa (.fB (bQ (cO x.ps))):=rfl
theorem anI(x:j0):gC (gW x) (bz "sums")=aa (.lst (x.ss.map .int)):=rfl
structure jN(e:Nat)(d:aD):Prop where
 lay:d.canLay0=aq
 dep:d.depth<=e
 nd:qW d=aq
theorem jN.mono(h:jN e d)(he:e<=e'):jN e' d:=⟨h.lay,mq h.dep he,h.nd⟩
theorem tQ(i:Int):jN 0 (.int i):=⟨by simp[KJ],by simp[K3],rfl⟩
theorem anJ(i:Bool):jN 0 (.bool i):=⟨by simp[KJ],by simp[K3],rfl⟩
theorem ae4(h:aaZ z=aq):jN 0 (.str z):=⟨by simpa[KJ] using h,by simp[K3],rfl⟩
theorem Wh(h:nameB z=aq):jN 0 (.str z):=ae4 (ajF h)
theorem Xj:∀{ds:List aD},(∀d∈ds,jN e d)->Z7 ds=aq/\aam ds<=e/\Ac ds=aq
 |[],_=>⟨by simp[Z7],by simp[aam],rfl⟩
 |d::ds,h=>by
  obtain⟨h1,h2,h3⟩:=Xj λx hx=>h x (dM _ hx)
  have g:=h d cX
  refine⟨by simp[Z7,g.lay,h1],?_,?_⟩
  .simp only[aam];have:=g.dep;lia
  .show(qW d&&Ac ds)=aq
   rw[g.nd,h3];rfl
theorem tR(h:∀d∈ds,jN e d):jN (e+1) (.tuple ds):=by
 obtain⟨h1,h2,h3⟩:=Xj h
 exact⟨by simpa[KJ] using h1,by simp[K3];lia,h3⟩
theorem O6(h:∀d∈ds,jN e d):jN (e+1) (.list ds):=by
 obtain⟨h1,h2,h3⟩:=Xj h
 exact⟨by simpa[KJ] using h1,by simp[K3];lia,h3⟩
theorem jN.shaped(h:jN e d)(he:e<=64):nP d=aq:=by
 unfold nP;rw[h.lay,gr (mq h.dep he)];rfl
theorem acd(h:jN e d)(he:e<=64)(hf:lU d=aM):jl d d=aa (.im (.bool aq)):=by
 have s:=h.shaped he;have n:=h.nd;have e1:yO d d=aa aq:=by
  have:yO d d=if qW d&&qW d&&(nP d&&nP d) then aa (Br d d) else aj:=by
   cases d<;>first|rfl|cases hf
  rw[this,n,s,PySem.SeqAt.eqv_refl d h.lay];rfl
 unfold jl;rw[e1];rfl
theorem eq_nil(h:jN e (.list ds))(he:e<=64):yO (.list ds) (.list [])=aa ds.isEmpty:=by
 have s2:nP (.list [])=aq:=(O6 (e:=0) (ds:=[]) λ_ m=>nomatch m).shaped aR
 show(if qW (.list ds)&&qW (.list [])&&(nP (.list ds)&&nP (.list [])) then aa (Br (.list ds) (.list [])) else aj)=_
 rw[h.nd,h.shaped he,s2];show aa (Br (.list ds) (.list []))=_;cases ds<;>simp[Br,PyData.eqvAll]
theorem Yp(h:jN e (.list ds))(he:e<=64):oh (.list ds) (.list [])=aa (.im (.bool (!ds.isEmpty))):=by
 unfold oh;rw[eq_nil h he];rfl
theorem enil(h:jN e (.list ds))(he:e<=64):jl (.list ds) (.list [])=aa (.im (.bool ds.isEmpty)):=by
 unfold jl;rw[eq_nil h he];rfl
theorem Wi(l:List Int):jN 1 (.list (l.map .int)):=O6 λd hd=>by
 obtain⟨i,_,rfl⟩:=dD.mp hd
 exact tQ i
theorem nn0:oh (.list []) (.list [])=aa (.im (.bool aM)):=Yp (Wi []) aR
theorem aen:∀(l:List Int)(a:Int),(l.foldl max a=a\/l.foldl max a∈l)/\a<=l.foldl max a/\∀y∈l,y<=l.foldl max a
 |[],a=>⟨.inl rfl,xQ _,λ_ m=>nomatch m⟩
 |b::l,a=>by
  obtain⟨h1,h2,h3⟩:=aen l (max a b)
  rw[Dy]
  refine⟨?_,by have:=ail a b;lia,λy hy=>?_⟩
  .rcases h1 with h1|h1
   .rw[h1];rcases Int.le_total a b with c|c
    .rw[Int.max_eq_right c];exact .inr cX
    .rw[aim c];exact .inl rfl
   .exact .inr (dM _ h1)
  .rcases bW.mp hy with rfl|hy
   .have:=Int.le_max_right a y;lia
   .exact h3 y hy
theorem anK(h:l≠[]):maxD 0 l∈l/\∀y∈l,y<=maxD 0 l:=by
 cases l with
 |nil=>exact absurd rfl h
 |cons a l=>
  obtain⟨h1,h2,h3⟩:=aen l a
  show l.foldl max a∈a::l/\∀y∈a::l,y<=l.foldl max a
  refine⟨?_,λy hy=>?_⟩
  .rcases h1 with h1|h1
   .rw[h1];exact cX
   .exact dM _ h1
  .rcases bW.mp hy with rfl|hy
   .exact h2
   .exact h3 y hy
theorem alQ(hz:∀z∈zs,nameB z=aq)(hp:jR zs ps)(g:uA zs ps h):jN 5 (jW h):=by
 have sz:∀z∈zs,jN 0 (.str z):=λz hm=>Wh (hz z hm)
 have em:jN 0 (.str (bz "")):=ae4 bw;have pz:∀x∈ps,jN 0 (.str x.1)/\jN 0 (.str x.2):=λx hx=>by
  obtain⟨i,hi,rfl⟩:=vB hx
  obtain⟨e1,e2⟩:=hp i ps[i] (jb hi)
  refine⟨sz _ (lY e1),?_⟩
  rcases e2 with e2|⟨j,_,e2⟩
  .rw[e2];exact em
  .exact sz _ (lY e2)
 have oz:∀z∈ps.map (·.1),jN 0 (.str z):=λz hm=>by
  obtain⟨x,hx,rfl⟩:=dD.mp hm
  exact(pz x hx).1
 refine tR (e:=4) λd hd=>?_
 simp only[bW,iT,or_false] at hd;rcases hd with rfl|rfl|rfl|rfl
 .refine(tR (e:=1) λd hd=>?_).mono aR
  obtain⟨x,hx,rfl⟩:=dD.mp hd
  have:=pz x (g.parts.mem_iff.mp hx);refine tR (e:=0) λd hd=>?_
  simp only[bW,iT,or_false] at hd;rcases hd with rfl|rfl
  .exact this.1
  .exact this.2
 .refine(tR (e:=1) λd hd=>?_).mono aR
  obtain⟨x,hx,rfl⟩:=dD.mp hd
  have k:=g.ranks x hx;refine tR (e:=0) λd hd=>?_
  simp only[bW,iT,or_false] at hd;rcases hd with rfl|rfl|rfl|rfl|rfl|rfl
  .exact tQ _
  .exact sz _ k.who
  .exact tQ _
  .exact oz _ k.part
  .exact tQ _
  .exact tQ _
 .refine(tR (e:=1) λd hd=>?_).mono aR
  obtain⟨x,hx,rfl⟩:=dD.mp hd
  have k:=g.leaves x hx;refine tR (e:=0) λd hd=>?_
  simp only[bW,iT,or_false] at hd;rcases hd with rfl|rfl|rfl|rfl|rfl|rfl|rfl
  .exact tQ _
  .exact sz _ k.giver
  .exact sz _ k.taker
  .exact oz _ k.part
  .exact tQ _
  .exact tQ _
  .exact tQ _
 .refine tR (e:=3) λd hd=>?_
  obtain⟨x,hx,rfl⟩:=dD.mp hd
  have k:=g.rules x hx;refine tR (e:=2) λd hd=>?_
  simp only[bW,iT,or_false] at hd;rcases hd with rfl|rfl|rfl
  .exact(oz _ k.part).mono aR
  .exact(tQ _).mono aR
  .refine tR (e:=1) λd hd=>?_
   obtain⟨s,hs,rfl⟩:=dD.mp hd
   refine tR (e:=0) λd hd=>?_
   simp only[bW,iT,or_false] at hd;rcases hd with rfl|rfl
   .exact tQ _
   .rcases(k.afl s hs).2.2 with e|e
    .rw[e];exact em
    .exact oz _ e
end L2
namespace Ze
open PySem L2
abbrev zaa:List Str:=["house","part","outer","over"]
abbrev zab:List Str:=["house","part"]
abbrev zac:List Str:=["house","paper","holder","signer","day"]
abbrev zad:List Str:=["paper","person"]
abbrev zae:List Str:=["house","paper","day","over"]
abbrev zaf:List Str:=["house","paper","day"]
abbrev zag:List Str:=["ways","holder","signer"]
abbrev zah:List Str:=["ways","steps","person"]
abbrev zai:List Str:=["ways","signer","steps","newest","many","person"]
abbrev zaj:List Str:=["ways","signer"]
abbrev zak:List Str:=["house","person","part","day","over","held"]
abbrev zal:List Str:=["house","person","part","day"]
abbrev zam:List Str:=["house","paper","seat","hand"]
abbrev zan:List Str:=["_law_cell","_law_k"]
abbrev zao:List Str:=["_law_script","_law_k"]
abbrev zap:List Str:=["_law_left_here","_law_many"]
abbrev zaq:List Str:=["_law_found","_law_due"]
abbrev zar:List Str:=["_law_left_here","_law_many","_law_letters","_law_head","_law_tail","_law_first","_law_by","_law_found","_law_k","_law_value","_law_end"]
abbrev zas:List Str:=["_law_left_here","_law_box"]
abbrev zat:List Str:=["_law_left_here","_law_box","_law_n"]
abbrev zau:List Str:=["_law_left_here","_law_box","_law_most"]
abbrev zav:List Str:=["_law_left_here","_law_big","_law_names_here","_law_box","_law_k","_law_some","_law_n","_law_part","_law_row","_law_turn"]
abbrev zaw:List Str:=["_law_left_here","_law_big"]
abbrev zax:List Str:=["_law_box","_law_parts","_law_rules"]
abbrev zay:List Str:=["_law_box"]
abbrev zaz:List Str:=["_law_box","_law_part"]
abbrev za0:List Str:=["_law_box","_law_person","_law_part","_law_day","_law_over_here","_law_some"]
abbrev za1:List Str:=["_law_box","_law_person","_law_part","_law_day"]
abbrev za2:List Str:=["_law_box","_law_part","_law_sum_there","_law_one","_law_sums","_law_some","_law_seats_here"]
abbrev za3:List Str:=["_law_box","_law_part","_law_sum_there"]
abbrev za4:List Str:=["_law_box","_law_paper_here","_law_day","_law_over_here"]
abbrev za5:List Str:=["_law_box","_law_paper_here","_law_day"]
abbrev za6:List Str:=["_law_box","_law_paper_here","_law_holder","_law_day"]
abbrev za7:List Str:=["_law_left_here","_law_box","_law_parts","_law_part","_law_sides"]
abbrev za8:List Str:=["_law_left_here","_law_box","_law_paper_here","_law_many","_law_found","_law_turn","_law_holder","_law_day","_law_some","_law_signer","_law_taken"]
abbrev za9:List Str:=["_law_left_here","_law_box","_law_paper_here","_law_many"]
abbrev zba:List Str:=["_law_box","_law_paper_here","_law_seat","_law_hand"]
abbrev zbb:List Str:=["_law_left_here","_law_box","_law_house_here","_law_paper_here","_law_hands_here","_law_seats_here","_law_turn","_law_hand","_law_seat","_law_due","_law_kept"]
abbrev zbc:List Str:=["_law_script"]
abbrev zbd:List Str:=["number","giver","taker"]
abbrev zbe:List Str:=["_law_turn"]
abbrev zbf:List Str:=["_law_letters","_law_left_here"]
abbrev zbg:List Str:=["_law_hand"]
def top(i:Nat):dI:=PySem.Challenge.pw_rankseals_k25_who_may_fill.main.body.getD i (.Pass ⟨0,0,0,0⟩)
abbrev K4:dI:=top 1
theorem KY:iK zaa zab (cZ K4):=⟨rfl,rfl,rfl,bw,rfl,bw,bw⟩
abbrev Vd:dI:=top 3
theorem akD:iK zac zac (cZ Vd):=⟨rfl,rfl,rfl,bw,rfl,bw,bw⟩
abbrev T6:dI:=top 4
theorem ajN:iK zad zad (cZ T6):=⟨rfl,rfl,rfl,bw,rfl,bw,bw⟩
abbrev Ml:dI:=top 5
theorem abB:iK zae zaf (cZ Ml):=⟨rfl,rfl,rfl,bw,rfl,bw,bw⟩
abbrev R7:dI:=top 6
theorem G7:iK (["ways","holder","signer","steps","row","number"]:List Str) zag (cZ R7):=⟨rfl,rfl,rfl,bw,rfl,bw,bw⟩
abbrev K5:dI:=top 7
theorem aiI:iK zah zah (cZ K5):=⟨rfl,rfl,rfl,bw,rfl,bw,bw⟩
abbrev Ls:dI:=top 8
theorem Bp:iK zai zaj (cZ Ls):=⟨rfl,rfl,rfl,bw,rfl,bw,bw⟩
abbrev Mm:dI:=top 10
theorem SX:iK zak zal (cZ Mm):=⟨rfl,rfl,rfl,bw,rfl,bw,bw⟩
abbrev S7:dI:=top 12
theorem DY:iK (["house","paper","seat","hand","rank","part","holder","signer","day"]:List Str) zam (cZ S7):=⟨rfl,rfl,rfl,bw,rfl,bw,bw⟩
abbrev Xk:dI:=top 14
theorem aeo:iK (["_law_cell","_law_k","_law_m"]:List Str) zan (cZ Xk):=⟨rfl,rfl,rfl,bw,rfl,bw,bw⟩
abbrev Wj:dI:=top 15
theorem ac8:iK (["_law_script","_law_k","_law_cell"]:List Str) zao (cZ Wj):=⟨rfl,rfl,rfl,bw,rfl,bw,bw⟩
abbrev Wk:dI:=top 16
theorem ac9:iK (["_law_left_here","_law_many","_law_digit"]:List Str) zap (cZ Wk):=⟨rfl,rfl,rfl,bw,rfl,bw,bw⟩
abbrev Im:dI:=top 17
theorem alR:iK zaq zaq (cZ Im):=⟨rfl,rfl,rfl,bw,rfl,bw,bw⟩
abbrev Ek:dI:=top 18
theorem vO:iK zar zap (cZ Ek):=⟨rfl,rfl,rfl,bw,rfl,bw,bw⟩
abbrev Wl:dI:=top 19
theorem ada:iK (["_law_left_here","_law_box","_law_first","_law_last"]:List Str) zas (cZ Wl):=⟨rfl,rfl,rfl,bw,rfl,bw,bw⟩
abbrev Xl:dI:=top 20
theorem anL:iK zas zas (cZ Xl):=⟨rfl,rfl,rfl,bw,rfl,bw,bw⟩
abbrev Wm:dI:=top 21
theorem HQ:iK (["_law_left_here","_law_box","_law_n","_law_people","_law_parts","_law_giver","_law_step","_law_part","_law_pair"]:List Str) zat (cZ Wm):=⟨rfl,rfl,rfl,bw,rfl,bw,bw⟩
abbrev Ve:dI:=top 22
theorem Mp:iK (["_law_left_here","_law_box","_law_most","_law_parts","_law_found","_law_turn"]:List Str) zau (cZ Ve):=⟨rfl,rfl,rfl,bw,rfl,bw,bw⟩
abbrev MN:dI:=top 23
theorem vP:iK zav zaw (cZ MN):=⟨rfl,rfl,rfl,bw,rfl,bw,bw⟩
abbrev HR:dI:=top 24
theorem T7:iK zax zay (cZ HR):=⟨rfl,rfl,rfl,bw,rfl,bw,bw⟩
abbrev Wn:dI:=top 25
theorem Vf:iK (["_law_box","_law_part","_law_found"]:List Str) zaz (cZ Wn):=⟨rfl,rfl,rfl,bw,rfl,bw,bw⟩
abbrev NP:dI:=top 26
theorem Vg:iK za0 za1 (cZ NP):=⟨rfl,rfl,rfl,bw,rfl,bw,bw⟩
abbrev Eu:dI:=top 27
theorem HS:iK za2 za3 (cZ Eu):=⟨rfl,rfl,rfl,bw,rfl,bw,bw⟩
abbrev NQ:dI:=top 28
theorem adb:iK za4 za5 (cZ NQ):=⟨rfl,rfl,rfl,bw,rfl,bw,bw⟩
abbrev Wo:dI:=top 29
theorem El:iK (["_law_box","_law_paper_here","_law_holder","_law_day","_law_some","_law_found","_law_at","_law_row"]:List Str) za6 (cZ Wo):=⟨rfl,rfl,rfl,bw,rfl,bw,bw⟩
abbrev MP:dI:=top 30
theorem Mq:iK za7 zas (cZ MP):=⟨rfl,rfl,rfl,bw,rfl,bw,bw⟩
abbrev MT:dI:=top 31
theorem zj:iK za8 za9 (cZ MT):=⟨rfl,rfl,rfl,bw,rfl,bw,bw⟩
abbrev Xm:dI:=top 32
theorem anM:iK zba zba (cZ Xm):=⟨rfl,rfl,rfl,bw,rfl,bw,bw⟩
abbrev HW:dI:=top 34
theorem ux:iK zbb zas (cZ HW):=⟨rfl,rfl,rfl,bw,rfl,bw,bw⟩
abbrev XJ:dI:=top 35
theorem O7:iK (["_law_script","_law_k","_law_left_here","_law_box"]:List Str) zbc (cZ XJ):=⟨rfl,rfl,rfl,bw,rfl,bw,bw⟩
structure Txt(K:aZ)(mg:Str->Option aN):Prop where
 PX:mg "abs"=aj
 XM:mg "all"=aj
 Jf:mg "bool"=aj
 wN:mg "int"=aj
 qC:mg "isinstance"=aj
 lK:mg "len"=aj
 Jg:mg "list"=aj
 CN:mg "max"=aj
 Jr:mg "min"=aj
 p7:mg "range"=aj
 qF:mg "sorted"=aj
 Js:mg "str"=aj
 vY:mg "tuple"=aj
 XN:mg "zip"=aj
abbrev aan:FT:=(dB (aJ lW (aH 1) (aH 2)))
abbrev aao:FS:=(bO (ou 3 (aU 1)) (cB 1 (aJ bf (aH 2) (aH 1))))
abbrev Rv:FE:=(aU 0)
abbrev Rw:FE:=(aU 1)
abbrev RL:FS:=(bO (cB 2 (J3 (wY (aG (aJ bf (aH 0) (cI 0)))) (.many 2) gF Rv Rw [])) (bO (cB 3 (dR aX)) (bO (ud aan aao) (tV 3))))
def DP:FN:=fN 2 4 RL
abbrev T8:FS:=(gb (aJ lW (aH 1) (aG (nJ (aH 0) (mL (cI 2)) (mL (cI 4))))))
def zm:FN:=fN 2 2 T8
abbrev RM:FT:=(lH (dB (aJ lW (aH 3) (aH 7))) (lH (dB (yD lV lV (aH 4) (aH 8) (aH 5))) (lH (dB (aJ lV (aG (aJ bf (aH 9) (cI 1))) (aH 6))) (lH (yj (qP (aG (bL zm (aB (aU 9) (aB (aU 1) aX)))))) (yj (qP (aG (bL zm (aB (aU 9) (aB (aU 2) aX))))))))))
abbrev RN:FE:=(jd (aB (aU 0) (aB (aU 1) (aB (aU 2) aX))))
abbrev T9:FS:=(bO (cB 3 (bL DP (aB (aU 0) (aB (aJ bf (aH 1) (cI 0)) aX)))) (gb (gU (wY (aG (aJ bf (aH 0) (cI 2)))) (.many 7) RM RN [3,2,1])))
def Hs:FN:=fN 3 4 T9
abbrev aap:FT:=(lH (dB (aJ jl (aH 1) (aH 3))) (lH (dB (aJ lW (aH 2) (aH 4))) (dB (aJ uY (aG (aJ bf (aH 4) (aH 2))) (aG (aJ bf (aH 4) (aH 3)))))))
abbrev aaq:FE:=(jd (aB (aU 0) (aB (aU 2) aX)))
abbrev RP:FS:=(gb (cM O2 (cF (aG (gU (wY (aH 0)) (.many 3) aap aaq [2,1])) cL)))
def K6:FN:=fN 3 3 RP
abbrev aaJ:FS:=(CV 2 (aH 5) (aU 4))
abbrev aaK:FT:=(lH (dB (aJ lW (aH 2) (aH 3))) (dB (aJ tG (aH 1) (aH 4))))
abbrev aaL:FE:=(aU 1)
abbrev aaM:FT:=(qP (aH 3))
abbrev aaN:FS:=(bO (Ql 4 (cI 1)) (bO (cB 3 (J5 (wY (aH 0)) (.many 3) aaK aaL [3,2])) (jJ (iV (aU 3)) (eZ 5) aaJ)))
abbrev S8:FS:=(bO (cB 2 (PL (aH 1) (bM (.int 0)))) (bO (cB 3 (dR (aB (aU 1) aX))) (bO (cB 4 (bM (.int 0))) (bO (ud aaM aaN) (tV 2)))))
def Lw:FN:=fN 2 6 S8
abbrev aaz:FT:=(dB (aJ oh (aH 1) (aH 2)))
abbrev aaA:FS:=(bO (Gd (bL K6 (aB (aU 0) (aB (aU 3) (aB (aU 1) aX)))) (Gs 2 (wC (eZ 5) (wC (eZ 1) Fw)))) (ou 4 (aU 5)))
abbrev Lb:FS:=(bO (cB 3 (bL Lw (aB (aU 0) (aB (aU 2) aX)))) (bO (kZ (dB (aJ tG (aH 1) (aH 3))) (gb (bM .none)) mR) (bO (cB 4 (dR aX)) (bO (ud aaz aaA) (tV 4)))))
def Ld:FN:=fN 3 6 Lb
abbrev HX:FS:=(bO (kZ (wQ (qP (aG (bL zm (aB (aU 1) (aB (aU 2) aX))))) (qP (aG (bL zm (aB (aU 1) (aB (aU 3) aX)))))) (gb (bM .none)) mR) (gb (bL Ld (aB (bL Hs (aB (aU 0) (aB (aU 1) (aB (aU 4) aX)))) (aB (aU 2) (aB (aU 3) aX))))))
def M3:FN:=fN 5 5 HX
abbrev RQ:FT:=(lH (dB (aJ jl (aH 1) (aH 6))) (lH (dB (aJ lW (aH 3) (aH 7))) (dB (yD lV lV (aH 4) (aH 8) (aH 5)))))
abbrev RT:FE:=(aU 2)
abbrev Ua:FS:=(bO (cB 4 (bL DP (aB (aU 0) (aB (aU 2) aX)))) (bO (cB 5 (gU (wY (aG (aJ bf (aH 0) (cI 1)))) (.many 6) RQ RT [1,4,3])) (gb (PJ (aH 5) (cI 0)))))
def Mr:FN:=fN 4 6 Ua
abbrev Hj:FS:=(bO (Gd (aU 2) (Gs 2 (wC (eZ 4) (wC (eZ 5) Fw)))) (bO (Gd (aU 3) (Gs 3 (wC (eZ 6) (wC (eZ 7) (wC (eZ 8) Fw))))) (bO (kZ (dB (aJ uY (aG (bL Mr (aB (aU 0) (aB (aU 6) (aB (aU 5) (aB (aU 8) aX)))))) (aH 4))) (gb (bM (.bool aM))) mR) (gb (aJ Ov (aG (bL M3 (aB (aU 0) (aB (aU 1) (aB (aU 6) (aB (aU 7) (aB (aU 8) aX))))))) (aG (bM .none)))))))
def Ef:FN:=fN 4 9 Hj
abbrev Xn:FS:=(bO (cB 2 (aJ mQ (aG (aJ jX (aG (aJ bU (aG (aJ bU (aG (aJ mQ (aH 0) (cI 2147483629))) (aG (aJ jX (aG (aJ jX (aH 1) (aH 1))) (cI 7919))))) (cI 11))) (cI 48271))) (cI 2147483647))) (gb (aJ mQ (aG (aJ jX (aH 2) (aH 2))) (cI 1999999973))))
def Jh:FN:=fN 2 3 Xn
abbrev Wq:FS:=(bO (cB 2 (yE (dB (aJ uY (aH 1) (aG (zU 0)))) (JC 0 (aH 1)) (bM (.int 0)))) (gb (dR (aB (aJ bf (aG (dR (aB (bM (.int 0)) (aB (cM Jl (cF (aH 2) cL)) aX)))) (aG (cM pJ (cF (aG (aJ Qh (aG (cM Jl (cF (aH 2) cL))) (aG (aJ yh (cI 10) (cI 18))))) cL)))) (aB (aJ bU (aH 2) (aG (aJ jX (cI 1000003) (aH 1)))) (aB (bM (.int 0)) aX))))))
def NZ:FN:=fN 2 3 Wq
abbrev N5:FS:=(bO (CV 0 (cI 2) (aJ bU (aG (uZ 0 (cI 2))) (cI 1))) (bO (kZ (dB (aJ Qg (aG (uZ 0 (cI 0))) (cI 0))) (bO (cB 2 (aJ mQ (aG (uZ 0 (cI 0))) (aH 1))) (bO (CV 0 (cI 0) (aJ zO (aG (uZ 0 (cI 0))) (aH 1))) (tV 2))) mR) (gb (aJ mQ (aG (aJ zO (aG (bL Jh (aB (bL Jh (aB (uZ 0 (cI 1)) (aB (uZ 0 (cI 2)) aX))) (aB (aJ bU (aG (uZ 0 (cI 2))) (cI 64)) aX)))) (cI 64))) (aH 1)))))
def cN:FN:=fN 2 3 N5
abbrev ajO(Wr:FN):FE:=(bL Wr (aB (aU 0) (aB (aU 1) aX)))
abbrev Ws(Wr:FN):FS:=(bO (kZ (qP (aG (PB "list" "tuple" (aH 1)))) (bO (kZ (wQ (dB (aJ oh (aG (qQ "list" (aH 0))) (aG (qQ "list" (aH 1))))) (dB (aJ oh (aG (qQ "tuple" (aH 0))) (aG (qQ "tuple" (aH 1)))))) (gb (bM (.bool aM))) mR) (gb (uQ (aJ jl (aG (cM jc (cF (aH 0) cL))) (aG (cM jc (cF (aH 1) cL)))) (cM XD (cF (aG (gU (afX (cF (aH 0) (cF (aH 1) cL))) (.many 2) gF (ajO Wr) [])) cL))))) mR) (bO (kZ (wQ (dB (aJ Pu (aH 1) (aG (bM .none)))) (qP (aG (qQ "str" (aH 1))))) (gb (uQ (aJ jl (aH 0) (aH 1)) (aJ jl (aG (qQ "str" (aH 0))) (aG (qQ "str" (aH 1)))))) mR) (bO (kZ (qP (aG (qQ "bool" (aH 1)))) (gb (uQ (qQ "bool" (aH 0)) (aJ jl (aH 0) (aH 1)))) mR) (gb (uQ (qQ "int" (aH 0)) (uQ (Px (qQ "bool" (aH 0))) (aJ jl (aH 0) (aH 1))))))))
def zG:Nat->FN
 |0=>XF
 |n+1=>fN 2 2 (Ws (zG n))
abbrev Bq:FS:=(bO (cB 9 (aJ mQ (aG (aJ bU (aH 5) (aG (aJ jX (aH 6) (aH 8))))) (cI 676))) (bO (cB 10 (nJ (aH 4) qY (mL (aG (aJ mQ (aG (aJ bU (aG (aJ jX (aH 8) (aH 8))) (aH 5))) (cI 4)))))) (ou 7 (aJ bU (aG (aJ bU (aG (aJ bU (aH 3) (aG (aJ bf (aH 2) (aG (aJ zO (aH 9) (cI 26))))))) (aG (aJ bf (aH 2) (aG (aJ mQ (aH 9) (cI 26))))))) (aH 10)))))
abbrev Le:FE:=(aJ bf (aH 1) (aG (aJ mQ (aG (aJ bU (aH 2) (aG (aJ jX (aH 3) (aH 0))))) (cI 26))))
abbrev R8:FE:=(aJ bf (aH 1) (aG (bL cN (aB (aU 2) (aB (bM (.int 26)) aX)))))
abbrev R9:FE:=(aJ bf (aH 1) (aG (bL cN (aB (aU 2) (aB (bM (.int 26)) aX)))))
abbrev M4:FS:=(bO (cB 2 (bM (.str (bz "abcdefghijklmnopqrstuvwxyz")))) (bO (cB 3 (zV (cS "") (aG (gU (jM (aG (bL cN (aB (aU 0) (aB (bM (.int 4)) aX))))) .one gF R9 [2,0])))) (bO (cB 4 (zV (cS "") (aG (gU (jM (aG (bL cN (aB (aU 0) (aB (bM (.int 4)) aX))))) .one gF R8 [2,0])))) (bO (qm [5,6] (mU (bL cN (aB (aU 0) (aB (bM (.int 676)) aX))) (mU (aJ bf (aG (dR (aB (bM (.int 1)) (aB (bM (.int 3)) (aB (bM (.int 5)) (aB (bM (.int 7)) (aB (bM (.int 25)) (aB (bM (.int 675)) aX)))))))) (aG (bL cN (aB (aU 0) (aB (bM (.int 6)) aX))))) aX))) (bO (kZ (dB (aJ jl (aG (bL cN (aB (aU 0) (aB (bM (.int 4)) aX)))) (cI 0))) (gb (gU (jM (aH 1)) .one gF Le [2,5,6])) mR) (bO (cB 7 (dR aX)) (bO (jJ (jM (aH 1)) (eZ 8) Bq) (tV 7))))))))
def M5:FN:=fN 2 11 M4
abbrev N6:FS:=(bO (qm [2,3] (mU (aJ jX (aG (bL cN (aB (aU 0) (aB (bM (.int 21)) aX)))) (aG (aJ bf (aH 1) (cS "unit")))) (mU (aJ jX (aG (bL cN (aB (aU 0) (aB (bM (.int 21)) aX)))) (aG (aJ bf (aH 1) (cS "unit")))) aX))) (gb (aJ bf (aG (dR (aB (jd (aB (cM Cm (cF (aH 2) (cF (aH 3) cL))) (aB (cM Ck (cF (aH 2) (cF (aH 3) cL))) aX))) (aB (jd (aB (bM (.int 0)) (aB (bM (.int 99999)) aX))) aX)))) (aG (cM pJ (cF (aG (aJ jl (aG (bL cN (aB (aU 0) (aB (bM (.int 3)) aX)))) (cI 0))) cL))))))
def BW:FN:=fN 2 4 N6
abbrev Xo:FS:=(gb (aJ bf (aG (aJ bU (aG (aJ bf (aH 1) (cS "sums"))) (aG (dR (aB (bL cN (aB (aU 0) (aB (aJ bU (aG (aJ yh (cI 10) (cI 9))) (cI 1)) aX))) aX))))) (aG (bL cN (aB (aU 0) (aB (bM (.int 7)) aX))))))
def uL:FN:=fN 2 2 Xo
abbrev Wt:FS:=(bO (qm [3,4] (mU (aJ bf (aH 1) (cS "people")) (mU (cM qH (cF (aG (aJ bf (aH 1) (cS "parts"))) cL)) aX))) (bO (qm [5,6] (mU (bL cN (aB (aU 0) (aB (cM jc (cF (aH 3) cL)) aX))) (mU (aJ bU (cI 1) (aG (bL cN (aB (aU 0) (aB (aJ Pr (aG (cM jc (cF (aH 3) cL))) (cI 1)) aX))))) aX))) (bO (cB 7 (aJ bf (aG (aJ bU (aH 4) (aG (dR (aB (aJ bf (aH 1) (cS "main")) (aB (aJ bf (aH 1) (cS "main")) aX)))))) (aG (bL cN (aB (aU 0) (aB (aJ bU (aG (cM jc (cF (aH 4) cL))) (cI 2)) aX)))))) (bO (cB 8 (jd (aB (aJ bf (aH 3) (aH 5)) (aB (aJ bf (aH 3) (aG (aJ mQ (aG (aJ bU (aH 5) (aH 6))) (aG (cM jc (cF (aH 3) cL)))))) aX)))) (gb (aJ bU (aG (aJ bU (aG (aJ bU (aG (aJ bU (aG (jd (aB (aU 2) aX))) (aH 8))) (aG (jd (aB (aU 7) aX))))) (aG (bL BW (aB (aU 0) (aB (aU 1) aX)))))) (aG (jd (aB (cM Ck (cF (aG (bL uL (aB (aU 0) (aB (aU 1) aX)))) (cF (aG (bL uL (aB (aU 0) (aB (aU 1) aX)))) cL))) aX)))))))))
def N7:FN:=fN 3 9 Wt
abbrev Sd:FS:=(ou 4 (jd (aB (aJ bf (aG (dR (aB (bM (.int 1)) (aB (bM (.int 1)) (aB (bM (.int 2)) (aB (bM (.int 2)) (aB (bM (.int 3)) (aB (bM (.int 9)) aX)))))))) (aG (bL cN (aB (aU 0) (aB (bM (.int 6)) aX))))) (aB (aJ bf (aH 3) (aG (bL cN (aB (aU 0) (aB (cM jc (cF (aH 3) cL)) aX))))) aX))))
abbrev Vh:FS:=(bO (cB 3 (aJ bU (aG (cM qH (cF (aG (aJ bf (aH 1) (cS "parts"))) cL))) (aG (dR (aB (bM (.str (bz ""))) (aB (bM (.str (bz ""))) (aB (bM (.str (bz ""))) aX))))))) (bO (cB 4 (dR aX)) (bO (jJ (jM (aG (bL cN (aB (aU 0) (aB (aJ bU (aH 2) (cI 1)) aX))))) (eZ 5) Sd) (gb (cM xX (cF (aH 4) cL))))))
def HY:FN:=fN 3 6 Vh
abbrev abC:FT:=(lH (dB (aJ oh (aH 1) (cS ""))) (dB (aJ lW (aH 1) (aG (aJ bf (aH 0) (cS "parts"))))))
abbrev abD:FS:=(bO (ou 2 (aU 1)) (cB 1 (aJ bf (aG (aJ bf (aH 0) (cS "parts"))) (aH 1))))
abbrev Wu:FS:=(bO (cB 2 (dR aX)) (bO (ud abC abD) (tV 2)))
def qI:FN:=fN 2 3 Wu
abbrev Ea:m6:=(oY (u5 3 7 (aJ bf (aG (aJ bU (aG (cM qH (cF (aG (aJ bf (aH 3) (cS "parts"))) cL))) (aG (dR (aB (aJ bf (aH 3) (cS "main")) aX))))) (aG (bL cN (aB (aU 0) (aB (aJ bU (aG (cM jc (cF (aG (aJ bf (aH 3) (cS "parts"))) cL))) (cI 1)) aX)))))) (FW 3 (bz "rules") (aG (jd (aB (aU 7) (aB (bL uL (aB (aU 0) (aB (aU 3) aX))) aX)))) (bL HY (aB (aU 0) (aB (aU 3) (aB (bM (.int 6)) aX))))))
abbrev Sg:FE:=(bL N7 (aB (aU 1) (aB (aU 2) (aB (aU 0) aX))))
abbrev Eb:m6:=(oY (u5 3 7 (aJ bU (aG (cM qH (cF (aG (aJ bf (aH 3) (cS "parts"))) cL))) (aG (aJ zP (aG (bL qI (aB (aU 3) (aB (aJ bf (aH 3) (cS "main")) aX)))) (cI 2))))) (oY (u5 3 8 (jd (aB (aJ bf (aG (aJ bf (aH 3) (cS "people"))) (aG (bL cN (aB (aU 0) (aB (cM jc (cF (aG (aJ bf (aH 3) (cS "people"))) cL)) aX))))) (aB (aJ bf (aG (dR (aB (bM (.int 1)) (aB (bM (.int 2)) (aB (bM (.int 3)) (aB (bM (.int 9)) aX)))))) (aG (bL cN (aB (aU 0) (aB (bM (.int 4)) aX))))) aX)))) (JG 3 (bz "ranks") (aJ bU (aG (aJ bU (aG (aJ bU (aG (jd (aB (aU 6) aX))) (aH 8))) (aG (jd (aB (aJ bf (aH 7) (aG (bL cN (aB (aU 0) (aB (cM jc (cF (aH 7) cL)) aX))))) aX))))) (aG (bL BW (aB (aU 0) (aB (aU 3) aX))))))))
abbrev Hf:m6:=(FW 3 (bz "parts") (aG (aJ bf (aH 2) (aH 4))) (aJ bf (aG (aJ bU (aG (dR (aB (bM (.str (bz ""))) aX))) (aG (nJ (aH 2) qY (mL (aH 4)))))) (aG (bL cN (aB (aU 0) (aB (aJ bU (cI 1) (aH 4)) aX))))))
abbrev M6:FS:=(bO (cB 2 (bL M5 (aB (aU 0) (aB (bM (.int 24)) aX)))) (Qn 3 [((bz "parts"),Ox),((bz "unit"),(aJ bf (aG (dR (aB (bM (.int 1)) (aB (bM (.int 1)) (aB (bM (.int 7)) (aB (bM (.int 4999)) aX)))))) (aG (bL cN (aB (aU 0) (aB (bM (.int 4)) aX)))))),((bz "rules"),Ox)] (oY (Ae 3 4 (aG (aJ bf (aG (dR (aB (aJ bU (cI 1) (aG (bL cN (aB (aU 0) (aB (bM (.int 4)) aX))))) (aB (bM (.int 8)) aX)))) (aG (cM pJ (cF (aH 1) cL))))) Hf) (oY (yJ 3 (bz "people") (nJ (aH 2) (mL (cI 4)) (mL (aG (aJ bU (cI 4) (aG (aJ bf (aG (dR (aB (aJ bU (cI 2) (aG (bL cN (aB (aU 0) (aB (bM (.int 6)) aX))))) (aB (bM (.int 12)) aX)))) (aG (cM pJ (cF (aH 1) cL)))))))))) (oY (yJ 3 (bz "main") (aJ bf (aG (cM qH (cF (aG (aJ bf (aH 3) (cS "parts"))) cL))) (aG (bL cN (aB (aU 0) (aB (cM jc (cF (aG (aJ bf (aH 3) (cS "parts"))) cL)) aX)))))) (oY (u5 3 5 (bL cN (aB (aU 0) (aB (aJ yh (cI 10) (cI 9)) aX)))) (oY (yJ 3 (bz "sums") (nJ (aG (dR (aB (bM (.int 0)) (aB (aU 5) (aB (aU 5) (aB (aJ bU (aH 5) (cI 1)) (aB (aJ yh (cI 10) (cI 9)) (aB (bM (.int 50)) aX)))))))) qY (mL (cI 6)))) (oY (yJ 3 (bz "ranks") (dR aX)) (oY (Ae 3 6 (aG (aJ bf (aG (dR (aB (aJ bU (cI 1) (aG (bL cN (aB (aU 0) (aB (bM (.int 8)) aX))))) (aB (bM (.int 20)) aX)))) (aG (cM pJ (cF (aH 1) cL))))) Eb) (oY (yJ 3 (bz "leaves") (gU (jM (aG (aJ bf (aG (dR (aB (bL cN (aB (aU 0) (aB (bM (.int 7)) aX))) (aB (bM (.int 16)) aX)))) (aG (cM pJ (cF (aH 1) cL)))))) .one gF Sg [0,3])) (oY (Ae 3 9 (aG (aJ bf (aG (dR (aB (aJ bU (cI 1) (aG (bL cN (aB (aU 0) (aB (bM (.int 4)) aX))))) (aB (bM (.int 10)) aX)))) (aG (cM pJ (cF (aH 1) cL))))) Ea) PN)))))))))))
def M7:FN:=fN 2 10 M6
abbrev Lf:FE:=(aJ bU (aH 0) (aG (jd (aB (aJ bf (aG (aJ bf (aH 1) (cS "rules"))) (aH 0)) aX))))
abbrev Sh:FE:=(jd (aB (aU 0) (aB (aJ bf (aG (aJ bf (aH 1) (cS "parts"))) (aH 0)) aX)))
abbrev Vi:FS:=(bO (cB 1 (cM xX (cF (aG (gU (iB (aG (cM qH (cF (aG (aJ bf (aH 0) (cS "parts"))) cL)))) .one gF Sh [0])) cL))) (bO (cB 2 (cM xX (cF (aG (gU (iB (aG (cM Il (cF (aG (aJ bf (aH 0) (cS "rules"))) cL)))) .one gF Lf [0])) cL))) (gb (jd (aB (aU 1) (aB (cM xX (cF (aG (cM uE (cF (aG (aJ bf (aH 0) (cS "ranks"))) cL))) cL)) (aB (cM xX (cF (aG (cM uE (cF (aG (aJ bf (aH 0) (cS "leaves"))) cL))) cL)) (aB (aU 2) aX))))))))
def BJ:FN:=fN 1 3 Vi
abbrev S9:FT:=(lH (dB (aJ jl (aG (aJ bf (aH 0) (cI 1))) (aH 1))) (lH (dB (aJ lW (aG (aJ bf (aH 0) (cI 3))) (aH 2))) (dB (yD lV lV (aG (aJ bf (aH 0) (cI 4))) (aH 3) (aG (aJ bf (aH 0) (cI 5)))))))
abbrev Tc:FE:=(aJ bf (aH 0) (cI 2))
abbrev Wv:FS:=(bO (cB 4 (bL qI (aB (aU 0) (aB (aU 2) aX)))) (bO (cB 5 (gU (iB (aG (aJ bf (aH 0) (cS "ranks")))) .one S9 Tc [1,4,3])) (gb (cM wG (cF (aG (aJ bU (aH 5) (aG (dR (aB (bM (.int 0)) aX))))) cL)))))
def N8:FN:=fN 4 6 Wv
abbrev Lx:FE:=(jd (aB (aU 0) (aB (yE (dB (aJ oh (aH 1) (cS ""))) (aU 1) (aU 2)) aX)))
abbrev Ly:FT:=(dB (aJ lV (aH 0) (aH 1)))
abbrev Lz:FE:=(aU 0)
abbrev Td:FT:=(dB (aJ jl (aG (aJ bf (aH 0) (cI 0))) (aH 1)))
abbrev Te:FE:=(aJ bf (aH 0) (cI 1))
abbrev vN:FS:=(bO (cB 4 (gU (QL (aG (aJ bf (aH 0) (cS "rules")))) .one Td Te [3])) (kZ (dB (aJ oh (aH 4) (aG (dR aX)))) (bO (cB 5 (gU (iB (aH 4)) .one Ly Lz [2])) (bO (cB 6 (yE (dB (aJ oh (aH 5) (aG (dR aX)))) (aJ bf (aG (aJ bf (aH 0) (cS "rules"))) (aG (jd (aB (aU 3) (aB (cM wG (cF (aH 5) cL)) aX))))) (jd aX))) (gb (gU (wY (aH 6)) (.many 2) gF Lx [1])))) mR))
abbrev Oa:FS:=(bO (jJ (iV (bL qI (aB (aU 0) (aB (aU 1) aX)))) (eZ 3) vN) (gb (dR aX)))
def Io:FN:=fN 3 7 Oa
abbrev Tf:FT:=(lH (dB (aJ lW (aG (aJ bf (aH 0) (cI 3))) (aH 1))) (lH (dB (yD lV lV (aG (aJ bf (aH 0) (cI 4))) (aH 2) (aG (aJ bf (aH 0) (cI 5))))) (dB (aJ lV (aG (aJ bf (aH 3) (cI 1))) (aG (aJ bf (aH 0) (cI 6)))))))
abbrev Tg:FE:=(aU 0)
abbrev Ww:FS:=(bO (cB 3 (bL qI (aB (aU 0) (aB (aJ bf (aH 1) (cI 0)) aX)))) (gb (gU (iB (aG (aJ bf (aH 0) (cS "leaves")))) .one Tf Tg [3,2,1])))
def Oc:FN:=fN 3 4 Ww
abbrev Bs:FS:=(kZ (lH (dB (aJ jl (aG (aJ bf (aH 7) (cI 1))) (aG (aJ bf (aH 5) (aH 6))))) (lH (dB (aJ tG (aG (aJ bf (aH 7) (cI 2))) (aH 5))) (dB (aJ tG (aG (aJ bf (aH 7) (cI 2))) (aG (nJ (aH 1) (mL (cI 2)) qY)))))) (cB 5 (aJ bU (aH 5) (aG (dR (aB (aJ bf (aH 7) (cI 2)) aX))))) mR)
abbrev Eg:FT:=(dB (aJ uY (aH 6) (aG (cM jc (cF (aH 5) cL)))))
abbrev LC:FS:=(bO (jJ (iV (aU 4)) (eZ 7) Bs) (cB 6 (aJ bU (aH 6) (cI 1))))
abbrev Od:FS:=(bO (qm [4,5,6] (mU (bL Oc (aB (aU 0) (aB (aU 1) (aB (aU 3) aX)))) (mU (dR aX) (mU (bM (.int 0)) aX)))) (bO (kZ (dB (aJ tG (aH 2) (aG (nJ (aH 1) (mL (cI 2)) qY)))) (cB 5 (dR (aB (aU 2) aX))) mR) (bO (ud Eg LC) (tV 5))))
def BX:FN:=fN 4 8 Od
abbrev abb:FE:=(aJ bf (aG (aJ bU (aG (aJ bf (aH 1) (cS "people"))) (aG (dR (aB (bM (.str (bz "nobody"))) aX))))) (aG (bL cN (aB (aU 2) (aB (aJ bU (aG (cM jc (cF (aG (aJ bf (aH 1) (cS "people"))) cL))) (cI 1)) aX)))))
abbrev Vj:FS:=(bO (cB 2 (cM qH (cF (aG (aJ bf (aH 1) (cS "parts"))) cL))) (bO (cB 3 (aJ bf (aG (aJ bU (aH 2) (aG (aJ zP (aG (dR (aB (aJ bf (aH 1) (cS "main")) aX))) (cI 3))))) (aG (bL cN (aB (aU 0) (aB (aJ bU (aG (cM jc (cF (aH 2) cL))) (cI 3)) aX)))))) (bO (cB 4 (gU (jM (cI 2)) .one gF abb [1,0])) (gb (jd (aB (aU 3) (aB (bL uL (aB (aU 0) (aB (aU 1) aX))) (aB (aJ bf (aH 4) (cI 0)) (aB (aJ bf (aH 4) (cI 1)) aX)))))))))
def H9:FN:=fN 2 5 Vj
abbrev Sq:FT:=(wQ (dB (aJ jl (aG (aJ bf (aH 0) (cI 0))) (aH 1))) (dB (aJ jl (aG (aJ bf (aH 0) (cI 1))) (aH 2))))
abbrev Ss:FE:=(aU 0)
abbrev Lg:FS:=(bO (cB 6 (aJ bf (aG (aJ bf (aH 1) (cS "people"))) (aG (bL cN (aB (aU 0) (aB (cM jc (cF (aG (aJ bf (aH 1) (cS "people"))) cL)) aX)))))) (bO (cB 7 (aJ jX (aG (bL cN (aB (aU 0) (aB (bM (.int 21)) aX)))) (aG (aJ bf (aH 1) (cS "unit"))))) (bO (cB 8 (aJ bU (aG (bL BX (aB (aU 1) (aB (aU 2) (aB (aU 6) (aB (aU 7) aX)))))) (aG (dR (aB (aU 6) (aB (aJ bf (aG (aJ bf (aH 1) (cS "people"))) (aG (bL cN (aB (aU 0) (aB (cM jc (cF (aG (aJ bf (aH 1) (cS "people"))) cL)) aX))))) aX)))))) (bO (cB 9 (aJ bf (aH 8) (aG (bL cN (aB (aU 0) (aB (cM jc (cF (aH 8) cL)) aX)))))) (bO (cB 10 (gU (iB (aH 4)) .one Sq Ss [6,9])) (kZ (lH (dB (aJ jl (aH 10) (aG (dR aX)))) (dB (aJ uY (aG (cM jc (cF (aH 4) cL))) (aH 3)))) (ou 4 (jd (aB (aU 6) (aB (aU 9) (aB (aU 7) aX))))) mR))))))
abbrev Vk:FS:=(bO (cB 4 (dR aX)) (bO (jJ (jM (aG (aJ jX (cI 2) (aH 3)))) (eZ 5) Lg) (tV 4)))
def Ia:FN:=fN 4 11 Vk
abbrev O8:FS:=(bO (kZ (dB (aJ uY (aG (bL N8 (aB (aU 0) (aB (aJ bf (aH 3) (cI 0)) (aB (aJ bf (aH 2) (cI 1)) (aB (aJ bf (aH 3) (cI 2)) aX)))))) (aG (aJ bf (aH 2) (cI 0))))) (gb (bM (.bool aM))) mR) (gb (aJ lW (aG (aJ bf (aH 3) (cI 1))) (aG (bL BX (aB (aU 0) (aB (aU 1) (aB (aJ bf (aH 3) (cI 0)) (aB (aJ bf (aH 3) (cI 2)) aX)))))))))
def Ji:FN:=fN 4 4 O8
abbrev Lh:FE:=(bL Ji (aB (aU 1) (aB (aU 2) (aB (aJ bf (aH 3) (aG (Jy (cI 1)))) (aB (aU 0) aX)))))
abbrev Li:FE:=(bL Ef (aB (aU 1) (aB (aU 2) (aB (aJ bf (aH 3) (aG (Jy (cI 1)))) (aB (aU 0) aX)))))
abbrev Lj:FS:=(bO (cB 9 (bL Ji (aB (aU 1) (aB (aU 3) (aB (aU 8) (aB (aU 7) aX)))))) (kZ (yj (qP (aG (bL (zG 3) (aB (bL Ef (aB (aU 2) (aB (aU 3) (aB (aU 8) (aB (aU 7) aX))))) (aB (aU 9) aX)))))) (gb (bM (.bool aM))) mR))
abbrev Hg:FS:=(jJ (iV (aU 5)) (eZ 8) Lj)
abbrev Ec:FS:=(ou 5 (jd (aB (aJ bf (aG (dR (aB (bM (.int 1)) (aB (bM (.int 2)) (aB (bM (.int 3)) (aB (bM (.int 9)) aX)))))) (aG (bL cN (aB (aU 0) (aB (bM (.int 4)) aX))))) (aB (aJ bf (aG (cM qH (cF (aG (aJ bf (aH 1) (cS "parts"))) cL))) (aG (bL cN (aB (aU 0) (aB (cM jc (cF (aG (aJ bf (aH 1) (cS "parts"))) cL)) aX))))) aX))))
abbrev Vm:FS:=(bO (qm [2,3] (mU (bL BJ (aB (aU 1) aX)) (mU (bL H9 (aB (aU 0) (aB (aU 1) aX))) aX))) (bO (cB 4 (bL Ia (aB (aU 0) (aB (aU 1) (aB (aU 3) (aB (bM (.int 10)) aX)))))) (bO (cB 5 (bL Io (aB (aU 1) (aB (aJ bf (aH 3) (cI 0)) (aB (aJ bf (aH 3) (cI 1)) aX))))) (bO (jJ (jM (cI 3)) (eZ 6) Ec) (bO (jJ (iV (aU 4)) (eZ 7) Hg) (bO (cB 10 (gU (iB (aH 4)) .one gF Li [2,3,5])) (bO (cB 9 (gU (iB (aH 4)) .one gF Lh [1,3,5])) (gb (uQ (aJ jl (aH 10) (aH 9)) (aJ jl (aH 2) (aG (bL BJ (aB (aU 1) aX)))))))))))))
def Ib:FN:=fN 2 11 Vm
abbrev Vn:FS:=(bO (Jz 2 (bL NZ (aB (aU 0) (aB (aU 1) aX)))) (bO (cB 3 (bL M7 (aB (aU 2) (aB (aJ jl (aG (bL cN (aB (aU 2) (aB (bM (.int 6)) aX)))) (cI 0)) aX)))) (kZ (wQ (yj (qP (aG (bL Ib (aB (aU 2) (aB (aU 3) aX)))))) (yj (qP (aG (bL Ib (aB (aU 2) (aB (aU 3) aX))))))) (gb (bM (.bool aM))) mR)))
abbrev XQ:FS:=(bO (jJ (jM (aG (aJ bU (cI 1) (aG (cM Cm (cF (cI 4) (cF (aG (zU 0)) cL))))))) (eZ 1) Vn) (gb (bM (.bool aq))))
def FZ:FN:=fN 1 4 XQ
theorem aiJ(F:gw K "parts_over" "parts_over" K4 f fd)(T:Txt K mg):fK P w K mg base fU 1 f fd zab (spT K DP):=
 jq (body:=RL) F KY λcdv A outer s H E hr=>(b7 (alA (i:=2) (T:=(.many 2)) (NT:=(["name","within"]:List Str)) (NF:=([]:List Str)) (js:=[]) (mJ.ok (N0:=zaa) (kj:=cZ K4) bw rfl rfl) (⟨_,_,_,rfl,(.cons ⟨_,rfl⟩ (.cons ⟨_,rfl⟩ .nil)),rfl⟩) rfl hr.dX (FJ (aL (bT hr (aQ 0) bZ))) (λb=>⟨tH,(bC 0),(bC 1)⟩) (by rfl) KY.nd rfl rfl) (b7 (fJ 3 KY.nd (gJ bF)) (b7 (HD oG (gq (wB hr.dX) wI (aQ 1) (aQ 2) (by with_unfolding_all rfl)) (b7 (Cg (pv 3) (bC 1)) (jT (fJ 1 KY.nd (bT hr (aQ 2) (aQ 1)))))) (jT (zF (pv 3))))))
theorem ajP(F:gw K "is_side" "is_side" T6 f fd)(T:Txt K mg):fK P w K mg base fU 1 f fd zad (spT K zm):=
 jq (body:=T8) F ajN λcdv A outer s H E hr=>(iQ (rM (wB hr.dX) wI (aQ 1) (aL (CJ (aQ 0) (yp bZ) (yp bZ))) (by with_unfolding_all rfl)))
theorem ajQ(F:gw K "ways_on" "ways_on" Ml f fd)(T:Txt K mg)(DQ:dJ P w K mg base "parts_over" 1 zab (spT K DP))(zp:dJ P w K mg base "is_side" 1 zad (spT K zm)):fK P w K mg base fU 2 f fd zaf (spT K Hs):=
 jq (body:=T9) F abB λcdv A outer s H E hr=>(b7 (fJ 3 abB.nd (cR DQ hr (aO (bC 0) (aO (bT hr (aQ 1) bZ) bF)))) (iQ (uR (T:=(.many 7)) (NT:=(["number","giver","taker","part","first","last","most"]:List Str)) (NF:=(["over","day","paper"]:List Str)) (js:=[3,2,1]) (mJ.ok (N0:=zae) (kj:=cZ Ml) bw rfl rfl) (⟨_,_,_,rfl,(.cons ⟨_,rfl⟩ (.cons ⟨_,rfl⟩ (.cons ⟨_,rfl⟩ (.cons ⟨_,rfl⟩ (.cons ⟨_,rfl⟩ (.cons ⟨_,rfl⟩ (.cons ⟨_,rfl⟩ .nil))))))),rfl⟩) rfl (FJ (aL (bT hr (aQ 0) bZ))) (λb=>⟨(xW (PW.pt (oN (gq (wB hr.dX) wI (aQ 3) (aQ 7) (by with_unfolding_all rfl)) (oN (Ow uG uP uG uP (aQ 4) (aQ 8) (aQ 5)) (oN (gq uG uP (aL (bT hr (aQ 9) bZ)) (aQ 6) (gH _)) (oN (IW (uH (aL (cR zp hr (aO (bC 9) (aO (bC 1) bF)))))) (xV (IW (uH (aL (cR zp hr (aO (bC 9) (aO (bC 2) bF))))))))))))),(lR (aO (bC 0) (aO (bC 1) (aO (bC 2) bF))))⟩))))
theorem aiK(F:gw K "nearer_way" "nearer_way" K5 f fd)(T:Txt K mg):fK P w K mg base fU 1 f fd zah (spT K K6):=
 jq (body:=RP) F aiI λcdv A outer s H E hr=>(iQ (iZ (aiG rfl hr.dX) ant T.Jr (dm (aL (uR (T:=(.many 3)) (NT:=zbd) (NF:=(["person","steps"]:List Str)) (js:=[2,1]) (mJ.ok (N0:=zah) (kj:=cZ K5) bw rfl rfl) (⟨_,_,_,rfl,(.cons ⟨_,rfl⟩ (.cons ⟨_,rfl⟩ (.cons ⟨_,rfl⟩ .nil))),rfl⟩) rfl (FJ (aQ 0)) (λb=>⟨(xW (PW.pt (oN (gq (nW hr.units) nZ (aQ 1) (aQ 3) (gH _)) (oN (gq (wB hr.dX) wI (aQ 2) (aQ 4) (by with_unfolding_all rfl)) (xV (gq (Ed hr.EY) Fq (aL (bT hr (aQ 4) (aQ 2))) (aL (bT hr (aQ 4) (aQ 3))) (gH _))))))),(lR (aO (bC 0) (aO (bC 2) bF)))⟩))) dG)))
theorem ajc(F:gw K "steps_to" "steps_to" Ls f fd)(T:Txt K mg):fK P w K mg base fU 1 f fd zaj (spT K Lw):=
 jq (body:=S8) F Bp λcdv A outer s H E hr=>(b7 (fJ 2 Bp.nd (alG (aQ 1) fY)) (b7 (fJ 3 Bp.nd (gJ (aO (bC 1) bF))) (b7 (fJ 4 Bp.nd fY) (b7 (HD oG (uH (aQ 3)) (b7 (aoT (i:=4) Bp.nd rfl (qb rfl) bZ) (b7 (fJ 3 Bp.nd (apW (T:=(.many 3)) (NT:=zbd) (NF:=(["newest","steps"]:List Str)) (js:=[3,2]) (mJ.ok (N0:=zai) (kj:=cZ Ls) bw rfl rfl) (⟨_,_,_,rfl,(.cons ⟨_,rfl⟩ (.cons ⟨_,rfl⟩ (.cons ⟨_,rfl⟩ .nil))),rfl⟩) rfl rfl T.qF (FJ (aQ 0)) (λb=>⟨(xW (PW.pt (oN (gq (wB hr.dX) wI (aQ 2) (aQ 3) (by with_unfolding_all rfl)) (xV (gq (Hq hr.dX) Hz (aQ 1) (aQ 4) (by with_unfolding_all rfl)))))),(bC 1)⟩))) (jT (wF oG rfl (JB (bC 3)) (mH 5 Bp.nd) oM (jT (W5 hr.dX (pv 2) (aQ 5) (bC 4)))))))) (jT (zF (pv 2)))))))
theorem ai0(F:gw K "first_row" "first_row" R7 f fd)(T:Txt K mg)(RV:dJ P w K mg base "nearer_way" 1 zah (spT K K6))(Th:dJ P w K mg base "steps_to" 1 zaj (spT K Lw)):fK P w K mg base fU 2 f fd zag (spT K Ld):=
 jq (body:=Lb) F G7 λcdv A outer s H E hr=>(b7 (fJ 3 G7.nd (cR Th hr (aO (bC 0) (aO (bC 2) bF)))) (b7 (pI (gq (Hq hr.dX) Hz (aQ 1) (aQ 3) (by with_unfolding_all rfl)) (iQ (bN Oi)) pH) (b7 (fJ 4 G7.nd (gJ bF)) (b7 (HD oG (gq (Cd hr.units) Cz (aQ 1) (aQ 2) (gH _)) (b7 (W3 (cR RV hr (aO (bC 0) (aO (bC 3) (aO (bC 1) bF)))) (Ir rfl (uy (mH 5 G7.nd) (uy (mH 1 G7.nd) Ig))) (W2 (By oM (By oM V1)))) (jT (Cg (pv 4) (bC 5))))) (jT (zF (pv 4)))))))
theorem akE(F:gw K "row_of" "row_of" Vd f fd)(T:Txt K mg)(zp:dJ P w K mg base "is_side" 1 zad (spT K zm))(Ub:dJ P w K mg base "ways_on" 2 zaf (spT K Hs))(Su:dJ P w K mg base "first_row" 2 zag (spT K Ld)):fK P w K mg base fU 3 f fd zac (spT K M3):=
 jq (body:=HX) F akD λcdv A outer s H E hr=>(b7 (pI (PW.pt (Jk (uH (aL (cR zp hr (aO (bC 1) (aO (bC 2) bF))))) (I9 (uH (aL (cR zp hr (aO (bC 1) (aO (bC 3) bF)))))))) (iQ (bN Oi)) pH) (iQ (cR Su hr (aO (cR Ub hr (aO (bC 0) (aO (bC 1) (aO (bC 4) bF)))) (aO (bC 2) (aO (bC 3) bF))))))
theorem ajR(F:gw K "rank_of" "rank_of" Mm f fd)(T:Txt K mg)(DQ:dJ P w K mg base "parts_over" 1 zab (spT K DP)):fK P w K mg base fU 2 f fd zal (spT K Mr):=
 jq (body:=Ua) F SX λcdv A outer s H E hr=>(b7 (fJ 4 SX.nd (cR DQ hr (aO (bC 0) (aO (bC 2) bF)))) (b7 (zx (i:=5) (T:=(.many 6)) (NT:=(["number","who","rank","where","first","last"]:List Str)) (NF:=(["person","over","day"]:List Str)) (js:=[1,4,3]) (mJ.ok (N0:=zak) (kj:=cZ Mm) bw rfl rfl) (⟨_,_,_,rfl,(.cons ⟨_,rfl⟩ (.cons ⟨_,rfl⟩ (.cons ⟨_,rfl⟩ (.cons ⟨_,rfl⟩ (.cons ⟨_,rfl⟩ (.cons ⟨_,rfl⟩ .nil)))))),rfl⟩) rfl (FJ (aL (bT hr (aQ 0) bZ))) (λb=>⟨(xW (PW.pt (oN (gq (nW hr.units) nZ (aQ 1) (aQ 6) (gH _)) (oN (gq (wB hr.dX) wI (aQ 3) (aQ 7) (by with_unfolding_all rfl)) (xV (Ow uG uP uG uP (aQ 4) (aQ 8) (aQ 5))))))),(bC 2)⟩) (by rfl) SX.nd rfl rfl) (iQ (am9 rfl (aQ 5) bZ rfl T.CN))))
theorem ajd(F:gw K "may_fill" "may_fill" S7 f fd)(T:Txt K mg)(Vo:dJ P w K mg base "row_of" 3 zac (spT K M3))(Uc:dJ P w K mg base "rank_of" 2 zal (spT K Mr)):fK P w K mg base fU 4 f fd zam (spT K Ef):=
 jq (body:=Hj) F DY λcdv A outer s H E hr=>(b7 (W3 (bC 2) (Ir rfl (uy (mH 4 DY.nd) (uy (mH 5 DY.nd) Ig))) (W2 (By oM (By oM V1)))) (b7 (W3 (bC 3) (Ir rfl (uy (mH 6 DY.nd) (uy (mH 7 DY.nd) (uy (mH 8 DY.nd) Ig)))) (W2 (By oM (By oM (By oM V1))))) (b7 (pI (gq (Ed hr.EY) Fq (aL (cR Uc hr (aO (bC 0) (aO (bC 6) (aO (bC 5) (aO (bC 8) bF)))))) (aQ 4) (gH _)) (iQ (bN Fo)) pH) (iQ (rM amv am1 (aL (cR Vo hr (aO (bC 0) (aO (bC 1) (aO (bC 6) (aO (bC 7) (aO (bC 8) bF))))))) (aL (bN Oi)) (gH _))))))
theorem anN(F:gw K "_law_mix" "_law_mix" Xk f fd)(T:Txt K mg):fK P w K mg base fU 1 f fd zan (spT K Jh):=
 jq (body:=Xn) F aeo λcdv A outer s H E hr=>(b7 (fJ 2 aeo.nd (eY vZ wA (aL (eY rK rN (aL (iW (aL (iW (aL (eY vZ wA (aQ 0) bZ)) (aL (eY rK rN (aL (eY rK rN (aQ 1) (aQ 1))) bZ)))) bZ)) bZ)) bZ)) (iQ (eY vZ wA (aL (eY rK rN (aQ 2) (aQ 2))) bZ)))
theorem alS(F:gw K "_law_left" "_law_left" Wj f fd)(T:Txt K mg):fK P w K mg base fU 1 f fd zao (spT K NZ):=
 jq (body:=Wq) F ac8 λcdv A outer s H E hr=>(b7 (fJ 2 ac8.nd (XC (gq (Ed hr.EY) Fq (aQ 1) (aL (adY (pv 0) rfl T.lK bw)) (gH _)) (aoV (pv 0) (aQ 1) (λ_ _=>rfl)) fY)) (iQ (gJ (aO (bT hr (aL (gJ (aO fY (aO (iZ aco aeV T.PX (dm (aQ 2) dG)) bF)))) (aL (sY Bu Cj rfl T.wN bw (dm (aL (rM apE apS (aL (iZ aco aeV T.PX (dm (aQ 2) dG))) (aL (eY Ol Ou bZ bZ)) (gH _))) dG)))) (aO (iW (aQ 2) (aL (eY rK rN bZ (aQ 1)))) (aO fY bF))))))
theorem alT(F:gw K "_law_pick" "_law_pick" Wk f fd)(T:Txt K mg)(O9:dJ P w K mg base "_law_mix" 1 zan (spT K Jh)):fK P w K mg base fU 2 f fd zap (spT K cN):=
 jq (body:=N5) F ac9 λcdv A outer s H E hr=>(b7 (W5 hr.dX (pv 0) bZ (iW (aL (Cp (pv 0) bZ (λ_ _=>rfl))) bZ)) (b7 (pI (gq apD apR (aL (Cp (pv 0) bZ (λ_ _=>rfl))) bZ (gH _)) (b7 (fJ 2 ac9.nd (eY vZ wA (aL (Cp (pv 0) bZ (λ_ _=>rfl))) (aQ 1))) (b7 (W5 hr.dX (pv 0) bZ (eY Vw VR (aL (Cp (pv 0) bZ (λ_ _=>rfl))) (aQ 1))) (jT (zF (pv 2))))) pH) (iQ (eY vZ wA (aL (eY Vw VR (aL (cR O9 hr (aO (cR O9 hr (aO (Cp (pv 0) bZ (λ_ _=>rfl)) (aO (Cp (pv 0) bZ (λ_ _=>rfl)) bF))) (aO (iW (aL (Cp (pv 0) bZ (λ_ _=>rfl))) bZ) bF)))) bZ)) (aQ 1)))))
theorem alU(n:Nat)(F:gw K "_law_same" "_law_same" Im f fd)(T:Txt K mg)(Ip:dJ P w K mg base "_law_same" (n) zaq (spT K (zG n))):fK P w K mg base fU (n+1) f fd zaq (spT K (zG (n+1))):=
 jq (body:=Ws (zG n)) F alR λcdv A outer s H E hr=>(b7 (pI (uH (aL (am8 aR aR (aQ 1) (rF (v:=.ty "list") rfl T.Jg bw rfl) (rF (v:=.ty "tuple") rfl T.vY bw rfl) rfl T.qC bw))) (b7 (pI (PW.pt (Jk (gq (Cd hr.units) Cz (aL (uJ aR (aQ 0) (rF (v:=.ty "list") rfl T.Jg bw rfl) rfl T.qC bw)) (aL (uJ aR (aQ 1) (rF (v:=.ty "list") rfl T.Jg bw rfl) rfl T.qC bw)) (gH _)) (I9 (gq (Cd hr.units) Cz (aL (uJ aR (aQ 0) (rF (v:=.ty "tuple") rfl T.vY bw rfl) rfl T.qC bw)) (aL (uJ aR (aQ 1) (rF (v:=.ty "tuple") rfl T.vY bw rfl) rfl T.qC bw)) (gH _))))) (iQ (bN Fo)) pH) (iQ (Fb (rM (nW hr.units) nZ (aL (iZ nq nC T.lK (dm (aQ 0) dG))) (aL (iZ nq nC T.lK (dm (aQ 1) dG))) (gH _)) (Ja (iZ (ak8 rfl) aoW T.XM (dm (aL (uR (T:=(.many 2)) (NT:=(["_law_one","_law_other"]:List Str)) (NF:=([]:List Str)) (js:=[]) (mJ.ok (N0:=zaq) (kj:=cZ Im) bw rfl rfl) (⟨_,_,_,rfl,(.cons ⟨_,rfl⟩ (.cons ⟨_,rfl⟩ .nil)),rfl⟩) rfl (ano rfl T.XN (dm (aQ 0) (dm (aQ 1) dG))) (λb=>⟨tH,(mF Ip hr rfl (aO (bC 0) (aO (bC 1) bF)))⟩))) dG)))))) pH) (b7 (pI (PW.pt (Jk (gq aol aoK (aQ 1) (aL (bN Oi)) (gH _)) (I9 (uH (aL (uJ aR (aQ 1) (rF (v:=.ty "str") rfl T.Js bw rfl) rfl T.qC bw)))))) (iQ (Fb (rM (nW hr.units) nZ (aQ 0) (aQ 1) (gH _)) (Ja (rM (nW hr.units) nZ (aL (uJ aR (aQ 0) (rF (v:=.ty "str") rfl T.Js bw rfl) rfl T.qC bw)) (aL (uJ aR (aQ 1) (rF (v:=.ty "str") rfl T.Js bw rfl) rfl T.qC bw)) (gH _))))) pH) (b7 (pI (uH (aL (uJ aR (aQ 1) (rF (v:=.ty "bool") rfl T.Jf bw rfl) rfl T.qC bw))) (iQ (Fb (uJ aR (aQ 0) (rF (v:=.ty "bool") rfl T.Jf bw rfl) rfl T.qC bw) (Ja (rM (nW hr.units) nZ (aQ 0) (aQ 1) (gH _))))) pH) (iQ (Fb (uJ aR (aQ 0) (rF (v:=.ty "int") rfl T.wN bw rfl) rfl T.qC bw) (Fb (aoP (uJ aR (aQ 0) (rF (v:=.ty "bool") rfl T.Jf bw rfl) rfl T.qC bw)) (Ja (rM (nW hr.units) nZ (aQ 0) (aQ 1) (gH _)))))))))
theorem ace(hm:mg "_law_same"=aa (.ref f))(hk:DG K (.ref f)=aq)(hb:Binds K fd zaq [])(F:gw K "_law_same" "_law_same" Im f fd)(T:Txt K mg):
  ∀n,dJ P w K mg base "_law_same" (n) zaq (spT K (zG n))
 |0=>⟨f,fd,hm,hk,hb,anb⟩
 |n+1=>⟨f,fd,hm,hk,hb,alU n F T (ace hm hk hb F T n)⟩
theorem akF(F:gw K "_law_names" "_law_names" Ek f fd)(T:Txt K mg)(dw:dJ P w K mg base "_law_pick" 2 zap (spT K cN)):fK P w K mg base fU 3 f fd zap (spT K M5):=
 jq (body:=M4) F vO λcdv A outer s H E hr=>(b7 (fJ 2 vO.nd (bN di)) (b7 (fJ 3 vO.nd (ad3 (aL (bN di)) (aL (uR (T:=.one) (NT:=zbe) (NF:=zbf) (js:=[2,0]) (mJ.ok (N0:=zar) (kj:=cZ Ek) bw rfl rfl) (⟨_,⟨_,rfl⟩,rfl⟩) rfl (vW rfl T.p7 (aL (cR dw hr (aO (bC 0) (aO fY bF))))) (λb=>⟨tH,(bT hr (aQ 1) (aL (cR dw hr (aO (bC 2) (aO fY bF)))))⟩))))) (b7 (fJ 4 vO.nd (ad3 (aL (bN di)) (aL (uR (T:=.one) (NT:=zbe) (NF:=zbf) (js:=[2,0]) (mJ.ok (N0:=zar) (kj:=cZ Ek) bw rfl rfl) (⟨_,⟨_,rfl⟩,rfl⟩) rfl (vW rfl T.p7 (aL (cR dw hr (aO (bC 0) (aO fY bF))))) (λb=>⟨tH,(bT hr (aQ 1) (aL (cR dw hr (aO (bC 2) (aO fY bF)))))⟩))))) (b7 (adU (is:=[5,6]) (rJ (cR dw hr (aO (bC 0) (aO fY bF))) (rJ (bT hr (aL (gJ (aO fY (aO fY (aO fY (aO fY (aO fY (aO fY bF)))))))) (aL (cR dw hr (aO (bC 0) (aO fY bF))))) Fd)) (Ir rfl (uy (mH 5 vO.nd) (uy (mH 6 vO.nd) Ig)))) (b7 (pI (gq (nW hr.units) nZ (aL (cR dw hr (aO (bC 0) (aO fY bF)))) bZ (gH _)) (iQ (uR (T:=.one) (NT:=(["_law_k"]:List Str)) (NF:=(["_law_letters","_law_first","_law_by"]:List Str)) (js:=[2,5,6]) (mJ.ok (N0:=zar) (kj:=cZ Ek) bw rfl rfl) (⟨_,⟨_,rfl⟩,rfl⟩) rfl (vW rfl T.p7 (aQ 1)) (λb=>⟨tH,(bT hr (aQ 1) (aL (eY vZ wA (aL (iW (aQ 2) (aL (eY rK rN (aQ 3) (aQ 0))))) bZ)))⟩))) pH) (b7 (fJ 7 vO.nd (gJ bF)) (b7 (wF oG rfl (vW rfl T.p7 (aQ 1)) (mH 8 vO.nd) oM (b7 (fJ 9 vO.nd (eY vZ wA (aL (iW (aQ 5) (aL (eY rK rN (aQ 6) (aQ 8))))) bZ)) (b7 (fJ 10 vO.nd (CJ (aQ 4) Jo (yp (aL (eY vZ wA (aL (iW (aL (eY rK rN (aQ 8) (aQ 8))) (aQ 5))) bZ))))) (jT (Cg (pv 7) (iW (aL (iW (aL (iW (aQ 3) (aL (bT hr (aQ 2) (aL (eY Vw VR (aQ 9) bZ)))))) (aL (bT hr (aQ 2) (aL (eY vZ wA (aQ 9) bZ)))))) (aQ 10))))))) (jT (zF (pv 7))))))))))
theorem alV(F:gw K "_law_days" "_law_days" Wl f fd)(T:Txt K mg)(dw:dJ P w K mg base "_law_pick" 2 zap (spT K cN)):fK P w K mg base fU 3 f fd zas (spT K BW):=
 jq (body:=N6) F ada λcdv A outer s H E hr=>(b7 (W4 (i:=2) (j:=3) rfl ada.nd rfl rfl aR rfl rfl (rJ (eY rK rN (aL (cR dw hr (aO (bC 0) (aO fY bF)))) (aL (bT hr (aQ 1) (aL (bN di))))) (rJ (eY rK rN (aL (cR dw hr (aO (bC 0) (aO fY bF)))) (aL (bT hr (aQ 1) (aL (bN di))))) Fd)) rfl) (iQ (bT hr (aL (gJ (aO (lR (aO (iZ (abI rfl) ad0 T.Jr (dm (aQ 2) (dm (aQ 3) dG))) (aO (iZ (abH rfl) adZ T.CN (dm (aQ 2) (dm (aQ 3) dG))) bF))) (aO (lR (aO fY (aO fY bF))) bF)))) (aL (sY Bu Cj rfl T.wN bw (dm (aL (rM (nW hr.units) nZ (aL (cR dw hr (aO (bC 0) (aO fY bF)))) bZ (gH _))) dG))))))
theorem anO(F:gw K "_law_sum" "_law_sum" Xl f fd)(T:Txt K mg)(dw:dJ P w K mg base "_law_pick" 2 zap (spT K cN)):fK P w K mg base fU 3 f fd zas (spT K uL):=
 jq (body:=Xo) F anL λcdv A outer s H E hr=>(iQ (bT hr (aL (iW (aL (bT hr (aQ 1) (aL (bN di)))) (aL (gJ (aO (cR dw hr (aO (bC 0) (aO (iW (aL (eY Ol Ou bZ bZ)) bZ) bF))) bF))))) (aL (cR dw hr (aO (bC 0) (aO fY bF))))))
theorem alW(F:gw K "_law_leaf" "_law_leaf" Wm f fd)(T:Txt K mg)(dw:dJ P w K mg base "_law_pick" 2 zap (spT K cN))(Ew:dJ P w K mg base "_law_days" 3 zas (spT K BW))(wH:dJ P w K mg base "_law_sum" 3 zas (spT K uL)):fK P w K mg base fU 4 f fd zat (spT K N7):=
 jq (body:=Wt) F HQ λcdv A outer s H E hr=>(b7 (W4 (i:=3) (j:=4) rfl HQ.nd rfl rfl aR rfl rfl (rJ (bT hr (aQ 1) (aL (bN di))) (rJ (iZ (za rfl) zy T.qF (dm (aL (bT hr (aQ 1) (aL (bN di)))) dG)) Fd)) rfl) (b7 (W4 (i:=5) (j:=6) rfl HQ.nd rfl rfl aR rfl rfl (rJ (cR dw hr (aO (bC 0) (aO (iZ nq nC T.lK (dm (aQ 3) dG)) bF))) (rJ (iW bZ (aL (cR dw hr (aO (bC 0) (aO (eY aoj aoJ (aL (iZ nq nC T.lK (dm (aQ 3) dG))) bZ) bF))))) Fd)) rfl) (b7 (fJ 7 HQ.nd (bT hr (aL (iW (aQ 4) (aL (gJ (aO (bT hr (aQ 1) (aL (bN di))) (aO (bT hr (aQ 1) (aL (bN di))) bF)))))) (aL (cR dw hr (aO (bC 0) (aO (iW (aL (iZ nq nC T.lK (dm (aQ 4) dG))) bZ) bF)))))) (b7 (fJ 8 HQ.nd (lR (aO (bT hr (aQ 3) (aQ 5)) (aO (bT hr (aQ 3) (aL (eY vZ wA (aL (iW (aQ 5) (aQ 6))) (aL (iZ nq nC T.lK (dm (aQ 3) dG)))))) bF)))) (iQ (iW (aL (iW (aL (iW (aL (iW (aL (lR (aO (bC 2) bF))) (aQ 8))) (aL (lR (aO (bC 7) bF))))) (aL (cR Ew hr (aO (bC 0) (aO (bC 1) bF)))))) (aL (lR (aO (iZ (abH rfl) adZ T.CN (dm (aL (cR wH hr (aO (bC 0) (aO (bC 1) bF)))) (dm (aL (cR wH hr (aO (bC 0) (aO (bC 1) bF)))) dG))) bF)))))))))
theorem akG(F:gw K "_law_seats" "_law_seats" Ve f fd)(T:Txt K mg)(dw:dJ P w K mg base "_law_pick" 2 zap (spT K cN)):fK P w K mg base fU 3 f fd zau (spT K HY):=
 jq (body:=Vh) F Mp λcdv A outer s H E hr=>(b7 (fJ 3 Mp.nd (iW (aL (iZ (za rfl) zy T.qF (dm (aL (bT hr (aQ 1) (aL (bN di)))) dG))) (aL (gJ (aO (bN di) (aO (bN di) (aO (bN di) bF))))))) (b7 (fJ 4 Mp.nd (gJ bF)) (b7 (wF oG rfl (vW rfl T.p7 (aL (cR dw hr (aO (bC 0) (aO (iW (aQ 2) bZ) bF))))) (mH 5 Mp.nd) oM (jT (Cg (pv 4) (lR (aO (bT hr (aL (gJ (aO fY (aO fY (aO fY (aO fY (aO fY (aO fY bF)))))))) (aL (cR dw hr (aO (bC 0) (aO fY bF))))) (aO (bT hr (aQ 3) (aL (cR dw hr (aO (bC 0) (aO (iZ nq nC T.lK (dm (aQ 3) dG)) bF))))) bF)))))) (iQ (sY G5 HF rfl T.vY bw (dm (aQ 4) dG))))))
theorem alX(F:gw K "_law_over" "_law_over" Wn f fd)(T:Txt K mg):fK P w K mg base fU 1 f fd zaz (spT K qI):=
 jq (body:=Wu) F Vf λcdv A outer s H E hr=>(b7 (fJ 2 Vf.nd (gJ bF)) (b7 (HD oG (PW.pt (oN (gq (Cd hr.units) Cz (aQ 1) (aL (bN di)) (gH _)) (xV (gq (wB hr.dX) wI (aQ 1) (aL (bT hr (aQ 0) (aL (bN di)))) (by with_unfolding_all rfl))))) (b7 (Cg (pv 2) (bC 1)) (jT (fJ 1 Vf.nd (bT hr (aL (bT hr (aQ 0) (aL (bN di)))) (aQ 1)))))) (jT (zF (pv 2)))))
theorem akH(F:gw K "_law_drawn" "_law_drawn" MN f fd)(T:Txt K mg)(dw:dJ P w K mg base "_law_pick" 2 zap (spT K cN))(Vp:dJ P w K mg base "_law_names" 3 zap (spT K M5))(Ew:dJ P w K mg base "_law_days" 3 zas (spT K BW))(wH:dJ P w K mg base "_law_sum" 3 zas (spT K uL))(Wx:dJ P w K mg base "_law_leaf" 4 zat (spT K N7))(Vq:dJ P w K mg base "_law_seats" 3 zau (spT K HY))(tO:dJ P w K mg base "_law_over" 1 zaz (spT K qI)):fK P w K mg base fU 5 f fd zaw (spT K M7):=
 jq (body:=M6) F vP λcdv A outer s H E hr=>(@b7 _ _ _ _ _ (aeR (i:=2) vP.nd rfl (qb rfl) (mF Vp (hr.mono aR) rfl (@aO _ _ _ _ _ (@jB _ _ _ (pv 0)) (@aO _ _ _ _ _ (bN gn) bF (by rfl)) (by rfl)))) (@ape _ _ _ _ _ _ _ _ _ _ _ _ vP.nd rfl (xZ rfl) (rm.cons di acK (rm.cons di (@lF _ _ _ _ _ _ _ _ (j8 hr.dX) lG (@aL _ _ _ (@gJ _ _ _ _ (@aO _ _ _ _ _ (bN gn) (@aO _ _ _ _ _ (bN gn) (@aO _ _ _ _ _ (bN gn) (@aO _ _ _ _ _ (bN gn) bF (by rfl)) (by rfl)) (by rfl)) (by rfl)))) (@aL _ _ _ (mF dw (hr.mono aR) rfl (@aO _ _ _ _ _ (@jB _ _ _ (pv 0)) (@aO _ _ _ _ _ (bN gn) bF (by rfl)) (by rfl)))) (λ_ _=>rfl)) (rm.cons di acK rm.nil))) (@tL _ _ _ _ _ _ (@Xi _ _ _ _ _ _ _ _ _ _ _ _ oG rfl vP.nd rfl (qb rfl) rfl T.p7 (@aL _ _ _ (@lF _ _ _ _ _ _ _ _ (j8 hr.dX) lG (@aL _ _ _ (@gJ _ _ _ _ (@aO _ _ _ _ _ (@eY _ _ _ _ _ _ _ _ _ p6 qg (@aL _ _ _ (bN gn)) (@aL _ _ _ (mF dw (hr.mono aR) rfl (@aO _ _ _ _ _ (@jB _ _ _ (pv 0)) (@aO _ _ _ _ _ (bN gn) bF (by rfl)) (by rfl))))) (@aO _ _ _ _ _ (bN gn) bF (by rfl)) (by rfl)))) (@aL _ _ _ (sY Bu Cj rfl T.wN bw (@dm _ _ _ _ _ (@j7 _ _ _ (pv 1)) dG (by rfl)))) (λ_ _=>rfl))) (@O5 _ _ _ _ (@aef _ _ _ _ _ _ _ _ _ _ _ _ hr.dX (pv 3) di (λ_ _=>rfl) (@aL _ _ _ (@lF _ _ _ _ _ _ _ _ (j8 hr.dX) lG (@j7 _ _ _ (pv 2)) (@j7 _ _ _ (pv 4)) (λ_ _=>rfl))) (@lF _ _ _ _ _ _ _ _ (j8 hr.dX) lG (@aL _ _ _ (@eY _ _ _ _ _ _ _ _ _ p6 qg (@aL _ _ _ (@gJ _ _ _ _ (@aO _ _ _ _ _ (bN di) bF (by rfl)))) (@aL _ _ _ (@CJ _ _ _ _ _ _ _ _ _ (@j7 _ _ _ (pv 2)) Jo (@yp _ _ _ (@j7 _ _ _ (pv 4))))))) (@aL _ _ _ (mF dw (hr.mono aR) rfl (@aO _ _ _ _ _ (@jB _ _ _ (pv 0)) (@aO _ _ _ _ _ (@eY _ _ _ _ _ _ _ _ _ p6 qg (@aL _ _ _ (bN gn)) (@j7 _ _ _ (pv 4))) bF (by rfl)) (by rfl)))) (λ_ _=>rfl)) (by intro _;rfl) (by rfl) (by rfl) (by rfl))) (by rfl) (by rfl) (by first|exact .inl rfl|exact .inr rfl|assumption) (by intro _;rfl)) (@tL _ _ _ _ _ _ (@Jd _ _ _ _ _ _ _ _ _ hr.dX (pv 3) (@aL _ _ _ (bN di)) (@CJ _ _ _ _ _ _ _ _ _ (@j7 _ _ _ (pv 2)) (@yp _ _ _ (@aL _ _ _ (bN gn))) (@yp _ _ _ (@aL _ _ _ (@eY _ _ _ _ _ _ _ _ _ p6 qg (@aL _ _ _ (bN gn)) (@aL _ _ _ (@lF _ _ _ _ _ _ _ _ (j8 hr.dX) lG (@aL _ _ _ (@gJ _ _ _ _ (@aO _ _ _ _ _ (@eY _ _ _ _ _ _ _ _ _ p6 qg (@aL _ _ _ (bN gn)) (@aL _ _ _ (mF dw (hr.mono aR) rfl (@aO _ _ _ _ _ (@jB _ _ _ (pv 0)) (@aO _ _ _ _ _ (bN gn) bF (by rfl)) (by rfl))))) (@aO _ _ _ _ _ (bN gn) bF (by rfl)) (by rfl)))) (@aL _ _ _ (sY Bu Cj rfl T.wN bw (@dm _ _ _ _ _ (@j7 _ _ _ (pv 1)) dG (by rfl)))) (λ_ _=>rfl))))))) (by intro _;rfl) (by rfl) (by rfl) (by rfl)) (@tL _ _ _ _ _ _ (@Jd _ _ _ _ _ _ _ _ _ hr.dX (pv 3) (@aL _ _ _ (bN di)) (@lF _ _ _ _ _ _ _ _ (j8 hr.dX) lG (@aL _ _ _ (zq (za rfl) zy rfl T.qF bw (@dm _ _ _ _ _ (@aL _ _ _ (@lF _ _ _ _ _ _ _ _ (j8 hr.dX) lG (@j7 _ _ _ (pv 3)) (@aL _ _ _ (bN di)) (λ_ _=>rfl))) dG (by rfl)))) (@aL _ _ _ (mF dw (hr.mono aR) rfl (@aO _ _ _ _ _ (@jB _ _ _ (pv 0)) (@aO _ _ _ _ _ (zq nq nC rfl T.lK bw (@dm _ _ _ _ _ (@aL _ _ _ (@lF _ _ _ _ _ _ _ _ (j8 hr.dX) lG (@j7 _ _ _ (pv 3)) (@aL _ _ _ (bN di)) (λ_ _=>rfl))) dG (by rfl))) bF (by rfl)) (by rfl)))) (λ_ _=>rfl)) (by intro _;rfl) (by rfl) (by rfl) (by rfl)) (@tL _ _ _ _ _ _ (@O4 _ _ _ _ _ _ _ _ vP.nd rfl (qb rfl) (mF dw (hr.mono aR) rfl (@aO _ _ _ _ _ (@jB _ _ _ (pv 0)) (@aO _ _ _ _ _ (@eY _ _ _ _ _ _ _ _ _ Ol Ou (@aL _ _ _ (bN gn)) (@aL _ _ _ (bN gn))) bF (by rfl)) (by rfl))) (by rfl) (by first|exact .inl rfl|exact .inr rfl|assumption)) (@tL _ _ _ _ _ _ (@Jd _ _ _ _ _ _ _ _ _ hr.dX (pv 3) (@aL _ _ _ (bN di)) (@CJ _ _ _ _ _ _ _ _ _ (@aL _ _ _ (@gJ _ _ _ _ (@aO _ _ _ _ _ (bN gn) (@aO _ _ _ _ _ (@jB _ _ _ (pv 5)) (@aO _ _ _ _ _ (@jB _ _ _ (pv 5)) (@aO _ _ _ _ _ (@eY _ _ _ _ _ _ _ _ _ p6 qg (@j7 _ _ _ (pv 5)) (@aL _ _ _ (bN gn))) (@aO _ _ _ _ _ (@eY _ _ _ _ _ _ _ _ _ Ol Ou (@aL _ _ _ (bN gn)) (@aL _ _ _ (bN gn))) (@aO _ _ _ _ _ (bN gn) bF (by rfl)) (by rfl)) (by rfl)) (by rfl)) (by rfl)) (by rfl)))) Jo (@yp _ _ _ (@aL _ _ _ (bN gn)))) (by intro _;rfl) (by rfl) (by rfl) (by rfl)) (@tL _ _ _ _ _ _ (@Jd _ _ _ _ _ _ _ _ _ hr.dX (pv 3) (@aL _ _ _ (bN di)) (@gJ _ _ _ _ bF) (by intro _;rfl) (by rfl) (by rfl) (by rfl)) (@tL _ _ _ _ _ _ (@Xi _ _ _ _ _ _ _ _ _ _ _ _ oG rfl vP.nd rfl (qb rfl) rfl T.p7 (@aL _ _ _ (@lF _ _ _ _ _ _ _ _ (j8 hr.dX) lG (@aL _ _ _ (@gJ _ _ _ _ (@aO _ _ _ _ _ (@eY _ _ _ _ _ _ _ _ _ p6 qg (@aL _ _ _ (bN gn)) (@aL _ _ _ (mF dw (hr.mono aR) rfl (@aO _ _ _ _ _ (@jB _ _ _ (pv 0)) (@aO _ _ _ _ _ (bN gn) bF (by rfl)) (by rfl))))) (@aO _ _ _ _ _ (bN gn) bF (by rfl)) (by rfl)))) (@aL _ _ _ (sY Bu Cj rfl T.wN bw (@dm _ _ _ _ _ (@j7 _ _ _ (pv 1)) dG (by rfl)))) (λ_ _=>rfl))) (@tL _ _ _ _ _ _ (@O4 _ _ _ _ _ _ _ _ vP.nd rfl (qb rfl) (@eY _ _ _ _ _ _ _ _ _ p6 qg (@aL _ _ _ (zq (za rfl) zy rfl T.qF bw (@dm _ _ _ _ _ (@aL _ _ _ (@lF _ _ _ _ _ _ _ _ (j8 hr.dX) lG (@j7 _ _ _ (pv 3)) (@aL _ _ _ (bN di)) (λ_ _=>rfl))) dG (by rfl)))) (@aL _ _ _ (@eY _ _ _ _ _ _ _ _ _ aea aec (@aL _ _ _ (mF tO (hr.mono aR) rfl (@aO _ _ _ _ _ (@jB _ _ _ (pv 3)) (@aO _ _ _ _ _ (@lF _ _ _ _ _ _ _ _ (j8 hr.dX) lG (@j7 _ _ _ (pv 3)) (@aL _ _ _ (bN di)) (λ_ _=>rfl)) bF (by rfl)) (by rfl)))) (@aL _ _ _ (bN gn))))) (by rfl) (by first|exact .inl rfl|exact .inr rfl|assumption)) (@tL _ _ _ _ _ _ (@O4 _ _ _ _ _ _ _ _ vP.nd rfl (qb rfl) (@lR _ _ _ _ _ (@aO _ _ _ _ _ (@lF _ _ _ _ _ _ _ _ (j8 hr.dX) lG (@aL _ _ _ (@lF _ _ _ _ _ _ _ _ (j8 hr.dX) lG (@j7 _ _ _ (pv 3)) (@aL _ _ _ (bN di)) (λ_ _=>rfl))) (@aL _ _ _ (mF dw (hr.mono aR) rfl (@aO _ _ _ _ _ (@jB _ _ _ (pv 0)) (@aO _ _ _ _ _ (zq nq nC rfl T.lK bw (@dm _ _ _ _ _ (@aL _ _ _ (@lF _ _ _ _ _ _ _ _ (j8 hr.dX) lG (@j7 _ _ _ (pv 3)) (@aL _ _ _ (bN di)) (λ_ _=>rfl))) dG (by rfl))) bF (by rfl)) (by rfl)))) (λ_ _=>rfl)) (@aO _ _ _ _ _ (@lF _ _ _ _ _ _ _ _ (j8 hr.dX) lG (@aL _ _ _ (@gJ _ _ _ _ (@aO _ _ _ _ _ (bN gn) (@aO _ _ _ _ _ (bN gn) (@aO _ _ _ _ _ (bN gn) (@aO _ _ _ _ _ (bN gn) bF (by rfl)) (by rfl)) (by rfl)) (by rfl)))) (@aL _ _ _ (mF dw (hr.mono aR) rfl (@aO _ _ _ _ _ (@jB _ _ _ (pv 0)) (@aO _ _ _ _ _ (bN gn) bF (by rfl)) (by rfl)))) (λ_ _=>rfl)) bF (by rfl)) (by rfl))) (by rfl) (by first|exact .inl rfl|exact .inr rfl|assumption)) (@O5 _ _ _ _ (@apc _ _ _ _ _ _ _ _ _ _ _ hr.dX (pv 3) di (λ_ _=>rfl) (@eY _ _ _ _ _ _ _ _ _ p6 qg (@aL _ _ _ (@eY _ _ _ _ _ _ _ _ _ p6 qg (@aL _ _ _ (@eY _ _ _ _ _ _ _ _ _ p6 qg (@aL _ _ _ (@lR _ _ _ _ _ (@aO _ _ _ _ _ (@jB _ _ _ (pv 6)) bF (by rfl)))) (@j7 _ _ _ (pv 8)))) (@aL _ _ _ (@lR _ _ _ _ _ (@aO _ _ _ _ _ (@lF _ _ _ _ _ _ _ _ (j8 hr.dX) lG (@j7 _ _ _ (pv 7)) (@aL _ _ _ (mF dw (hr.mono aR) rfl (@aO _ _ _ _ _ (@jB _ _ _ (pv 0)) (@aO _ _ _ _ _ (zq nq nC rfl T.lK bw (@dm _ _ _ _ _ (@j7 _ _ _ (pv 7)) dG (by rfl))) bF (by rfl)) (by rfl)))) (λ_ _=>rfl)) bF (by rfl)))))) (@aL _ _ _ (mF Ew (hr.mono aR) rfl (@aO _ _ _ _ _ (@jB _ _ _ (pv 0)) (@aO _ _ _ _ _ (@jB _ _ _ (pv 3)) bF (by rfl)) (by rfl))))) (by rfl) (by rfl) (by rfl) (by rfl) (by rfl) (by rfl))))) (by rfl) (by rfl) (by first|exact .inl rfl|exact .inr rfl|assumption) (by intro _;rfl)) (@tL _ _ _ _ _ _ (@Jd _ _ _ _ _ _ _ _ _ hr.dX (pv 3) (@aL _ _ _ (bN di)) (uR (T:=.one) (NT:=(["_law_n"]:List Str)) (NF:=zas) (js:=[0,3]) (mJ.ok (N0:=zav) (kj:=cZ MN) bw rfl rfl) (⟨_,⟨_,rfl⟩,rfl⟩) rfl (vW rfl T.p7 (@aL _ _ _ (@lF _ _ _ _ _ _ _ _ (j8 hr.dX) lG (@aL _ _ _ (@gJ _ _ _ _ (@aO _ _ _ _ _ (mF dw (hr.mono aR) rfl (@aO _ _ _ _ _ (@jB _ _ _ (pv 0)) (@aO _ _ _ _ _ (bN gn) bF (by rfl)) (by rfl))) (@aO _ _ _ _ _ (bN gn) bF (by rfl)) (by rfl)))) (@aL _ _ _ (sY Bu Cj rfl T.wN bw (@dm _ _ _ _ _ (@j7 _ _ _ (pv 1)) dG (by rfl)))) (λ_ _=>rfl)))) (λb=>⟨tH,(mF Wx (hr.mono aR) rfl (@aO _ _ _ _ _ (@jB _ _ _ (pv 1)) (@aO _ _ _ _ _ (@jB _ _ _ (pv 2)) (@aO _ _ _ _ _ (@jB _ _ _ (pv 0)) bF (by rfl)) (by rfl)) (by rfl)))⟩)) (by intro _;rfl) (by rfl) (by rfl) (by rfl)) (@tL _ _ _ _ _ _ (@Xi _ _ _ _ _ _ _ _ _ _ _ _ oG rfl vP.nd rfl (qb rfl) rfl T.p7 (@aL _ _ _ (@lF _ _ _ _ _ _ _ _ (j8 hr.dX) lG (@aL _ _ _ (@gJ _ _ _ _ (@aO _ _ _ _ _ (@eY _ _ _ _ _ _ _ _ _ p6 qg (@aL _ _ _ (bN gn)) (@aL _ _ _ (mF dw (hr.mono aR) rfl (@aO _ _ _ _ _ (@jB _ _ _ (pv 0)) (@aO _ _ _ _ _ (bN gn) bF (by rfl)) (by rfl))))) (@aO _ _ _ _ _ (bN gn) bF (by rfl)) (by rfl)))) (@aL _ _ _ (sY Bu Cj rfl T.wN bw (@dm _ _ _ _ _ (@j7 _ _ _ (pv 1)) dG (by rfl)))) (λ_ _=>rfl))) (@tL _ _ _ _ _ _ (@O4 _ _ _ _ _ _ _ _ vP.nd rfl (qb rfl) (@lF _ _ _ _ _ _ _ _ (j8 hr.dX) lG (@aL _ _ _ (@eY _ _ _ _ _ _ _ _ _ p6 qg (@aL _ _ _ (zq (za rfl) zy rfl T.qF bw (@dm _ _ _ _ _ (@aL _ _ _ (@lF _ _ _ _ _ _ _ _ (j8 hr.dX) lG (@j7 _ _ _ (pv 3)) (@aL _ _ _ (bN di)) (λ_ _=>rfl))) dG (by rfl)))) (@aL _ _ _ (@gJ _ _ _ _ (@aO _ _ _ _ _ (@lF _ _ _ _ _ _ _ _ (j8 hr.dX) lG (@j7 _ _ _ (pv 3)) (@aL _ _ _ (bN di)) (λ_ _=>rfl)) bF (by rfl)))))) (@aL _ _ _ (mF dw (hr.mono aR) rfl (@aO _ _ _ _ _ (@jB _ _ _ (pv 0)) (@aO _ _ _ _ _ (@eY _ _ _ _ _ _ _ _ _ p6 qg (@aL _ _ _ (zq nq nC rfl T.lK bw (@dm _ _ _ _ _ (@aL _ _ _ (@lF _ _ _ _ _ _ _ _ (j8 hr.dX) lG (@j7 _ _ _ (pv 3)) (@aL _ _ _ (bN di)) (λ_ _=>rfl))) dG (by rfl)))) (@aL _ _ _ (bN gn))) bF (by rfl)) (by rfl)))) (λ_ _=>rfl)) (by rfl) (by first|exact .inl rfl|exact .inr rfl|assumption)) (@O5 _ _ _ _ (@aef _ _ _ _ _ _ _ _ _ _ _ _ hr.dX (pv 3) di (λ_ _=>rfl) (@aL _ _ _ (@lR _ _ _ _ _ (@aO _ _ _ _ _ (@jB _ _ _ (pv 7)) (@aO _ _ _ _ _ (mF wH (hr.mono aR) rfl (@aO _ _ _ _ _ (@jB _ _ _ (pv 0)) (@aO _ _ _ _ _ (@jB _ _ _ (pv 3)) bF (by rfl)) (by rfl))) bF (by rfl)) (by rfl)))) (mF Vq (hr.mono aR) rfl (@aO _ _ _ _ _ (@jB _ _ _ (pv 0)) (@aO _ _ _ _ _ (@jB _ _ _ (pv 3)) (@aO _ _ _ _ _ (bN gn) bF (by rfl)) (by rfl)) (by rfl))) (by intro _;rfl) (by rfl) (by rfl) (by rfl)))) (by rfl) (by rfl) (by first|exact .inl rfl|exact .inr rfl|assumption) (by intro _;rfl)) (@O5 _ _ _ _ (@apa _ _ _ _ (pv 3)))))))))))) bI aR (by rfl) (by first|exact .inl rfl|exact .inr rfl|assumption)))
theorem akI(F:gw K "_law_house" "_law_house" HR f fd)(T:Txt K mg):fK P w K mg base fU 1 f fd zay (spT K BJ):=
 jq (body:=Vi) F T7 λcdv A outer s H E hr=>(b7 (fJ 1 T7.nd (sY G5 HF rfl T.vY bw (dm (aL (uR (T:=.one) (NT:=(["_law_part"]:List Str)) (NF:=zay) (js:=[0]) (mJ.ok (N0:=zax) (kj:=cZ HR) bw rfl rfl) (⟨_,⟨_,rfl⟩,rfl⟩) rfl (Ad (aL (iZ (za rfl) zy T.qF (dm (aL (bT hr (aQ 0) (aL (bN di)))) dG)))) (λb=>⟨tH,(lR (aO (bC 0) (aO (bT hr (aL (bT hr (aQ 1) (aL (bN di)))) (aQ 0)) bF)))⟩))) dG))) (b7 (fJ 2 T7.nd (sY G5 HF rfl T.vY bw (dm (aL (uR (T:=.one) (NT:=(["_law_key"]:List Str)) (NF:=zay) (js:=[0]) (mJ.ok (N0:=zax) (kj:=cZ HR) bw rfl rfl) (⟨_,⟨_,rfl⟩,rfl⟩) rfl (Ad (aL (iZ (ajM rfl) alN T.qF (dm (aL (bT hr (aQ 0) (aL (bN di)))) dG)))) (λb=>⟨tH,(iW (aQ 0) (aL (lR (aO (bT hr (aL (bT hr (aQ 1) (aL (bN di)))) (aQ 0)) bF))))⟩))) dG))) (iQ (lR (aO (bC 1) (aO (sY G5 HF rfl T.vY bw (dm (aL (iZ (SJ rfl) U7 T.qF (dm (aL (bT hr (aQ 0) (aL (bN di)))) dG))) dG)) (aO (sY G5 HF rfl T.vY bw (dm (aL (iZ (SJ rfl) U7 T.qF (dm (aL (bT hr (aQ 0) (aL (bN di)))) dG))) dG)) (aO (bC 2) bF))))))))
theorem alY(F:gw K "_law_rank" "_law_rank" NP f fd)(T:Txt K mg)(tO:dJ P w K mg base "_law_over" 1 zaz (spT K qI)):fK P w K mg base fU 2 f fd za1 (spT K N8):=
 jq (body:=Wv) F Vg λcdv A outer s H E hr=>(b7 (fJ 4 Vg.nd (cR tO hr (aO (bC 0) (aO (bC 2) bF)))) (b7 (zx (i:=5) (T:=.one) (NT:=(["_law_row"]:List Str)) (NF:=(["_law_person","_law_over_here","_law_day"]:List Str)) (js:=[1,4,3]) (mJ.ok (N0:=za0) (kj:=cZ NP) bw rfl rfl) (⟨_,⟨_,rfl⟩,rfl⟩) rfl (Ad (aL (bT hr (aQ 0) (aL (bN di))))) (λb=>⟨(xW (PW.pt (oN (gq (nW hr.units) nZ (aL (bT hr (aQ 0) bZ)) (aQ 1) (gH _)) (oN (gq (wB hr.dX) wI (aL (bT hr (aQ 0) bZ)) (aQ 2) (by with_unfolding_all rfl)) (xV (Ow uG uP uG uP (aL (bT hr (aQ 0) bZ)) (aQ 3) (aL (bT hr (aQ 0) bZ)))))))),(bT hr (aQ 0) bZ)⟩) (by rfl) Vg.nd rfl rfl) (iQ (iZ (abu rfl) ad4 T.CN (dm (aL (iW (aQ 5) (aL (gJ (aO fY bF))))) dG)))))
theorem alZ(F:gw K "_law_owed" "_law_owed" Eu f fd)(T:Txt K mg)(tO:dJ P w K mg base "_law_over" 1 zaz (spT K qI)):fK P w K mg base fU 2 f fd za3 (spT K Io):=
 jq (body:=Oa) F HS λcdv A outer s H E hr=>(b7 (wF oG rfl (JB (cR tO hr (aO (bC 0) (aO (bC 1) bF)))) (mH 3 HS.nd) oM (b7 (zx (i:=4) (T:=.one) (NT:=(["_law_key"]:List Str)) (NF:=(["_law_one"]:List Str)) (js:=[3]) (mJ.ok (N0:=za2) (kj:=cZ Eu) bw rfl rfl) (⟨_,⟨_,rfl⟩,rfl⟩) rfl (aqq (aL (bT hr (aQ 0) (aL (bN di))))) (λb=>⟨(xW (gq (nW hr.units) nZ (aL (bT hr (aQ 0) bZ)) (aQ 1) (gH _))),(bT hr (aQ 0) bZ)⟩) (by rfl) HS.nd rfl rfl) (jT (pI (gq (Cd hr.units) Cz (aQ 4) (aL (gJ bF)) (gH _)) (b7 (zx (i:=5) (T:=.one) (NT:=(["_law_number"]:List Str)) (NF:=(["_law_sum_there"]:List Str)) (js:=[2]) (mJ.ok (N0:=za2) (kj:=cZ Eu) bw rfl rfl) (⟨_,⟨_,rfl⟩,rfl⟩) rfl (Ad (aQ 4)) (λb=>⟨(xW (gq uG uP (aQ 0) (aQ 1) (gH _))),(bC 0)⟩) (by rfl) HS.nd rfl rfl) (b7 (fJ 6 HS.nd (XC (gq (Cd hr.units) Cz (aQ 5) (aL (gJ bF)) (gH _)) (bT hr (aL (bT hr (aQ 0) (aL (bN di)))) (aL (lR (aO (bC 3) (aO (iZ (abu rfl) ad4 T.CN (dm (aQ 5) dG)) bF))))) (lR bF))) (iQ (uR (T:=(.many 2)) (NT:=(["_law_rank_here","_law_there"]:List Str)) (NF:=(["_law_part"]:List Str)) (js:=[1]) (mJ.ok (N0:=za2) (kj:=cZ Eu) bw rfl rfl) (⟨_,_,_,rfl,(.cons ⟨_,rfl⟩ (.cons ⟨_,rfl⟩ .nil)),rfl⟩) rfl (FJ (aQ 6)) (λb=>⟨tH,(lR (aO (bC 0) (aO (XC (gq (Cd hr.units) Cz (aQ 1) (aL (bN di)) (gH _)) (bC 1) (bC 2)) bF)))⟩))))) pH)))) (iQ (gJ bF)))
theorem al0(F:gw K "_law_lets" "_law_lets" NQ f fd)(T:Txt K mg)(tO:dJ P w K mg base "_law_over" 1 zaz (spT K qI)):fK P w K mg base fU 2 f fd za5 (spT K Oc):=
 jq (body:=Ww) F adb λcdv A outer s H E hr=>(b7 (fJ 3 adb.nd (cR tO hr (aO (bC 0) (aO (bT hr (aQ 1) bZ) bF)))) (iQ (uR (T:=.one) (NT:=(["_law_row"]:List Str)) (NF:=(["_law_over_here","_law_day","_law_paper_here"]:List Str)) (js:=[3,2,1]) (mJ.ok (N0:=za4) (kj:=cZ NQ) bw rfl rfl) (⟨_,⟨_,rfl⟩,rfl⟩) rfl (Ad (aL (bT hr (aQ 0) (aL (bN di))))) (λb=>⟨(xW (PW.pt (oN (gq (wB hr.dX) wI (aL (bT hr (aQ 0) bZ)) (aQ 1) (by with_unfolding_all rfl)) (oN (Ow uG uP uG uP (aL (bT hr (aQ 0) bZ)) (aQ 2) (aL (bT hr (aQ 0) bZ))) (xV (gq uG uP (aL (bT hr (aQ 3) bZ)) (aL (bT hr (aQ 0) bZ)) (gH _))))))),(bC 0)⟩))))
theorem al1(F:gw K "_law_come" "_law_come" Wo f fd)(T:Txt K mg)(Wy:dJ P w K mg base "_law_lets" 2 za5 (spT K Oc)):fK P w K mg base fU 3 f fd za6 (spT K BX):=
 jq (body:=Od) F El λcdv A outer s H E hr=>(b7 (anv (i:=4) (j:=5) (k:=6) rfl El.nd rfl rfl rfl aR aR aR rfl rfl rfl (rJ (cR Wy hr (aO (bC 0) (aO (bC 1) (aO (bC 3) bF)))) (rJ (gJ bF) (rJ fY Fd))) rfl) (b7 (pI (gq (Hq hr.dX) Hz (aQ 2) (aL (CJ (aQ 1) (yp bZ) Jo)) (by with_unfolding_all rfl)) (jT (fJ 5 El.nd (gJ (aO (bC 2) bF)))) pH) (b7 (HD oG (gq (Ed hr.EY) Fq (aQ 6) (aL (iZ nq nC T.lK (dm (aQ 5) dG))) (gH _)) (b7 (wF oG rfl (JB (bC 4)) (mH 7 El.nd) oM (jT (pI (PW.pt (oN (gq (nW hr.units) nZ (aL (bT hr (aQ 7) bZ)) (aL (bT hr (aQ 5) (aQ 6))) (gH _)) (oN (gq (Hq hr.dX) Hz (aL (bT hr (aQ 7) bZ)) (aQ 5) (by with_unfolding_all rfl)) (xV (gq (Hq hr.dX) Hz (aL (bT hr (aQ 7) bZ)) (aL (CJ (aQ 1) (yp bZ) Jo)) (by with_unfolding_all rfl)))))) (jT (fJ 5 El.nd (iW (aQ 5) (aL (gJ (aO (bT hr (aQ 7) bZ) bF)))))) pH))) (jT (fJ 6 El.nd (iW (aQ 6) bZ))))) (jT (zF (pv 5))))))
theorem akJ(F:gw K "_law_paper" "_law_paper" MP f fd)(T:Txt K mg)(dw:dJ P w K mg base "_law_pick" 2 zap (spT K cN))(wH:dJ P w K mg base "_law_sum" 3 zas (spT K uL)):fK P w K mg base fU 4 f fd zas (spT K H9):=
 jq (body:=Vj) F Mq λcdv A outer s H E hr=>(b7 (fJ 2 Mq.nd (iZ (za rfl) zy T.qF (dm (aL (bT hr (aQ 1) (aL (bN di)))) dG))) (b7 (fJ 3 Mq.nd (bT hr (aL (iW (aQ 2) (aL (eY aea aec (aL (gJ (aO (bT hr (aQ 1) (aL (bN di))) bF))) bZ)))) (aL (cR dw hr (aO (bC 0) (aO (iW (aL (iZ nq nC T.lK (dm (aQ 2) dG))) bZ) bF)))))) (b7 (zx (i:=4) (T:=.one) (NT:=zbe) (NF:=(["_law_box","_law_left_here"]:List Str)) (js:=[1,0]) (mJ.ok (N0:=za7) (kj:=cZ MP) bw rfl rfl) (⟨_,⟨_,rfl⟩,rfl⟩) rfl (vW rfl T.p7 bZ) (λb=>⟨tH,(bT hr (aL (iW (aL (bT hr (aQ 1) (aL (bN di)))) (aL (gJ (aO (bN di) bF))))) (aL (cR dw hr (aO (bC 2) (aO (iW (aL (iZ nq nC T.lK (dm (aL (bT hr (aQ 1) (aL (bN di)))) dG))) bZ) bF)))))⟩) (by rfl) Mq.nd rfl rfl) (iQ (lR (aO (bC 3) (aO (cR wH hr (aO (bC 0) (aO (bC 1) bF))) (aO (bT hr (aQ 4) bZ) (aO (bT hr (aQ 4) bZ) bF)))))))))
theorem akK(F:gw K "_law_hands" "_law_hands" MT f fd)(T:Txt K mg)(dw:dJ P w K mg base "_law_pick" 2 zap (spT K cN))(Ex:dJ P w K mg base "_law_come" 3 za6 (spT K BX)):fK P w K mg base fU 4 f fd za9 (spT K Ia):=
 jq (body:=Vk) F zj λcdv A outer s H E hr=>(b7 (fJ 4 zj.nd (gJ bF)) (b7 (wF oG rfl (vW rfl T.p7 (aL (eY rK rN bZ (aQ 3)))) (mH 5 zj.nd) oM (b7 (fJ 6 zj.nd (bT hr (aL (bT hr (aQ 1) (aL (bN di)))) (aL (cR dw hr (aO (bC 0) (aO (iZ nq nC T.lK (dm (aL (bT hr (aQ 1) (aL (bN di)))) dG)) bF)))))) (b7 (fJ 7 zj.nd (eY rK rN (aL (cR dw hr (aO (bC 0) (aO fY bF)))) (aL (bT hr (aQ 1) (aL (bN di)))))) (b7 (fJ 8 zj.nd (iW (aL (cR Ex hr (aO (bC 1) (aO (bC 2) (aO (bC 6) (aO (bC 7) bF)))))) (aL (gJ (aO (bC 6) (aO (bT hr (aL (bT hr (aQ 1) (aL (bN di)))) (aL (cR dw hr (aO (bC 0) (aO (iZ nq nC T.lK (dm (aL (bT hr (aQ 1) (aL (bN di)))) dG)) bF))))) bF)))))) (b7 (fJ 9 zj.nd (bT hr (aQ 8) (aL (cR dw hr (aO (bC 0) (aO (iZ nq nC T.lK (dm (aQ 8) dG)) bF)))))) (b7 (zx (i:=10) (T:=.one) (NT:=zbg) (NF:=(["_law_holder","_law_signer"]:List Str)) (js:=[6,9]) (mJ.ok (N0:=za8) (kj:=cZ MT) bw rfl rfl) (⟨_,⟨_,rfl⟩,rfl⟩) rfl (Ad (aQ 4)) (λb=>⟨(xW (PW.pt (Jk (gq (nW hr.units) nZ (aL (bT hr (aQ 0) bZ)) (aQ 1) (gH _)) (I9 (gq (nW hr.units) nZ (aL (bT hr (aQ 0) bZ)) (aQ 2) (gH _)))))),(bC 0)⟩) (by rfl) zj.nd rfl rfl) (jT (pI (PW.pt (oN (gq (nW hr.units) nZ (aQ 10) (aL (gJ bF)) (gH _)) (xV (gq (Ed hr.EY) Fq (aL (iZ nq nC T.lK (dm (aQ 4) dG))) (aQ 3) (gH _))))) (jT (Cg (pv 4) (lR (aO (bC 6) (aO (bC 9) (aO (bC 7) bF)))))) pH)))))))) (jT (zF (pv 4)))))
theorem anP(F:gw K "_law_may" "_law_may" Xm f fd)(T:Txt K mg)(Wz:dJ P w K mg base "_law_rank" 2 za1 (spT K N8))(Ex:dJ P w K mg base "_law_come" 3 za6 (spT K BX)):fK P w K mg base fU 4 f fd zba (spT K Ji):=
 jq (body:=O8) F anM λcdv A outer s H E hr=>(b7 (pI (gq (Ed hr.EY) Fq (aL (cR Wz hr (aO (bC 0) (aO (bT hr (aQ 3) bZ) (aO (bT hr (aQ 2) bZ) (aO (bT hr (aQ 3) bZ) bF)))))) (aL (bT hr (aQ 2) bZ)) (gH _)) (iQ (bN Fo)) pH) (iQ (rM (wB hr.dX) wI (aL (bT hr (aQ 3) bZ)) (aL (cR Ex hr (aO (bC 0) (aO (bC 1) (aO (bT hr (aQ 3) bZ) (aO (bT hr (aQ 3) bZ) bF)))))) (by with_unfolding_all rfl))))
theorem akL(F:gw K "_law_right" "_law_right" HW f fd)(T:Txt K mg)(LK:dJ P w K mg base "may_fill" 4 zam (spT K Ef))(dw:dJ P w K mg base "_law_pick" 2 zap (spT K cN))(Ip:dJ P w K mg base "_law_same" 3 zaq (spT K (zG 3)))(M8:dJ P w K mg base "_law_house" 1 zay (spT K BJ))(WD:dJ P w K mg base "_law_owed" 2 za3 (spT K Io))(Vr:dJ P w K mg base "_law_paper" 4 zas (spT K H9))(Vs:dJ P w K mg base "_law_hands" 4 za9 (spT K Ia))(Pa:dJ P w K mg base "_law_may" 4 zba (spT K Ji)):fK P w K mg base fU 5 f fd zas (spT K Ib):=
 jq (body:=Vm) F ux λcdv A outer s H E hr=>(b7 (adU (is:=[2,3]) (rJ (cR M8 hr (aO (bC 1) bF)) (rJ (cR Vr hr (aO (bC 0) (aO (bC 1) bF))) Fd)) (Ir rfl (uy (mH 2 ux.nd) (uy (mH 3 ux.nd) Ig)))) (b7 (fJ 4 ux.nd (cR Vs hr (aO (bC 0) (aO (bC 1) (aO (bC 3) (aO fY bF)))))) (b7 (fJ 5 ux.nd (cR WD hr (aO (bC 1) (aO (bT hr (aQ 3) bZ) (aO (bT hr (aQ 3) bZ) bF))))) (b7 (wF oG rfl (vW rfl T.p7 bZ) (mH 6 ux.nd) oM (jT (Cg (pv 5) (lR (aO (bT hr (aL (gJ (aO fY (aO fY (aO fY (aO fY bF)))))) (aL (cR dw hr (aO (bC 0) (aO fY bF))))) (aO (bT hr (aL (iZ (za rfl) zy T.qF (dm (aL (bT hr (aQ 1) (aL (bN di)))) dG))) (aL (cR dw hr (aO (bC 0) (aO (iZ nq nC T.lK (dm (aL (bT hr (aQ 1) (aL (bN di)))) dG)) bF))))) bF)))))) (b7 (wF oG rfl (JB (bC 4)) (mH 7 ux.nd) oM (jT (wF oG rfl (JB (bC 5)) (mH 8 ux.nd) oM (b7 (fJ 9 ux.nd (cR Pa hr (aO (bC 1) (aO (bC 3) (aO (bC 8) (aO (bC 7) bF)))))) (jT (pI (IW (uH (aL (cR Ip hr (aO (cR LK hr (aO (bC 2) (aO (bC 3) (aO (bC 8) (aO (bC 7) bF))))) (aO (bC 9) bF)))))) (iQ (bN Fo)) pH)))))) (b7 (zx (i:=10) (T:=.one) (NT:=zbg) (NF:=(["_law_house_here","_law_paper_here","_law_seats_here"]:List Str)) (js:=[2,3,5]) (mJ.ok (N0:=zbb) (kj:=cZ HW) bw rfl rfl) (⟨_,⟨_,rfl⟩,rfl⟩) rfl (Ad (aQ 4)) (λb=>⟨tH,(cR LK hr (aO (bC 1) (aO (bC 2) (aO (bT hr (aQ 3) (aL (aeQ bZ))) (aO (bC 0) bF)))))⟩) (by rfl) ux.nd rfl rfl) (b7 (zx (i:=9) (T:=.one) (NT:=zbg) (NF:=(["_law_box","_law_paper_here","_law_seats_here"]:List Str)) (js:=[1,3,5]) (mJ.ok (N0:=zbb) (kj:=cZ HW) bw rfl rfl) (⟨_,⟨_,rfl⟩,rfl⟩) rfl (Ad (aQ 4)) (λb=>⟨tH,(cR Pa hr (aO (bC 1) (aO (bC 2) (aO (bT hr (aQ 3) (aL (aeQ bZ))) (aO (bC 0) bF)))))⟩) (by rfl) ux.nd rfl rfl) (iQ (Fb (rM (nW hr.units) nZ (aQ 10) (aQ 9) (gH _)) (Ja (rM (nW hr.units) nZ (aQ 2) (aL (cR M8 hr (aO (bC 1) bF))) (gH _))))))))))))
theorem apj(F:gw K "law" "law" XJ f fd)(T:Txt K mg)(WK:dJ P w K mg base "_law_left" 1 zao (spT K NZ))(dw:dJ P w K mg base "_law_pick" 2 zap (spT K cN))(Vt:dJ P w K mg base "_law_drawn" 5 zaw (spT K M7))(M9:dJ P w K mg base "_law_right" 5 zas (spT K Ib)):fK P w K mg base fU 6 f fd zbc (spT K FZ):=
 jq (body:=XQ) F O7 λcdv A outer s H E hr=>(b7 (wF oG rfl (vW rfl T.p7 (aL (iW bZ (aL (iZ (abI rfl) ad0 T.Jr (dm bZ (dm (aL (adY (pv 0) rfl T.lK bw)) dG))))))) (mH 1 O7.nd) oM (b7 (aoS (i:=2) O7.nd rfl (qb rfl) (cR WK hr (aO (bC 0) (aO (bC 1) bF)))) (b7 (fJ 3 O7.nd (cR Vt hr (aO (bC 2) (aO (rM (nW hr.units) nZ (aL (cR dw hr (aO (bC 2) (aO fY bF)))) bZ (gH _)) bF)))) (jT (pI (PW.pt (Jk (IW (uH (aL (cR M9 hr (aO (bC 2) (aO (bC 3) bF)))))) (I9 (IW (uH (aL (cR M9 hr (aO (bC 2) (aO (bC 3) bF))))))))) (iQ (bN Fo)) pH))))) (iQ (bN Fo)))
local macro_rules|`(tactic|simp_arith[$ts,*])=>`(tactic|simp only[cI,cS,aql,aqm,aqn,apY,apZ,aq5,ap0,aq6,ap1,aq7,ap2,aU,dB,qP,Jx,bM,dat,still,bL,cM,aB,aX,cF,cL,mU,cB,bO,gb,tV,mR,Jy,dR,jd,Ft,iB,iV,wY,iV2,YZ,Yl,gU,frB,qm,setM,Gd,Gs,wC,Fw,eZ,gB,add_int,sub_int,le_int,lt_int,ge_int,gt_int,eq_int,ani,xY,anh,ara,arb,aqY,aqZ,aq0,aq1,aq2,aq3,aq4,acX,aq8,ao2,ap3,ap4,aq9,Option.bind_some,Option.map_some,List.getElem?_cons_zero,List.getElem?_cons_succ,List.set_cons_zero,List.set_cons_succ,List.map_cons,List.map_nil,List.length_cons,List.length_nil,Bool.not_true,Bool.not_false,if_true,if_false,ite_self,Bool.false_eq_true,Option.join,id_eq,Nat.reduceAdd,Nat.reduceLeDiff,Nat.reduceLT,and_true,true_and,and_self,String.reduceBEq,Bool.or_false,Bool.or_true,Bool.false_or,Bool.true_or,Bool.and_true,Bool.and_false,Bool.true_and,Bool.false_and,decide_true,decide_false,reduceCtorEq,eq_bool,ne_bool,ne_int,ap5,ap6,beq_self_eq_true,List.length_map,ap7,ap8,ap9,aqa,aqb,aqc,aqd,aqe,aqf,aqg,Eh,TY,vg,Ge,intD,Qe,cond_true,cond_false,$ts,*])
theorem ae5(k0:0<=k)(k1:k<=1000000):∃r:Int,Jh [.im (.int c),.im (.int k)] C=aa (.im (.int r),C)/\0<=r:=by
 obtain⟨m,hm⟩:∃m,(c%2147483629+k*k*7919+11)*48271%2147483647=m:=⟨_,rfl⟩
 have m0:0<=m:=by rw[<-hm];exact um _ aR
 have m1:m<2147483647:=by rw[<-hm];exact yU _ aR
 refine⟨m*m%1999999973,gP [aa (.im (.int c)),aa (.im (.int k)),aj] rfl rfl ?_ rfl rfl,um _ aR⟩
 simp_arith[Xn,mod_eq (i:=c) (j:=2147483629) aR,mul_eq (i:=k) (j:=k) (.inl az),mul_eq (i:=k*k) (j:=7919) (.inr aR),mul_eq (i:=c%2147483629+k*k*7919+11) (j:=48271) (.inr aR),mod_eq (i:=(c%2147483629+k*k*7919+11)*48271) (j:=2147483647) aR,hm,mul_eq (i:=m) (j:=m) (.inl az),mod_eq (i:=m*m) (j:=1999999973) aR]
theorem iH(h:Bl L C b (k+1))(h0:0<m)(h1:m<1073741824):
  ∃t C',cN [.ce b,.im (.int m)] C=aa (.im (.int t),C')/\0<=t/\t<m/\Bl L C' b k:=by
 obtain⟨hL,x,y,z,hc,hx,hz,hz2⟩:=h
 have i0:pN 3 0=aa 0:=rfl;have i2:pN 3 2=aa 2:=rfl;have c2:(C.set b [x,y,z+1])[b]?=aa [x,y,z+1]:=aeZ hc;by_cases hp:0<x
 .refine⟨x%m,(C.set b [x,y,z+1]).set b [x / m,y,z+1],gP [aa (.ce b),aa (.im (.int m)),aj] rfl rfl ?_ rfl bI,um _ az,yU _ h0,⟨by simpa using hL,x / m,y,z+1,aeZ c2,ain hx az,az,az⟩⟩
  simp_arith[N5,uZ,hc,c2,hp,mod_eq h0,fdiv_eq h0 h1,CV,CG,i0,i2]
 .obtain⟨r1,e1,p1⟩:=ae5 (C:=C.set b [x,y,z+1]) (c:=y) (k:=z+1) az az
  obtain⟨r2,e2,p2⟩:=ae5 (C:=C.set b [x,y,z+1]) (c:=r1) (k:=z+1+64) az az
  refine⟨r2 / 64%m,C.set b [x,y,z+1],gP [aa (.ce b),aa (.im (.int m)),aj] rfl rfl ?_ rfl bI,um _ az,yU _ h0,⟨by simpa using hL,x,y,z+1,c2,hx,az,az⟩⟩
  simp_arith[N5,uZ,hc,c2,hp,CV,CG,i0,i2,e1,e2,fdiv_eq (j:=64) az az,mod_eq h0]
theorem anQ(k0:0<=k)(k9:k<=100):∃x y:Int,NZ [.sc ns,.im (.int k)] C=aa (.ow (.list [.int x,.int y,.int 0]),C)/\0<=x:=by
 obtain⟨c,hc⟩:∃c:Int,yE (dB (aJ uY (aH 1) (aG (zU 0)))) (JC 0 (aH 1)) (bM (.int 0)) [aa (.sc ns),aa (.im (.int k)),aj] C=aa (.im (.int c),[aa (.sc ns),aa (.im (.int k)),aj],C):=by
  by_cases h:k<ns.length
  .obtain⟨c,hc,_⟩:=Xc (xs:=ns) k0 h
   exact⟨c,by simp_arith[zU,JC,h,hc]⟩
  .exact⟨0,by simp_arith[zU,h]⟩
 have a0:0<=(if c<0 then -c else c):=by split<;>lia
 obtain⟨a,hA⟩:∃a,(if c<0 then -c else c)=a:=⟨_,rfl⟩
 rw[hA] at a0;have pw:yh (.int 10) (.int 18)=aa (.im (.int 1000000000000000000)):=rfl
 obtain⟨j,x,hj,hx,x0⟩:∃(j x:Int),(if decide (1000000000000000000<=a)=aq then(1:Int) else 0)=j/\fL [lD 0,.int a] j=aa (.int x)/\0<=x:=by
  by_cases h:1000000000000000000<=a
  .exact⟨1,a,by rw[bG (gr h)],rfl,a0⟩
  .exact⟨0,0,by rw[bH (by simpa using h)],rfl,xQ _⟩
 refine⟨x,c+1000003*k,gP [aa (.sc ns),aa (.im (.int k)),aj] rfl rfl ?_ rfl rfl,x0⟩
 simp_arith[Wq,↓hc,Jl,hA,pw,pJ,hj,hx,mul_eq (i:=1000003) (j:=k) (.inl aR)]
theorem anR(he:fe=aJ bf (aH 1) (aG (bL cN (aB (aU 2) (aB (bM (.int 26)) aX))))){C:Ce}{size:Int}(h:Bl L C b (j+3))(h0:0<=size)(h1:size<=3):
  ∃(cs:List Nat)(C':Ce),lJ .one gF fe [aa (.im (.str abc)),aa (.ce b)] (gf 0 size.toNat) C=aa ((cs.map λc=>.str ⟨#[c]⟩),C')/\cs.length=size.toNat/\(∀c∈cs,97<=c/\c<=122)/\Bl L C' b j:=by
 subst he;refine hide λGG gg=>?_
 obtain⟨ys,C',e,hB,hl,hr⟩:=Mi (T:=.one) (fe:=aJ bf (aH 1) (aG (bL cN (aB (aU 2) (aB (bM (.int 26)) aX))))) (fs:=[aa (.im (.str abc)),aa (.ce b)]) (λi C1=>Bl L C1 b (j+(3-i))) (λ_ y=>∃c:Nat,y=.str ⟨#[c]⟩/\97<=c/\c<=122) (aK:=gf 0 size.toNat) (C:=C) (k:=0) h (λi d C1 hd hB=>by
  obtain⟨rfl,hi⟩:=tK hd
  rw[zc] at hB⊢;rw[Xf j (by lia:i<3)] at hB
  obtain⟨k1,C2,e1,a1,b1,iJ⟩:=iH (m:=26) hB aR aR
  refine⟨_,.im (.str ⟨#[97+k1.toNat]⟩),[aa (.im (.int (0+i))),aa (.im (.str abc)),aa (.ce b)],C2,.str ⟨#[97+k1.toNat]⟩,rfl,?_,rfl,⟨_,rfl,az,az⟩,iJ⟩
  simp_arith[eG,jn,iU,e1,bf,letters k1 a1 b1])
 rw[vX] at hB hl
 obtain⟨cs,rfl,hcs⟩:∃cs:List Nat,ys=cs.map (λc=>.str ⟨#[c]⟩)/\∀c∈cs,97<=c/\c<=122:=by
  clear e hl hB gg;induction ys with
  |nil=>exact⟨[],rfl,λ_ m=>(nomatch m)⟩
  |cons y ys ih=>
   obtain⟨c,rfl,c1,c2⟩:=hr 0 y rfl
   obtain⟨cs,rfl,h2⟩:=ih λi z hz=>hr (i+1) z (by simpa using hz)
   exact⟨c::cs,rfl,λx hx=>by
    rcases bW.mp hx with rfl|hx
    .exact⟨c1,c2⟩
    .exact h2 x hx⟩
 exact gg ⟨cs,C',e,by simpa using hl,hcs,hB.mono (Ba _ _)⟩
theorem anS(h:cs.length<=100):∃z:Str,OJ (.str (bz "")) (.list (cs.map λc=>.str ⟨#[c]⟩))=aa (.im (.str z))/\z.cps.toList=cs/\z.length=cs.length:=by
 refine⟨Txt.join (bz "") (cs.map λc=>⟨#[c]⟩),?_,abw cs,?_⟩
 .simp only[OJ,aa1];refine bG ?_;rw[fD,ad5,aks,Nat.mul_zero];unfold gB;lia
 .have:=congrArg zf (abw cs);rw[<-this];show _=(Txt.join (bz "") (cs.map λc=>⟨#[c]⟩)).cps.toList.length;simp;rfl
theorem anT(n:Nat):gf 0 n=(gG n).map λ(i:Nat)=>lD (i:Int):=by
 unfold gf;refine xu λi _=>?_
 rw[K7]
theorem al2(s0:0<s)(s1:s<=675)(n:Nat):lJ .one gF Le [aa (.im (.str abc)),aa (.im (.int f)),aa (.im (.int s))] (gf 0 n) C=aa (((gG n).map (n1 f s)).map .str,C):=by
 rw[anT];have:=pD (T:=.one) (ft:=gF) (fe:=Le) (fs:=[aa (.im (.str abc)),aa (.im (.int f)),aa (.im (.int s))]) (C:=C) (λ(i:Nat)=>lD (i:Int)) (λ_=>aq) (λ(k:Nat)=>.str (n1 f s k)) (l:=gG n) λk _=>by
  have a1:0<=(f+s*(k:Int))%26:=um _ aR;have a2:(f+s*(k:Int))%26<26:=yU _ aR
  refine⟨[.int (k:Int)],rfl,rfl,λ_=>⟨.im (.str (n1 f s k)),[aa (.im (.int (k:Int))),aa (.im (.str abc)),aa (.im (.int f)),aa (.im (.int s))],?_,rfl⟩⟩
  simp_arith[eG,jn,iU,mul_eq (i:=s) (j:=(k:Int)) (.inl az),mod_eq (i:=f+s*(k:Int)) (j:=26) aR,bf,letters _ a1 a2];rfl
 rw[GF.mpr λ_ _=>rfl] at this;rw[fD];exact this
theorem XR(h:x.length+y.length<=1000000):bU (.str x) (.str y)=aa (.im (.str (x++y))):=bG h
theorem ab7(x y z:Str):(x++y)++z=x++(y++z):=by
 show(⟨(x.cps++y.cps)++z.cps⟩:Str)=⟨x.cps++(y.cps++z.cps)⟩
 rw[ahA]
abbrev lq(b:Nat)(m:Int)(hd tl:Str)(f s:Int)(v7 v8 v9 v10:oVl):En:=
 [aa (.ce b),aa (.im (.int m)),aa (.im (.str abc)),aa (.im (.str hd)),aa (.im (.str tl)),aa (.im (.int f)),aa (.im (.int s)),v7,v8,v9,v10]
theorem aqs(k0:0<=k)(k1:k<40)(hq:(k*k+f)%4=q):aJ mQ (aG (aJ bU (aG (aJ jX (aH 8) (aH 8))) (aH 5))) (cI 4) (lq b m hd tl f s v7 (aa (.im (.int k))) v9 v10) C=aa (.im (.int q),lq b m hd tl f s v7 (aa (.im (.int k))) v9 v10,C):=by
 have m1:jX (.int k) (.int k)=aa (.im (.int (k*k))):=mul_eq (.inl az);generalize k*k=kk at m1 hq;have m2:mQ (.int (kk+f)) (.int 4)=aa (.im (.int ((kk+f)%4))):=mod_eq az;rw[hq] at m2;simp_arith[lq,m1,m2]
theorem aqt(k0:0<=k)(k1:k<40)(hq:(k*k+f)%4=q)(ht:tl.length<=3)(hc:Txt.slice tl aj (aa q)=cut):cB 10 (nJ (aH 4) qY (mL (aG (aJ mQ (aG (aJ bU (aG (aJ jX (aH 8) (aH 8))) (aH 5))) (cI 4))))) (lq b m hd tl f s v7 (aa (.im (.int k))) v9 v10) C=aa (.nx,lq b m hd tl f s v7 (aa (.im (.int k))) v9 (aa (.im (.str cut))),C):=by
 have e:=aqs (C:=C) (b:=b) (m:=m) (s:=s) (hd:=hd) (tl:=tl) (v7:=v7) (v9:=v9) (v10:=v10) k0 k1 hq;have q1:(tl.length<=1000000)=True:=eqT;simp only[lq] at e⊢;simp_arith[nJ,qY,mL,↓e,vo,q1,hc]
theorem al3(k0:0<=k)(k1:k<40)(s0:0<s)(s1:s<=675)(hv:(f+s*k)%676=v)(v0:0<=v)(v1:v<676)(hq:(k*k+f)%4=q)(ht:tl.length<=3)(hc:Txt.slice tl aj (aa q)=cut)
  (i1:qX (.str abc) (.int (v / 26))=aa (.str x1))(i2:qX (.str abc) (.int (v%26))=aa (.str x2))(t1:bU (.str hd) (.str x1)=aa (.im (.str y1)))(t2:bU (.str y1) (.str x2)=aa (.im (.str y2)))(t3:bU (.str y2) (.str cut)=aa (.im (.str nm)))(la:(bu.length<1000000)=True):
  Bq (lq b m hd tl f s (aa (.ow (.list bu))) (aa (.im (.int k))) v9 v10) C=aa (.nx,lq b m hd tl f s (aa (.ow (.list (bu++[.str nm])))) (aa (.im (.int k))) (aa (.im (.int v))) (aa (.im (.str cut))),C):=by
 have s1:cB 9 (aJ mQ (aG (aJ bU (aH 5) (aG (aJ jX (aH 6) (aH 8))))) (cI 676)) (lq b m hd tl f s (aa (.ow (.list bu))) (aa (.im (.int k))) v9 v10) C=aa (.nx,lq b m hd tl f s (aa (.ow (.list bu))) (aa (.im (.int k))) (aa (.im (.int v))) v10,C):=by
  simp_arith[lq,mul_eq (i:=s) (j:=k) (.inl az),mod_eq (i:=f+s*k) (j:=676) az,hv]
 have s2:=aqt (C:=C) (b:=b) (m:=m) (s:=s) (hd:=hd) (v7:=aa (.ow (.list bu))) (v9:=aa (.im (.int v))) (v10:=v10) k0 k1 hq ht hc;have s3:ou 7 (aJ bU (aG (aJ bU (aG (aJ bU (aH 3) (aG (aJ bf (aH 2) (aG (aJ zO (aH 9) (cI 26))))))) (aG (aJ bf (aH 2) (aG (aJ mQ (aH 9) (cI 26))))))) (aH 10)) (lq b m hd tl f s (aa (.ow (.list bu))) (aa (.im (.int k))) (aa (.im (.int v))) (aa (.im (.str cut)))) C=aa (.nx,lq b m hd tl f s (aa (.ow (.list (bu++[.str nm])))) (aa (.im (.int k))) (aa (.im (.int v))) (aa (.im (.str cut))),C):=by
  simp_arith[lq,ou,wJ,fdiv_eq (i:=v) (j:=26) az az,mod_eq (i:=v) (j:=26) az,bf,i1,i2,t1,t2,t3,la]
 unfold Bq;simp only[bO,s1,s2,s3]
theorem apk(f0:0<=f)(f1:f<676)(s0:0<s)(s1:s<=675)(hi:i<40)(hh:hd.length<=3)(ht:tl.length<=3):
  ∃w9 w10,Bq (lq b m hd tl f s (aa (.ow (.list (((gG i).map (n2 hd tl f s λk=>((k:Int)*k+f)%4)).map .str)))) (aa (.im (.int (i:Int)))) v9 v10) C
   =aa (.nx,lq b m hd tl f s (aa (.ow (.list (((gG (i+1)).map (n2 hd tl f s λk=>((k:Int)*k+f)%4)).map .str)))) (aa (.im (.int (i:Int)))) w9 w10,C):=by
 obtain⟨v,hv⟩:∃v,v2 f s i=v:=⟨_,rfl⟩
 have hv':(f+s*(i:Int))%676=v:=hv;have v0:0<=v:=by rw[<-hv];exact um _ aR
 have v1:v<676:=by rw[<-hv];exact yU _ aR
 have a1:0<=v / 26:=ain v0 aR;have a2:v / 26<26:=az;have a3:0<=v%26:=um _ aR;have a4:v%26<26:=yU _ aR
 obtain⟨x1,hx1⟩:∃x:Str,x=⟨#[97+(v / 26).toNat]⟩:=⟨_,rfl⟩
 obtain⟨x2,hx2⟩:∃x:Str,x=⟨#[97+(v%26).toNat]⟩:=⟨_,rfl⟩
 have Zf:x1.length=1:=by rw[hx1];rfl
 have lx2:x2.length=1:=by rw[hx2];rfl
 have ld:∀x y:Str,(x++y).length=x.length+y.length:=λx y=>by
  show(x.cps++y.cps).size=x.cps.size+y.cps.size
  rw[Array.size_append]
 have t1:bU (.str hd) (.str x1)=aa (.im (.str (hd++x1))):=XR (by rw[Zf];lia);have t2:bU (.str (hd++x1)) (.str x2)=aa (.im (.str ((hd++x1)++x2))):=XR (by rw[ld,Zf,lx2];lia);have l3:=PyProof.Txt.length_slice_le tl aj (aa (((i:Int)*i+f)%4));have t3:bU (.str ((hd++x1)++x2)) (.str (Txt.slice tl aj (aa (((i:Int)*i+f)%4))))=aa (.im (.str (n2 hd tl f s (λk=>((k:Int)*k+f)%4) i))):=by
  unfold n2;rw[hv];have e:hd++two v=(hd++x1)++x2:=by rw[ab7,hx1,hx2];rfl
  rw[e];exact XR (by rw[ld,ld,Zf,lx2];lia)
 obtain⟨bu,hacc⟩:∃bu,bu=((gG i).map (n2 hd tl f s λk=>((k:Int)*k+f)%4)).map iD:=⟨_,rfl⟩
 have la:(bu.length<1000000)=True:=eq_true (by rw[hacc,bJ,bJ,pC];lia);have hn:((gG (i+1)).map (n2 hd tl f s λk=>((k:Int)*k+f)%4)).map iD=bu++[.str (n2 hd tl f s (λk=>((k:Int)*k+f)%4) i)]:=by
  rw[aij,iC,iC,hacc];rfl
 rw[hn,<-hacc];clear hn hacc;generalize n2 hd tl f s (λk=>((k:Int)*k+f)%4) i=nm at t3⊢
 obtain⟨cut,Yq⟩:∃c,Txt.slice tl aj (aa (((i:Int)*i+f)%4))=c:=⟨_,rfl⟩
 rw[Yq] at t3;have i1:=letters _ a1 a2;have i2:=letters _ a3 a4;rw[<-hx1] at i1;rw[<-hx2] at i2
 generalize(hd++x1)++x2=y2 at t2 t3
 generalize hd++x1=y1 at t1 t2
 obtain⟨q,hq⟩:∃q,((i:Int)*(i:Int)+f)%4=q:=⟨_,rfl⟩
 rw[hq] at Yq
 exact⟨_,_,al3 (k:=(i:Int)) az az s0 s1 hv' v0 v1 hq ht Yq i1 i2 t1 t2 t3 la⟩
theorem aep(he:fe=aJ bf (aH 1) (aG (bL cN (aB (aU 2) (aB (bM (.int 26)) aX)))))(h:Bl L C b (j+4)):
  ∃(z:Str)(C':Ce),zV (cS "") (aG (gU (jM (aG (bL cN (aB (aU 0) (aB (bM (.int 4)) aX))))) .one gF fe [2,0])) [aa (.ce b),v1,aa (.im (.str abc)),v3,v4,v5,v6,v7,v8,v9,v10] C=aa (.im (.str z),[aa (.ce b),v1,aa (.im (.str abc)),v3,v4,v5,v6,v7,v8,v9,v10],C')/\z.length<=3/\(∀c∈z.cps.toList,97<=c/\c<=122)/\Bl L C' b j:=by
 refine hide λGG gg=>?_
 obtain⟨k1,C1,e1,a1,b1,iJ⟩:=iH (m:=4) h aR aR
 obtain⟨cs,C2,e2,l2,hc,hB2⟩:=anR he (j:=j) (size:=k1) iJ a1 az
 obtain⟨z,e3,e4,e5⟩:=anS (cs:=cs) az
 have g5:(k1.toNat<=1000000)=True:=eqT;refine gg ⟨z,C2,?_,az,by rw[e4];exact hc,hB2⟩;simp_arith[zV,jM,e1,yH (m:=k1) az az,e2,l2,g5,aby,e3]
theorem apl(R:FS)(h:Bl L C b (j+10)):
  ∃(hd tl:Str)(f s:Int)(C':Ce),(bO (cB 2 (bM (.str (bz "abcdefghijklmnopqrstuvwxyz")))) (bO (cB 3 (zV (cS "") (aG (gU (jM (aG (bL cN (aB (aU 0) (aB (bM (.int 4)) aX))))) .one gF R9 [2,0])))) (bO (cB 4 (zV (cS "") (aG (gU (jM (aG (bL cN (aB (aU 0) (aB (bM (.int 4)) aX))))) .one gF R8 [2,0])))) (bO (qm [5,6] (mU (bL cN (aB (aU 0) (aB (bM (.int 676)) aX))) (mU (aJ bf (aG (dR (aB (bM (.int 1)) (aB (bM (.int 3)) (aB (bM (.int 5)) (aB (bM (.int 7)) (aB (bM (.int 25)) (aB (bM (.int 675)) aX)))))))) (aG (bL cN (aB (aU 0) (aB (bM (.int 6)) aX))))) aX))) R)))) [aa (.ce b),aa (.im (.int m)),aj,aj,aj,aj,aj,aj,aj,aj,aj] C
   =R (lq b m hd tl f s aj aj aj aj) C'/\hd.length<=3/\tl.length<=3/\(∀c∈hd.cps.toList,97<=c/\c<=122)/\(∀c∈tl.cps.toList,97<=c/\c<=122)/\0<=f/\f<676/\Jq s/\Bl L C' b j:=by
 refine hide λGG gg=>?_
 obtain⟨hd,C1,e1,l1,c1,iJ⟩:=aep (fe:=R9) rfl (j:=j+6) (v1:=aa (.im (.int m))) (v3:=aj) (v4:=aj) (v5:=aj) (v6:=aj) (v7:=aj) (v8:=aj) (v9:=aj) (v10:=aj) h
 obtain⟨tl,C2,e2,l2,c2,hB2⟩:=aep (fe:=R8) rfl (j:=j+2) (v1:=aa (.im (.int m))) (v3:=aa (.im (.str hd))) (v4:=aj) (v5:=aj) (v6:=aj) (v7:=aj) (v8:=aj) (v9:=aj) (v10:=aj) iJ
 obtain⟨f,C3,e3,f0,f1,hB3⟩:=iH (m:=676) hB2 aR aR
 obtain⟨k,C4,e4,k0,k1,pQ⟩:=iH (m:=6) hB3 aR aR
 obtain⟨s,e5,hs⟩:=step_at k0 k1
 refine gg ⟨hd,tl,f,s,C4,?_,l1,l2,c1,c2,f0,f1,hs,pQ⟩;simp_arith[↓e1,↓e2,e3,e4,e5]
theorem arl(hn:n<=30)(f0:0<=f)(f1:f<676)(hs:Jq s)(hh:hd.length<=3)(ht:tl.length<=3)(v8:oVl):
  ∃w8 w9 w10,jY (eZ 8) Bq (gf 0 n) (lq b m hd tl f s (aa (.ow (.list []))) v8 v9 v10) C=aa (.nx,lq b m hd tl f s (aa (.ow (.list (((gG n).map (n2 hd tl f s λk=>((k:Int)*k+f)%4)).map .str)))) w8 w9 w10,C):=by
 obtain⟨aV,C',e,w8,w9,w10,he,hC⟩:=Hr (g:=eZ 8) (body:=Bq) (aK:=gf 0 n) (ao:=lq b m hd tl f s (aa (.ow (.list []))) v8 v9 v10) (C:=C)
  (λi ao C1=>∃w8 w9 w10,ao=lq b m hd tl f s (aa (.ow (.list (((gG i).map (n2 hd tl f s λk=>((k:Int)*k+f)%4)).map .str)))) w8 w9 w10/\C1=C) ⟨v8,v9,v10,rfl,rfl⟩ (λi d ao C1 hd' hI=>by
   obtain⟨w8,w9,w10,rfl,rfl⟩:=hI
   obtain⟨rfl,hi⟩:=tK hd'
   rw[K7]
   obtain⟨u9,pP,e⟩:=apk (C:=C1) (b:=b) (m:=m) (v9:=w9) (v10:=w10) (i:=i) f0 f1 hs.1.1 hs.1.2 az hh ht
   exact⟨_,.nx,_,C1,rfl,e,.inl rfl,_,u9,pP,rfl,rfl⟩)
 rw[vX] at he;subst he;subst hC
 exact⟨w8,w9,w10,e⟩
theorem apm{zs:List Str}{m:Int}(m0:0<=m)(m1:m<=zs.length):rZ (zs.map iD) aj (aa m)=(zs.take m.toNat).map .str:=by
 obtain⟨k,rfl⟩:∃k:Nat,m=(k:Int):=⟨m.toNat,az⟩
 unfold rZ;rw[bJ,HT.Vz,show HT.cV zs.length 0 aj=0 from rfl,List.drop_zero,Nat.sub_zero,aiH,yW,aal az]
theorem al4(h:Bl L C b (j+11))(m0:0<=m)(m1:m<=26):
  ∃(zs:List Str)(C':Ce),M5 [.ce b,.im (.int m)] C=aa (.ow (.list (zs.map .str)),C')/\Names zs/\zs.length=m.toNat/\Bl L C' b j:=by
 refine hide λGG gg=>?_
 obtain⟨R,hR⟩:∃R:FS,R=bO (kZ (dB (aJ jl (aG (bL cN (aB (aU 0) (aB (bM (.int 4)) aX)))) (cI 0))) (gb (gU (jM (aH 1)) .one gF Le [2,5,6])) mR) (bO (cB 7 (dR aX)) (bO (jJ (jM (aH 1)) (eZ 8) Bq) (tV 7))):=⟨_,rfl⟩
 obtain⟨hd,tl,f,s,C1,e1,l1,l2,c1,c2,f0,f1,hs,iJ⟩:=apl (m:=m) (j:=j+1) R h
 rw[hR] at e1
 obtain⟨k,C2,e2,a2,b2,hB2⟩:=iH (m:=4) iJ aR aR
 by_cases hk:k=0
 .subst hk;have lc:=al2 (C:=C2) (f:=f) (s:=s) hs.1.1 hs.1.2 m.toNat;have q:(m.toNat<=1000000)=True:=eqT;refine gg ⟨_,C2,gP [aa (.ce b),aa (.im (.int m)),aj,aj,aj,aj,aj,aj,aj,aj,aj] rfl rfl ?_ rfl (h.eq hB2),alH (f:=f) (n:=m.toNat) hs az,by rw[bJ,pC],hB2⟩;unfold M4;rw[e1];simp_arith[lq,e2,jM,yH (m:=m) az az,lc,pC,q]
 .have hk':(k==0)=aM:=beq_eq_false_iff_ne.mpr hk
  obtain⟨w8,w9,w10,e7⟩:=arl (C:=C2) (b:=b) (m:=m) (v9:=aj) (v10:=aj) (n:=m.toNat) az f0 f1 hs l1 l2 aj
  refine gg ⟨_,C2,gP [aa (.ce b),aa (.im (.int m)),aj,aj,aj,aj,aj,aj,aj,aj,aj] rfl rfl ?_ rfl (h.eq hB2),alI (f:=f) (q:=λk=>((k:Int)*k+f)%4) (n:=m.toNat) hs az l1 l2 c1 c2,by rw[bJ,pC],hB2⟩;unfold M4;rw[e1];simp only[lq] at e7;simp_arith[lq,e2,hk',jJ,jM,yH (m:=m) az az,e7]
theorem aeq(hu:gC bx (bz "unit")=aa (.dat (.int u)))(u0:0<=u)(u1:u<=4999)(h:Bl L C b (j+3)):
  ∃(f l:Int)(C':Ce),BW [.ce b,.im (fH bx)] C=aa (.im (.tuple [.int f,.int l]),C')/\0<=f/\f<=l/\l<=99999/\Bl L C' b j:=by
 refine hide λGG gg=>?_
 obtain⟨k1,C1,e1,a1,b1,iJ⟩:=iH (m:=21) h aR aR
 obtain⟨k2,C2,e2,a2,b2,hB2⟩:=iH (m:=21) iJ aR aR
 obtain⟨k3,C3,e3,a3,b3,hB3⟩:=iH (m:=3) hB2 aR aR
 have ix:=mO hu (d:=.int u) rfl;have bd:∀k:Int,0<=k->k<21->0<=k*u/\k*u<=99980:=λk h0 h1=>⟨aiw h0 u0,by
  have:=aix (show k<=20 by lia) u1 u0 aR;lia⟩
 have m1:jX (.int k1) (.int u)=aa (.im (.int (k1*u))):=mul_eq (.inl az);have m2:jX (.int k2) (.int u)=aa (.im (.int (k2*u))):=mul_eq (.inl az);have p1:=bd k1 a1 b1;have p2:=bd k2 a2 b2;generalize k1*u=x at m1 p1;generalize k2*u=y at m2 p2;by_cases hk:k3=0
 .subst hk;refine gg ⟨0,99999,C3,gP [aa (.ce b),aa (.im (fH bx)),aj,aj] rfl rfl ?_ rfl (h.eq hB3),aR,aR,aR,hB3⟩;simp_arith[N6,e1,e2,e3,ix,m1,m2,Cm,Ck,pJ]
 .have hk':(k3==0)=aM:=beq_eq_false_iff_ne.mpr hk;refine gg ⟨if y<x then y else x,if y>x then y else x,C3,gP [aa (.ce b),aa (.im (fH bx)),aj,aj] rfl rfl ?_ rfl (h.eq hB3),by split<;>lia,by split<;>split<;>lia,by split<;>lia,hB3⟩;simp_arith[N6,e1,e2,e3,ix,m1,m2,Cm,Ck,pJ,hk']
theorem Pb{C:Ce}{ss:List Int}(hs:gC bx (bz "sums")=aa (.lst (ss.map .int)))(hl:ss.length=6)(hb:∀x∈ss,0<=x/\x<=1000000000)(h:Bl L C b (j+2)):
  ∃(s:Int)(C':Ce),uL [.ce b,.im (fH bx)] C=aa (.im (.int s),C')/\0<=s/\s<=1000000000/\Bl L C' b j:=by
 refine hide λGG gg=>?_
 obtain⟨k1,C1,e1,a1,b1,iJ⟩:=iH (m:=1000000001) h aR aR
 obtain⟨k2,C2,e2,a2,b2,hB2⟩:=iH (m:=7) iJ aR aR
 have ix:=mO hs (d:=.list (ss.map .int)) rfl;have ad:bU (.list (ss.map .int)) (.list [.int k1])=aa (.ow (.list ((ss++[k1]).map .int))):=by
  rw[add_l (by rw[bJ,hl];show 6+1<=_;decide),iC];rfl
 obtain⟨s,ms,_,is⟩:=anB (f:=lD) (l:=ss++[k1]) (k:=k2) a2 (by rw[fO,hl];show k2<7;lia)
 have pw:yh (.int 10) (.int 9)=aa (.im (.int 1000000000)):=rfl;have Zg:(1000000000+1:Int)=1000000001:=rfl;have bs:0<=s/\s<=1000000000:=by
  rcases cY.mp ms with m|m
  .exact hb s m
  .rw[gk.mp m];lia
 refine gg ⟨s,C2,gP [aa (.ce b),aa (.im (fH bx))] rfl rfl ?_ rfl (h.eq hB2),bs.1,bs.2,hB2⟩;simp_arith[Xo,ix,pw,Zg,e1,ad,e2,is]
theorem anU{C:Ce}{b L j:Nat}{bx:eN}{u n:Int}{pp:List Str}{mn:Str}{ss:List Int}
  (hu:gC bx (bz "unit")=aa (.dat (.int u)))(u0:0<=u)(u1:u<=4999)(hs:gC bx (bz "sums")=aa (.lst (ss.map .int)))(hl:ss.length=6)(hb:∀x∈ss,0<=x/\x<=1000000000)
  (hp:gC bx (bz "parts")=aa (.fB (bQ (cO ps))))(p8:ps.length<=8)(hpp:gC bx (bz "people")=aa (.lst (pp.map .str)))(Ao:2<=pp.length)(pp9:pp.length<=24)(J8:pp.Nodup)(su:∀z∈pp,z∈zs)
  (hm:gC bx (bz "main")=aa (.dat (.str mn)))(mo:mn∈ps.map (·.1))(n0:0<=n)(n1:n<=2000)(h:Bl L C b (j+10)):
  ∃(r:nY)(C':Ce),N7 [.ce b,.im (fH bx),.im (.int n)] C=aa (.im (dz r),C')/\Et zs (ps.map (·.1)) r/\r.1=n/\Bl L C' b j:=by
 refine hide λGG gg=>?_
 obtain⟨k1,C1,e1,a1,b1,iJ⟩:=iH (m:=(pp.length:Int)) (k:=j+9) h az az
 obtain⟨k2,C2,e2,a2,b2,hB2⟩:=iH (m:=(pp.length:Int)-1) iJ az az
 have x1:=mO hpp (d:=.list (pp.map .str)) rfl;have x2:=mO hp (d:=.dict (bQ (cO ps))) rfl;have x3:=mO hm (d:=.str mn) rfl;have so:=zA ps az
 obtain⟨sp,hsp⟩:∃sp,sp=mG strLt (ps.map (·.1)):=⟨_,rfl⟩
 have lA:sp.Perm (ps.map (·.1)):=by rw[hsp];exact rE _
 have Aq:sp.length=ps.length:=by rw[lA.length_eq,bJ]
 rw[<-hsp] at so
 obtain⟨k3,C3,e3,a3,b3,hB3⟩:=iH (m:=(sp.length:Int)+2) hB2 az az
 obtain⟨f,l,C4,e4,d1,d2,d3,pQ⟩:=aeq (j:=j+4) hu u0 u1 hB3
 obtain⟨s1,C5,e5,q1,q2,Dl⟩:=Pb (j:=j+2) hs hl hb pQ
 obtain⟨s2,C6,e6,q3,q4,QM⟩:=Pb (j:=j) hs hl hb Dl
 have ad:bU (.list (sp.map .str)) (.list [.str mn,.str mn])=aa (.ow (.list ((sp++[mn,mn]).map .str))):=by
  rw[add_l (by rw[bJ];show _+2<=_;lia),iC];rfl
 obtain⟨pt,mp,_,ip⟩:=pF (zs:=sp++[mn,mn]) (k:=k3) a3 (by rw[fO];show k3<((sp.length+2:Nat):Int);lia)
 obtain⟨gv,mg,pg,ig⟩:=pF (zs:=pp) (k:=k1) a1 az
 have md:mQ (.int (k1+(1+k2))) (.int (pp.length:Int))=aa (.im (.int ((k1+(1+k2))%(pp.length:Int)))):=mod_eq az
 obtain⟨t,ht⟩:∃t,(k1+(1+k2))%(pp.length:Int)=t:=⟨_,rfl⟩
 have t0:0<=t:=by rw[<-ht];exact um _ az
 have t1:t<pp.length:=by rw[<-ht];exact yU _ az
 have tn:t≠k1:=λz=>by
  have hd:k1+(1+k2)<2*(pp.length:Int):=az;by_cases c:k1+(1+k2)<pp.length
  .rw[Rk az c] at ht;lia
  .have:(k1+(1+k2))%(pp.length:Int)=k1+(1+k2)-pp.length:=by
    rw[<-Int.sub_emod_right,Rk az az]
   lia
 rw[ht] at md
 obtain⟨tk,mt,o7,it⟩:=pF (zs:=pp) (k:=t) t0 t1
 have ne:gv≠tk:=λz=>by
  subst z
  obtain⟨i1,j1⟩:=jO.mp pg
  obtain⟨i2,j2⟩:=jO.mp o7
  have hne:k1.toNat≠t.toNat:=az;rcases Nat.lt_or_gt_of_ne hne with c|c
  .exact Av.mp J8 _ _ i1 i2 c (j1.trans j2.symm)
  .exact Av.mp J8 _ _ i2 i1 c (j2.trans j1.symm)
 have po:pt∈ps.map (·.1):=by
  rcases cY.mp mp with m|m
  .exact lA.mem_iff.mp m
  .have:pt=mn:=by simpa using m
   rw[this];exact mo
 refine gg ⟨(n,gv,tk,pt,f,l,if s2>s1 then s2 else s1),C6,gP [aa (.ce b),aa (.im (fH bx)),aa (.im (.int n)),aj,aj,aj,aj,aj,aj] rfl rfl ?_ rfl (h.eq QM),⟨⟨n0,n1⟩,su _ mg,su _ mt,ne,po,⟨d1,d2,d3⟩,⟨by show 0<=if s2>s1 then s2 else s1;split<;>lia,by show(if s2>s1 then s2 else s1)<=_;split<;>lia⟩⟩,rfl,QM⟩;have at1:bU (.tuple [.int n]) (.tuple [.str gv,.str tk])=aa (.im (.tuple [.int n,.str gv,.str tk])):=zX (by show 1+2<=_;decide);have at2:bU (.tuple [.int n,.str gv,.str tk]) (.tuple [.str pt])=aa (.im (.tuple [.int n,.str gv,.str tk,.str pt])):=zX (by show 3+1<=_;decide);have Zh:bU (.tuple [.int n,.str gv,.str tk,.str pt]) (.tuple [.int f,.int l])=aa (.im (.tuple [.int n,.str gv,.str tk,.str pt,.int f,.int l])):=zX (by show 4+2<=_;decide);have at4:bU (.tuple [.int n,.str gv,.str tk,.str pt,.int f,.int l]) (.tuple [.int (if s2>s1 then s2 else s1)])=aa (.im (.tuple [.int n,.str gv,.str tk,.str pt,.int f,.int l,.int (if s2>s1 then s2 else s1)])):=zX (by show 6+1<=_;decide);have mx:Ck [.int s1,.int s2]=aa (.im (.int (if s2>s1 then s2 else s1))):=rfl
 generalize(if s2>s1 then s2 else s1)=s at at4 mx⊢
 simp_arith[Wt,x1,x2,x3,so,e1,e2,ad,e3,ip,ig,md,it,at1,at2,e4,Zh,e5,e6,mx,at4];rfl
theorem aqu(h0:0<=k)(h1:k<6):∃s,fL [lD 1,.int 1,.int 2,.int 2,.int 3,.int 9] k=aa (.int s)/\1<=s/\s<=9:=by
 have hk:k=0\/k=1\/k=2\/k=3\/k=4\/k=5:=az;rcases hk with rfl|rfl|rfl|rfl|rfl|rfl
 .exact⟨1,rfl,aR,aR⟩
 .exact⟨1,rfl,aR,aR⟩
 .exact⟨2,rfl,aR,aR⟩
 .exact⟨2,rfl,aR,aR⟩
 .exact⟨3,rfl,aR,aR⟩
 .exact⟨9,rfl,aR,aR⟩
theorem afr(h0:0<=k)(h1:k<4):∃s,fL [lD 1,.int 2,.int 3,.int 9] k=aa (.int s)/\1<=s/\s<=9:=by
 have hk:k=0\/k=1\/k=2\/k=3:=az;rcases hk with rfl|rfl|rfl|rfl
 .exact⟨1,rfl,aR,aR⟩
 .exact⟨2,rfl,aR,aR⟩
 .exact⟨3,rfl,aR,aR⟩
 .exact⟨9,rfl,aR,aR⟩
theorem al5(hp:gC bx (bz "parts")=aa (.fB (bQ (cO ps))))(p8:ps.length<=8)(h:Bl L C b (j+13)):
  ∃(ss:List jH)(C':Ce),HY [.ce b,.im (fH bx),.im (.int 6)] C=aa (.im (oO ss),C')/\ss.length<=6/\(∀s∈ss,Xd (ps.map (·.1)) s)/\Bl L C' b j:=by
 refine hide λGG gg=>?_
 have x2:=mO hp (d:=.dict (bQ (cO ps))) rfl;have so:=zA ps az
 obtain⟨sp,hsp⟩:∃sp,sp=mG strLt (ps.map (·.1)):=⟨_,rfl⟩
 have lA:sp.Perm (ps.map (·.1)):=by rw[hsp];exact rE _
 have Aq:sp.length=ps.length:=by rw[lA.length_eq,bJ]
 rw[<-hsp] at so
 obtain⟨al,hal⟩:∃al,al=sp++[bz "",bz "",bz ""]:=⟨_,rfl⟩
 have all':al.length=sp.length+3:=by rw[hal,fO];rfl
 have ad:bU (.list (sp.map .str)) (.list [.str (bz ""),.str (bz ""),.str (bz "")])=aa (.ow (.list (al.map .str))):=by
  rw[add_l (by rw[bJ];show _+3<=_;lia),hal,iC];rfl
 obtain⟨k1,C1,e1,a1,b1,iJ⟩:=iH (m:=7) (k:=j+12) h aR aR
 have s7:(6+1:Int)=7:=rfl
 obtain⟨aV,C',e,ss,v5,he,hl,hS,hB⟩:=Hr (g:=eZ 5) (body:=Sd) (aK:=gf 0 k1.toNat) (ao:=[aa (.ce b),aa (.im (fH bx)),aa (.im (.int 6)),aa (.ow (.list (al.map .str))),aa (.ow (.list [])),aj]) (C:=C1)
  (λi ao C2=>∃(ss:List jH)(v5:oVl),ao=[aa (.ce b),aa (.im (fH bx)),aa (.im (.int 6)),aa (.ow (.list (al.map .str))),aa (.ow (.list (ss.map cQ))),v5]/\ss.length=i/\(∀s∈ss,Xd (ps.map (·.1)) s)/\Bl L C2 b (j+2*(6-i)))
  ⟨[],aj,rfl,rfl,(λ_ m=>nomatch m),iJ⟩ (λi d ao C2 hd hI=>by
   obtain⟨ss,v5,rfl,hl,hS,hB⟩:=hI
   obtain⟨rfl,hi⟩:=tK hd
   refine hide λGG gg=>?_
   rw[FP j 2 (by lia:i<6)] at hB
   obtain⟨k2,C3,e2,a2,b2,hB2⟩:=iH (m:=6) hB aR aR
   obtain⟨rk,ir,r1,r9⟩:=aqu a2 b2
   obtain⟨k3,C4,e3,a3,b3,hB3⟩:=iH (m:=(al.length:Int)) hB2 az az
   obtain⟨pt,mp,_,ip⟩:=pF (zs:=al) (k:=k3) a3 b3
   have g:(ss.length<1000000)=True:=eqT;refine gg ⟨_,.nx,[aa (.ce b),aa (.im (fH bx)),aa (.im (.int 6)),aa (.ow (.list (al.map .str))),aa (.ow (.list ((ss++[(rk,pt)]).map cQ))),aa (.im (.int (0+i)))],C4,rfl,?_,.inl rfl,ss++[(rk,pt)],_,rfl,by simp[hl],λs hs=>?_,hB3⟩
   .simp_arith[Sd,e2,ir,e3,ip,g,ou,wJ,iC];rfl
   .rcases cY.mp hs with hs|hs
    .exact hS s hs
    .rw[gk.mp hs]
     refine⟨r1,r9,?_⟩
     rw[hal] at mp;rcases cY.mp mp with m|m
     .exact .inr (lA.mem_iff.mp m)
     .exact .inl (by simpa using m))
 rw[vX] at hl hB;subst he;refine gg ⟨ss,C',gP [aa (.ce b),aa (.im (fH bx)),aa (.im (.int 6)),aj,aj,aj] rfl rfl ?_ rfl (h.eq hB),az,hS,hB.mono (Ba _ _)⟩;simp_arith[Vh,x2,so,ad,s7,e1,jJ,jM,yH (m:=k1) az az,e,xX];rfl
theorem al6(hN:Names zs)(hP:jR zs ps)(hp:gC bx (bz "parts")=aa (.fB (bQ (cO ps)))):∀{z:Str}{os:List Str},Over (gQ ps) z os->∀(n:Nat)(bu:List Str),os.length<n->bu.length+os.length<1000->
  ∃z',j9 abC abD n [aa (.im (fH bx)),aa (.im (.str z)),aa (.ow (.list (bu.map .str)))] C=aa (.nx,[aa (.im (fH bx)),aa (.im (.str z')),aa (.ow (.list ((bu++os).map .str)))],C):=by
 have x2:=mO hp (d:=.dict (bQ (cO ps))) rfl;have hin:∀z,lW (.str z) (.dict (bQ (cO ps)))=aa (.im (.bool (gQ ps z).isSome)):=λz=>by
  show((rQ (bQ (cO ps)) (.str z)).map (·.isSome)).map (λb=>Vl.im (.bool b))=_
  rw[HN];cases gQ ps z<;>rfl
 intro z os ho;induction ho with
 |@stop z h=>
  intro n bu hn ha;cases n with
  |zero=>exact absurd hn (xH _)
  |succ n=>
   refine⟨z,?_⟩
   unfold j9;by_cases c:z=bz ""
   .have c':=eq_true c;simp_arith[xY,c',mj]
   .have c':=eq_false c;simp_arith[xY,c',x2,hin,h,ahG,mj]
 |@step z y r h _ ih=>
  intro n bu hn ha;cases n with
  |zero=>exact absurd hn (xH _)
  |succ n=>
   rw[dW] at hn ha
   obtain⟨z',e⟩:=ih n (bu++[z]) az (by rw[fO];show bu.length+1+_<_;lia)
   refine⟨z',?_⟩
   have g:(bu.length<1000000)=True:=eqT;have i:bf (.dict (bQ (cO ps))) (.str z)=aa (.im (.str y)):=by
    unfold bf qX;simp only[HN,h,oF]
   have c':(z=bz "")=False:=eq_false λc=>by
    rw[c,SM hN hP] at h;cases h
   simp only[iC,dN,uv,kE,jn,iU] at e⊢;unfold j9;simp_arith[xY,c',x2,hin,h,ZS,g,ou,wJ,i,e]
theorem Oe(hN:Names zs)(hP:jR zs ps)(hp:gC bx (bz "parts")=aa (.fB (bQ (cO ps))))(p8:ps.length<=8)(z:Str):
  qI [.im (fH bx),.im (.str z)] C=aa (.ow (.list ((up ps z).map .str)),C):=by
 have hul:=Xe ps z
 obtain⟨z',e⟩:=al6 (C:=C) hN hP hp (Wa hN hP z) zT [] (by show _<100000;lia) (by show 0+_<1000;lia)
 rw[uv,iU] at e;refine gP [aa (.im (fH bx)),aa (.im (.str z)),aj] rfl rfl ?_ rfl rfl;simp_arith[Wu,ud,e]
abbrev b8(b:Nat)(g:Bool)(zs:List Str)(bx:eN)(v4 v5 v6 v7 v8 v9:oVl):En:=
 [aa (.ce b),aa (.im (.bool g)),aa (.ow (.list (zs.map .str))),aa (.im (fH bx)),v4,v5,v6,v7,v8,v9]
theorem ae6(g:Bool)(a c:aD):fL [a,c] (if g=aq then 1 else 0)=aa (if g=aq then c else a):=by cases g<;>rfl
theorem Og(a k c:Int)(k0:0<k)(k9:k<100)(h:Bl L C b (j+1)):
  ∃(m:Int)(C':Ce),aJ bf (aG (dR (aB (aJ bU (aG (bM (.int a))) (aG (bL cN (aB (aU 0) (aB (bM (.int k)) aX))))) (aB (bM (.int c)) aX)))) (aG (cM pJ (cF (aH 1) cL))) (b8 b g zs bx v4 v5 v6 v7 v8 v9) C=aa (.im (.int m),b8 b g zs bx v4 v5 v6 v7 v8 v9,C')/\(m=c\/(a<=m/\m<a+k))/\Bl L C' b j:=by
 obtain⟨t,C1,e1,a1,b1,iJ⟩:=iH (m:=k) h k0 az
 refine⟨if g=aq then c else a+t,C1,?_,?_,iJ⟩
 .have t2:=ae6 g (.int (a+t)) (.int c);have t3:(if g=aq then lD c else .int (a+t))=.int (if g=aq then c else a+t):=by cases g<;>rfl
  rw[t3] at t2;simp_arith[b8,e1,pJ,t2]
 .cases g
  .exact .inr ⟨by show a<=a+t;lia,by show a+t<a+k;lia⟩
  .exact .inl rfl
theorem al7(hz:Names zs)(Ka:zs.length=24)(hi:i<8)(hl:ps.length=i)(hP:jR zs ps)(h:Bl L C b (j+1))
  (sh:eO (b8 b g zs [(bz "parts",.fB (bQ (cO ps))),(bz "unit",.dat (.int u)),(bz "rules",.fB [])] (aa (.im (.int (i:Int)))) v5 v6 v7 v8 v9) 3=aq):
  ∃(ps':List (Str×Str))(C':Ce),Hf (b8 b g zs [(bz "parts",.fB (bQ (cO ps))),(bz "unit",.dat (.int u)),(bz "rules",.fB [])] (aa (.im (.int (i:Int)))) v5 v6 v7 v8 v9) C [(bz "parts",.fB (bQ (cO ps))),(bz "unit",.dat (.int u)),(bz "rules",.fB [])]
   =aa (.nx,b8 b g zs [(bz "parts",.fB (bQ (cO ps'))),(bz "unit",.dat (.int u)),(bz "rules",.fB [])] (aa (.im (.int (i:Int)))) v5 v6 v7 v8 v9,C',[(bz "parts",.fB (bQ (cO ps'))),(bz "unit",.dat (.int u)),(bz "rules",.fB [])])/\ps'.length=i+1/\jR zs ps'/\Bl L C' b j:=by
 refine hide λGG gg=>?_
 obtain⟨t,C1,e1,a1,b1,iJ⟩:=iH (m:=1+(i:Int)) h az az
 have ct:=apm (zs:=zs) (m:=(i:Int)) az az;rw[yW] at ct;have ad:bU (.list [.str (bz "")]) (.list ((zs.take i).map .str))=aa (.ow (.list (iD (bz "")::(zs.take i).map .str))):=add_l (xs:=[.str (bz "")]) (by rw[bJ,Az];show 1+_<=_;lia)
 obtain⟨y,my,hy1,iy⟩:=pF (zs:=bz ""::zs.take i) (k:=t) a1 (by rw[dW,Az];lia)
 have hy2:y=bz ""\/∃j,j<ps.length/\zs[j]?=aa y:=by
  rcases bW.mp my with rfl|my
  .exact .inl rfl
  .obtain⟨jj,hj,e⟩:=vB my
   rw[Az] at hj;refine .inr ⟨jj,az,?_⟩;rw[ahP] at e;rw[<-e];exact jb az
 obtain⟨z,mz,hz1,iz⟩:=pF (zs:=zs) (k:=(i:Int)) az az
 rw[yW] at hz1;have pu:putD (bQ (cO ps)) (.str z) (.str y)=aa (bQ (cO (ps++[(z,y)]))):=by
  rw[acW (l:=cO ps) (z:=z) (d:=.str y)]
  .unfold cO;rw[iC];rfl
  .unfold cO;rw[fD];intro hm
   obtain⟨q,hq,e⟩:=dD.mp hm
   obtain⟨jj,hj,rfl⟩:=vB hq
   have g1:=(hP jj ps[jj] (jb hj)).1;have e:ps[jj].1=z:=e;rw[e] at g1
   obtain⟨x1,y1⟩:=jO.mp g1
   obtain⟨x2,y2⟩:=jO.mp hz1
   exact Av.mp hz.1 jj i x1 x2 az (y1.trans y2.symm)
 rw[dN] at iy;refine gg ⟨ps++[(z,y)],C1,?_,by rw[fO,hl];rfl,hP.snoc (by rw[hl];exact hz1) hy2,iJ⟩;refine ac6 (d:=.str y) (dk:=.str z) (kvs':=bQ (cO (ps++[(z,y)]))) (b':=[(bz "parts",.fB (bQ (cO (ps++[(z,y)])))),(bz "unit",.dat (.int u)),(bz "rules",.fB [])]) (e1:=b8 b g zs [(bz "parts",.fB (bQ (cO ps))),(bz "unit",.dat (.int u)),(bz "rules",.fB [])] (aa (.im (.int (i:Int)))) v5 v6 v7 v8 v9) (e2:=b8 b g zs [(bz "parts",.fB (bQ (cO ps))),(bz "unit",.dat (.int u)),(bz "rules",.fB [])] (aa (.im (.int (i:Int)))) v5 v6 v7 v8 v9) (C1:=C1) ?_ rfl sh ?_ rfl pu (by unfold bQ cO;rw[bJ,bJ];lia) (U9 _) sh rfl
 .simp_arith[b8,nJ,qY,mL,vo,ct,ad,e1,iy]
 .simp_arith[b8,iz]
theorem al8{C:Ce}{b L j i:Nat}{g:Bool}{zs:List Str}{u:Int}{pp:List Str}{mn:Str}{ss:List Int}(bx:List jk->eN)(hbx:∀rk,bx rk=[(bz "parts",.fB (bQ (cO ps))),(bz "unit",.dat (.int u)),(bz "rules",.fB []),(bz "people",.lst (pp.map .str)),(bz "main",.dat (.str mn)),(bz "sums",.lst (ss.map .int)),(bz "ranks",.lst (rk.map jU))])
  (hN:Names zs)(hP:jR zs ps)(p1:1<=ps.length)(p8:ps.length<=8)(u0:0<=u)(u1:u<=4999)(Ao:2<=pp.length)(CW:pp.length<=12)(su:∀z∈pp,z∈zs)(hi:i<20)(hl:rk.length=i)(h:Bl L C b (j+6))
  (sh:eO (b8 b g zs (bx rk) v4 v5 (aa (.im (.int (i:Int)))) v7 v8 v9) 3=aq):
  ∃(r:jk)(w7 w8:oVl)(C':Ce),Eb (b8 b g zs (bx rk) v4 v5 (aa (.im (.int (i:Int)))) v7 v8 v9) C (bx rk)=aa (.nx,b8 b g zs (bx (rk++[r])) v4 v5 (aa (.im (.int (i:Int)))) w7 w8 v9,C',bx (rk++[r]))/\r.1=i/\Jc zs (ps.map (·.1)) r/\eO (b8 b g zs (bx (rk++[r])) v4 v5 (aa (.im (.int (i:Int)))) w7 w8 v9) 3=aq/\Bl L C' b j:=by
 refine hide λGG gg=>?_
 have k1:gC (bx rk) (bz "parts")=aa (.fB (bQ (cO ps))):=by rw[hbx];rfl
 have k2:gC (bx rk) (bz "unit")=aa (.dat (.int u)):=by rw[hbx];rfl
 have k3:gC (bx rk) (bz "people")=aa (.lst (pp.map .str)):=by rw[hbx];rfl
 have k4:gC (bx rk) (bz "main")=aa (.dat (.str mn)):=by rw[hbx];rfl
 have k5:gC (bx rk) (bz "ranks")=aa (.lst (rk.map jU)):=by rw[hbx];rfl
 have x1:=mO k1 (d:=.dict (bQ (cO ps))) rfl;have x3:=mO k3 (d:=.list (pp.map .str)) rfl;have x4:=mO k4 (d:=.str mn) rfl;have so:=zA ps az
 obtain⟨sp,hsp⟩:∃sp,sp=mG strLt (ps.map (·.1)):=⟨_,rfl⟩
 have lA:sp.Perm (ps.map (·.1)):=by rw[hsp];exact rE _
 have Aq:sp.length=ps.length:=by rw[lA.length_eq,bJ]
 rw[<-hsp] at so;have ov:=Oe (C:=C) hN hP k1 p8 mn;have hul:=Xe ps mn;have mu:zP (.list ((up ps mn).map .str)) (.int 2)=aa (.ow (.list ((up ps mn++up ps mn).map .str))):=by
  have:zP (.list ((up ps mn).map .str)) (.int 2)=aa (.ow (.list (fP 2 ((up ps mn).map iD)).flatten)):=bG ⟨aR,aR,by rw[bJ];lia⟩;rw[this,iC];show aa (Vl.ow (.list ((up ps mn).map iD++((up ps mn).map iD++[]))))=_;rw[mj]
 obtain⟨al,hal⟩:∃al,al=sp++(up ps mn++up ps mn):=⟨_,rfl⟩
 have ll:al.length<=30:=by rw[hal,fO,fO];lia
 have l1:1<=al.length:=by rw[hal,fO];lia
 have ad:bU (.list (sp.map .str)) (.list ((up ps mn++up ps mn).map .str))=aa (.ow (.list (al.map .str))):=by
  rw[add_l (by rw[bJ,bJ,fO];lia),hal,iC (l₁:=sp)]
 have s1:u5 3 7 (aJ bU (aG (cM qH (cF (aG (aJ bf (aH 3) (cS "parts"))) cL))) (aG (aJ zP (aG (bL qI (aB (aU 3) (aB (aJ bf (aH 3) (cS "main")) aX)))) (cI 2)))) (b8 b g zs (bx rk) v4 v5 (aa (.im (.int (i:Int)))) v7 v8 v9) C (bx rk)=aa (.nx,b8 b g zs (bx rk) v4 v5 (aa (.im (.int (i:Int)))) (aa (.ow (.list (al.map .str)))) v8 v9,C,bx rk):=by
  refine Nz (r:=.ow (.list (al.map .str))) (e1:=b8 b g zs (bx rk) v4 v5 (aa (.im (.int (i:Int)))) v7 v8 v9) ?_ aR (tB sh (Eh al));simp_arith[b8,x1,so,x4,ov,mu,ad]
 have qw:eO (b8 b g zs (bx rk) v4 v5 (aa (.im (.int (i:Int)))) (aa (.ow (.list (al.map .str)))) v8 v9) 3=aq:=tB (j:=7) sh (Eh al)
 obtain⟨t1,C1,e1,a1,b1,iJ⟩:=iH (m:=(pp.length:Int)) (k:=j+5) h az az
 obtain⟨wh,mw,_,iw⟩:=pF (zs:=pp) a1 az
 obtain⟨t2,C2,e2,a2,b2,hB2⟩:=iH (m:=4) iJ aR aR
 obtain⟨q,iq,q1,q9⟩:=afr a2 b2
 have s2:u5 3 8 (jd (aB (aJ bf (aG (aJ bf (aH 3) (cS "people"))) (aG (bL cN (aB (aU 0) (aB (cM jc (cF (aG (aJ bf (aH 3) (cS "people"))) cL)) aX))))) (aB (aJ bf (aG (dR (aB (bM (.int 1)) (aB (bM (.int 2)) (aB (bM (.int 3)) (aB (bM (.int 9)) aX)))))) (aG (bL cN (aB (aU 0) (aB (bM (.int 4)) aX))))) aX))) (b8 b g zs (bx rk) v4 v5 (aa (.im (.int (i:Int)))) (aa (.ow (.list (al.map .str)))) v8 v9) C (bx rk)=aa (.nx,b8 b g zs (bx rk) v4 v5 (aa (.im (.int (i:Int)))) (aa (.ow (.list (al.map .str)))) (aa (.im (.tuple [.str wh,.int q]))) v9,C2,bx rk):=by
  refine Nz (r:=.im (.tuple [.str wh,.int q])) (e1:=b8 b g zs (bx rk) v4 v5 (aa (.im (.int (i:Int)))) (aa (.ow (.list (al.map .str)))) v8 v9) ?_ aR (tB qw rfl);simp_arith[b8,x3,e1,iw,e2,iq]
 have GC:eO (b8 b g zs (bx rk) v4 v5 (aa (.im (.int (i:Int)))) (aa (.ow (.list (al.map .str)))) (aa (.im (.tuple [.str wh,.int q]))) v9) 3=aq:=tB (j:=8) qw rfl
 obtain⟨t3,C3,e3,a3,b3,hB3⟩:=iH (m:=(al.length:Int)) hB2 az az
 obtain⟨pt,mp,_,ip⟩:=pF (zs:=al) a3 b3
 obtain⟨f,l,C4,e4,d1,d2,d3,pQ⟩:=aeq (j:=j) k2 u0 u1 hB3
 have at1:bU (.tuple [.int (i:Int)]) (.tuple [.str wh,.int q])=aa (.im (.tuple [.int (i:Int),.str wh,.int q])):=zX (by show 1+2<=_;decide);have at2:bU (.tuple [.int (i:Int),.str wh,.int q]) (.tuple [.str pt])=aa (.im (.tuple [.int (i:Int),.str wh,.int q,.str pt])):=zX (by show 3+1<=_;decide);have Zh:bU (.tuple [.int (i:Int),.str wh,.int q,.str pt]) (.tuple [.int f,.int l])=aa (.im (.tuple [.int (i:Int),.str wh,.int q,.str pt,.int f,.int l])):=zX (by show 4+2<=_;decide);have po:pt∈ps.map (·.1):=by
  rw[hal] at mp;rcases cY.mp mp with m|m
  .exact lA.mem_iff.mp m
  .have m:pt∈up ps mn:=by rcases cY.mp m with m|m<;>exact m
   exact aqr hN hP m
 have s3:JG 3 (bz "ranks") (aJ bU (aG (aJ bU (aG (aJ bU (aG (jd (aB (aU 6) aX))) (aH 8))) (aG (jd (aB (aJ bf (aH 7) (aG (bL cN (aB (aU 0) (aB (cM jc (cF (aH 7) cL)) aX))))) aX))))) (aG (bL BW (aB (aU 0) (aB (aU 3) aX))))) (b8 b g zs (bx rk) v4 v5 (aa (.im (.int (i:Int)))) (aa (.ow (.list (al.map .str)))) (aa (.im (.tuple [.str wh,.int q]))) v9) C2 (bx rk)
   =aa (.nx,b8 b g zs (bx (rk++[((i:Int),wh,q,pt,f,l)])) v4 v5 (aa (.im (.int (i:Int)))) (aa (.ow (.list (al.map .str)))) (aa (.im (.tuple [.str wh,.int q]))) v9,C4,bx (rk++[((i:Int),wh,q,pt,f,l)])):=by
  refine anD (ds:=rk.map jU) (d:=jU ((i:Int),wh,q,pt,f,l)) (b':=bx (rk++[((i:Int),wh,q,pt,f,l)])) (e1:=b8 b g zs (bx rk) v4 v5 (aa (.im (.int (i:Int)))) (aa (.ow (.list (al.map .str)))) (aa (.im (.tuple [.str wh,.int q]))) v9) k5 ?_ rfl (by rw[bJ];lia) GC (by rw[hbx,hbx,iC];rfl);simp_arith[b8,at1,e3,ip,at2,e4,Zh];rfl
 refine gg ⟨((i:Int),wh,q,pt,f,l),aa (.ow (.list (al.map .str))),aa (.im (.tuple [.str wh,.int q])),C4,?_,rfl,⟨⟨by show(0:Int)<=(i:Int);lia,by show(i:Int)<=2000;lia⟩,su _ mw,⟨q1,q9⟩,po,d1,d2,d3⟩,uF GC,pQ⟩;unfold Eb;rw[tM s1,tM s2];exact s3
theorem al9{C:Ce}{b L j i:Nat}{g:Bool}{zs:List Str}{x:j0}(hN:Names zs)(p1:1<=x.ps.length)(p8:x.ps.length<=8)(mo:x.mn∈x.ps.map (·.1))(s6:x.ss.length=6)(sb:∀s∈x.ss,0<=s/\s<=1000000000)
  (hr:∀r∈rs,yf (x.ps.map (·.1)) r)(nd:(rs.map qZ).Nodup)(hl:rs.length<=100)(h:Bl L C b (j+16))(sh:eO (b8 b g zs (gW {x with rs:=rs}) v4 v5 v6 v7 v8 v9) 3=aq):
  ∃(rs':List jr)(w7:oVl)(C':Ce),Ea (b8 b g zs (gW {x with rs:=rs}) v4 v5 v6 v7 v8 v9) C (gW {x with rs:=rs})=aa (.nx,b8 b g zs (gW {x with rs:=rs'}) v4 v5 v6 w7 v8 v9,C',gW {x with rs:=rs'})
   /\(∀r∈rs',yf (x.ps.map (·.1)) r)/\(rs'.map qZ).Nodup/\rs'.length<=rs.length+1/\rs'≠[]/\eO (b8 b g zs (gW {x with rs:=rs'}) v4 v5 v6 w7 v8 v9) 3=aq/\Bl L C' b j:=by
 refine hide λGG gg=>?_
 obtain⟨bx,hbx⟩:∃bx:List jr->eN,∀r,bx r=gW {x with rs:=r}:=⟨_,λ_=>rfl⟩
 rw[<-hbx] at sh;simp only[<-hbx] at gg;have k1:gC (bx rs) (bz "parts")=aa (.fB (bQ (cO x.ps))):=by rw[hbx];rfl
 have k4:gC (bx rs) (bz "main")=aa (.dat (.str x.mn)):=by rw[hbx];rfl
 have k5:gC (bx rs) (bz "rules")=aa (.fB (eU rs)):=by rw[hbx];rfl
 have k6:gC (bx rs) (bz "sums")=aa (.lst (x.ss.map .int)):=by rw[hbx];rfl
 have x1:=mO k1 (d:=.dict (bQ (cO x.ps))) rfl;have x4:=mO k4 (d:=.str x.mn) rfl;have so:=zA x.ps az;have ln:=Wf x.ps
 obtain⟨sp,hsp⟩:∃sp,sp=mG strLt (x.ps.map (·.1)):=⟨_,rfl⟩
 have lA:sp.Perm (x.ps.map (·.1)):=by rw[hsp];exact rE _
 have Aq:sp.length=x.ps.length:=by rw[lA.length_eq,bJ]
 rw[<-hsp] at so
 obtain⟨t1,C1,e1,a1,b1,iJ⟩:=iH (m:=(x.ps.length:Int)+1) (k:=j+15) h az az
 have ad:bU (.list (sp.map .str)) (.list [.str x.mn])=aa (.ow (.list ((sp++[x.mn]).map .str))):=by
  rw[add_l (by rw[bJ];show _+1<=_;lia),iC];rfl
 obtain⟨pt,mp,_,ip⟩:=pF (zs:=sp++[x.mn]) (k:=t1) a1 (by rw[fO];show t1<((sp.length+1:Nat):Int);lia)
 have po:pt∈x.ps.map (·.1):=by
  rcases cY.mp mp with m|m
  .exact lA.mem_iff.mp m
  .rw[gk.mp m];exact mo
 have s1:u5 3 7 (aJ bf (aG (aJ bU (aG (cM qH (cF (aG (aJ bf (aH 3) (cS "parts"))) cL))) (aG (dR (aB (aJ bf (aH 3) (cS "main")) aX))))) (aG (bL cN (aB (aU 0) (aB (aJ bU (aG (cM jc (cF (aG (aJ bf (aH 3) (cS "parts"))) cL))) (cI 1)) aX))))) (b8 b g zs (bx rs) v4 v5 v6 v7 v8 v9) C (bx rs)=aa (.nx,b8 b g zs (bx rs) v4 v5 v6 (aa (.im (.str pt))) v8 v9,C1,bx rs):=by
  refine Nz (r:=.im (.str pt)) (e1:=b8 b g zs (bx rs) v4 v5 v6 v7 v8 v9) ?_ aR (tB sh rfl);simp_arith[b8,x1,so,x4,ad,ln,e1,ip]
 have qw:eO (b8 b g zs (bx rs) v4 v5 v6 (aa (.im (.str pt))) v8 v9) 3=aq:=tB (j:=7) sh rfl
 obtain⟨ss,C2,e2,l2,hS,hB2⟩:=al5 (j:=j+2) k1 p8 iJ
 obtain⟨sm,C3,e3,q1,q2,hB3⟩:=Pb (j:=j) k6 s6 sb hB2
 obtain⟨r1,r2,r3⟩:=anf hr (p:=pt) (s:=sm) (ss:=ss) ⟨po,⟨q1,q2⟩,l2,hS⟩ nd
 have pk:=ao3 rs pt sm ss;unfold jK at pk;have s2:FW 3 (bz "rules") (aG (jd (aB (aU 7) (aB (bL uL (aB (aU 0) (aB (aU 3) aX))) aX)))) (bL HY (aB (aU 0) (aB (aU 3) (aB (bM (.int 6)) aX)))) (b8 b g zs (bx rs) v4 v5 v6 (aa (.im (.str pt))) v8 v9) C1 (bx rs)=aa (.nx,b8 b g zs (bx (sr rs pt sm ss)) v4 v5 v6 (aa (.im (.str pt))) v8 v9,C3,bx (sr rs pt sm ss)):=by
  refine ac6 (d:=oO ss) (dk:=.tuple [.str pt,.int sm]) (aA:=eU rs) (kvs':=eU (sr rs pt sm ss)) (b':=bx (sr rs pt sm ss)) (e1:=b8 b g zs (bx rs) v4 v5 v6 (aa (.im (.str pt))) v8 v9) (e2:=b8 b g zs (bx rs) v4 v5 v6 (aa (.im (.str pt))) v8 v9) (C1:=C2) ?_ (Mj ss) qw ?_ k5 pk (by unfold eU;rw[bJ];lia) (aek _) qw (by rw[hbx,hbx];rfl)
  .simp_arith[b8,e2,oO]
  .simp_arith[b8,e3]
 refine gg ⟨sr rs pt sm ss,aa (.im (.str pt)),C3,?_,r1,r2,r3,anF _ _ _ _,uF qw,hB3⟩;unfold Ea;rw[tM s1];exact s2
abbrev B3(u:Int)(ps:List (Str×Str)):eN:=[(bz "parts",.fB (bQ (cO ps))),(bz "unit",.dat (.int u)),(bz "rules",.fB [])]
abbrev B4(u:Int)(ps:List (Str×Str))(pp:List Str):eN:=B3 u ps++[(bz "people",.lst (pp.map .str))]
abbrev B5(u:Int)(ps:List (Str×Str))(pp:List Str)(mn:Str):eN:=B4 u ps pp++[(bz "main",.dat (.str mn))]
abbrev B6(u:Int)(ps:List (Str×Str))(pp:List Str)(mn:Str)(ss:List Int):eN:=B5 u ps pp mn++[(bz "sums",.lst (ss.map .int))]
def B7(u:Int)(ps:List (Str×Str))(pp:List Str)(mn:Str)(ss:List Int)(rk:List jk):eN:=B6 u ps pp mn ss++[(bz "ranks",.lst (rk.map jU))]
theorem anV(h0:0<=k)(h1:k<4):∃s,fL [lD 1,.int 1,.int 7,.int 4999] k=aa (.int s)/\0<=s/\s<=4999:=by
 have hk:k=0\/k=1\/k=2\/k=3:=az;rcases hk with rfl|rfl|rfl|rfl
 .exact⟨1,rfl,aR,aR⟩
 .exact⟨1,rfl,aR,aR⟩
 .exact⟨7,rfl,aR,aR⟩
 .exact⟨4999,rfl,aR,aR⟩
theorem ama{C:Ce}{b L j:Nat}{g:Bool}{bx:eN}{u:Int}{pp:List Str}{mn:Str}{ss:List Int}
  (hu:gC bx (bz "unit")=aa (.dat (.int u)))(u0:0<=u)(u1:u<=4999)(hs:gC bx (bz "sums")=aa (.lst (ss.map .int)))(hl:ss.length=6)(hb:∀x∈ss,0<=x/\x<=1000000000)
  (hp:gC bx (bz "parts")=aa (.fB (bQ (cO ps))))(p8:ps.length<=8)(hpp:gC bx (bz "people")=aa (.lst (pp.map .str)))(Ao:2<=pp.length)(pp9:pp.length<=24)(J8:pp.Nodup)(su:∀z∈pp,z∈zs)
  (hm:gC bx (bz "main")=aa (.dat (.str mn)))(mo:mn∈ps.map (·.1))(h:Bl L C b (j+161)):
  ∃(lv:List nY)(C':Ce),gU (jM (aG (aJ bf (aG (dR (aB (bL cN (aB (aU 0) (aB (bM (.int 7)) aX))) (aB (bM (.int 16)) aX)))) (aG (cM pJ (cF (aH 1) cL)))))) .one gF Sg [0,3] (b8 b g zs bx v4 v5 v6 v7 v8 v9) C=aa (.ow (.list (lv.map dz)),b8 b g zs bx v4 v5 v6 v7 v8 v9,C')/\lv.length<=16/\(∀r∈lv,Et zs (ps.map (·.1)) r)/\(lv.map (·.1)).Pairwise (·<·)/\Bl L C' b j:=by
 refine hide λGG gg=>?_
 obtain⟨t,C1,e1,a1,b1,iJ⟩:=iH (m:=7) (k:=j+160) h aR aR
 have t2:=ae6 g (.int t) (.int 16);have t3:(if g=aq then lD 16 else .int t)=.int (if g=aq then 16 else t):=by cases g<;>rfl
 rw[t3] at t2
 obtain⟨m,hm'⟩:∃m,(if g=aq then 16 else t)=m:=⟨_,rfl⟩
 have m0:0<=m/\m<=16:=by rw[<-hm'];split<;>lia
 rw[hm'] at t2
 obtain⟨ys,C2,e2,hB2,hl2,hr2⟩:=Mi (T:=.one) (fe:=Sg) (fs:=[aa (.ce b),aa (.im (fH bx))]) (λi C1=>Bl L C1 b (j+10*(16-i))) (λi y=>∃r:nY,y=dz r/\Et zs (ps.map (·.1)) r/\r.1=(i:Int)) (aK:=gf 0 m.toNat) (C:=C1) (k:=0) iJ (λi d C3 hd hB=>by
  obtain⟨rfl,hi⟩:=tK hd
  rw[zc] at hB⊢;rw[FP j 10 (by lia:i<16)] at hB
  obtain⟨r,C4,e,ok,rn,pQ⟩:=anU (n:=(i:Int)) hu u0 u1 hs hl hb hp p8 hpp Ao pp9 J8 su hm mo az az hB
  refine⟨_,.im (dz r),[aa (.im (.int (0+i))),aa (.ce b),aa (.im (fH bx))],C4,dz r,rfl,?_,rfl,⟨r,rfl,ok,rn⟩,pQ⟩
  rw[K7];simp_arith[eG,jn,iU,e])
 rw[vX] at hB2 hl2
 obtain⟨lv,rfl,Zi⟩:=Wg (D:=dz) (R:=λi r=>Et zs (ps.map (·.1)) r/\r.1=(i:Int)) (k:=0) (ys:=ys) λi y hy=>hr2 i y hy
 rw[bJ] at hl2;refine gg ⟨lv,C2,?_,az,λr hr=>?_,ael λi r e=>by have:=(Zi i r e).2;rwa [zc] at this,hB2.mono (Ba _ _)⟩
 .have q:(m.toNat<=1000000)=True:=eqT;have nl:dY (lv.map dz)=aq:=by
   clear e2 hr2 Zi hl2 gg;induction lv with
   |nil=>rfl
   |cons r l ih=>show(aq&&dY (l.map dz))=aq;rw[ih];rfl
  simp_arith[b8,e1,pJ,t2,jM,yH (m:=m) az az,e2,hl2,q,nl]
 .obtain⟨i,hi,rfl⟩:=vB hr
  exact(Zi i _ (jb hi)).1
theorem akM{C:Ce}{g:Bool}{u m:Int}(hN:Names zs)(Ka:zs.length=24)(m0:1<=m)(m8:m<=8)(h:Bl L C b (j+8))(sh:eO (b8 b g zs (B3 u []) aj aj aj aj aj aj) 3=aq):
  ∃(ps:List (Str×Str))(v4:oVl)(C':Ce),tX 4 Hf (gf 0 m.toNat) (b8 b g zs (B3 u []) aj aj aj aj aj aj) C (B3 u [])=aa (.nx,b8 b g zs (B3 u ps) v4 aj aj aj aj aj,C',B3 u ps)/\ps.length=m.toNat/\jR zs ps/\eO (b8 b g zs (B3 u ps) v4 aj aj aj aj aj) 3=aq/\Bl L C' b j:=by
 obtain⟨aV,C',bx',e,ps,v4,he,hb,hl,hP,hs,hB⟩:=T5 (j:=4) (body:=Hf) (aK:=gf 0 m.toNat) (ao:=b8 b g zs (B3 u []) aj aj aj aj aj aj) (C:=C) (b:=B3 u [])
  (λi ao C1 bx=>∃(ps:List (Str×Str))(v4:oVl),ao=b8 b g zs (B3 u ps) v4 aj aj aj aj aj/\bx=B3 u ps/\ps.length=i/\jR zs ps/\eO ao 3=aq/\Bl L C1 b (j+(8-i)))
  ⟨[],aj,rfl,rfl,rfl,(λi x e=>by simp at e),sh,h⟩ (λi d ao C1 bx hd hI=>by
   obtain⟨ps,v4,rfl,rfl,hl,hP,hs,hB⟩:=hI
   obtain⟨rfl,hi⟩:=tK hd
   rw[Xf j (by lia:i<8)] at hB;rw[K7];have qw:eO (b8 b g zs (B3 u ps) (aa (.im (.int (i:Int)))) aj aj aj aj aj) 3=aq:=tB (j:=4) hs rfl
   obtain⟨ps',C2,e,l,p,hB2⟩:=al7 (u:=u) hN Ka az hl hP hB qw
   exact⟨_,C2,_,e,ps',_,rfl,rfl,l,p,uF (i:=3) qw,hB2⟩)
 rw[vX] at hl hB;subst he hb
 exact⟨ps,v4,C',e,hl,hP,hs,hB.mono (Ba _ _)⟩
theorem akN{C:Ce}{b L j:Nat}{g:Bool}{u m:Int}{pp:List Str}{mn:Str}{ss:List Int}(hN:Names zs)(hP:jR zs ps)(p1:1<=ps.length)(p8:ps.length<=8)(u0:0<=u)(u1:u<=4999)(Ao:2<=pp.length)(CW:pp.length<=12)(su:∀z∈pp,z∈zs)(m0:1<=m)(m8:m<=20)(h:Bl L C b (j+120))(sh:eO (b8 b g zs (B7 u ps pp mn ss []) v4 v5 aj aj aj aj) 3=aq):
  ∃(rk:List jk)(v6 v7 v8:oVl)(C':Ce),tX 6 Eb (gf 0 m.toNat) (b8 b g zs (B7 u ps pp mn ss []) v4 v5 aj aj aj aj) C (B7 u ps pp mn ss [])=aa (.nx,b8 b g zs (B7 u ps pp mn ss rk) v4 v5 v6 v7 v8 aj,C',B7 u ps pp mn ss rk)/\rk.length=m.toNat/\(∀r∈rk,Jc zs (ps.map (·.1)) r)/\(rk.map (·.1)).Pairwise (·<·)/\eO (b8 b g zs (B7 u ps pp mn ss rk) v4 v5 v6 v7 v8 aj) 3=aq/\Bl L C' b j:=by
 obtain⟨aV,C',bx',e,rk,v6,v7,v8,he,hb,hl,hR,hnum,hs,hB⟩:=T5 (j:=6) (body:=Eb) (aK:=gf 0 m.toNat) (ao:=b8 b g zs (B7 u ps pp mn ss []) v4 v5 aj aj aj aj) (C:=C) (b:=B7 u ps pp mn ss [])
  (λi ao C1 bx=>∃(rk:List jk)(v6 v7 v8:oVl),ao=b8 b g zs (B7 u ps pp mn ss rk) v4 v5 v6 v7 v8 aj/\bx=B7 u ps pp mn ss rk/\rk.length=i/\(∀r∈rk,Jc zs (ps.map (·.1)) r)/\(∀(k:Nat)(r:jk),rk[k]?=aa r->r.1=(k:Int))/\eO ao 3=aq/\Bl L C1 b (j+6*(20-i)))
  ⟨[],aj,aj,aj,rfl,rfl,rfl,(λ_ m=>nomatch m),(λk r e=>by simp at e),sh,h⟩ (λi d ao C1 bx hd hI=>by
   obtain⟨rk,v6,v7,v8,rfl,rfl,hl,hR,hnum,hs,hB⟩:=hI
   obtain⟨rfl,hi⟩:=tK hd
   rw[FP j 6 (by lia:i<20)] at hB;rw[K7];have qw:eO (b8 b g zs (B7 u ps pp mn ss rk) v4 v5 (aa (.im (.int (i:Int)))) v7 v8 aj) 3=aq:=tB (j:=6) hs rfl
   obtain⟨r,w7,w8,C2,e,rn,rok,GC,hB2⟩:=al8 (ss:=ss) (mn:=mn) (B7 u ps pp mn ss) (λ_=>rfl) hN hP p1 p8 u0 u1 Ao CW su az hl hB qw
   exact⟨_,C2,_,e,rk++[r],_,w7,w8,rfl,rfl,by rw[fO,hl];rfl,λy hy=>by
    rcases cY.mp hy with hy|hy
    .exact hR y hy
    .rw[gk.mp hy];exact rok,λk y hk=>by
    rcases anH hk with hk|⟨rfl,rfl⟩
    .exact hnum k y hk
    .rw[rn,hl],GC,hB2⟩)
 rw[vX] at hl hB;subst he hb
 exact⟨rk,v6,v7,v8,C',e,hl,hR,ael hnum,hs,hB.mono (Ba _ _)⟩
theorem akO{C:Ce}{g:Bool}{m:Int}{x:j0}(hN:Names zs)(p1:1<=x.ps.length)(p8:x.ps.length<=8)(mo:x.mn∈x.ps.map (·.1))(s6:x.ss.length=6)(sb:∀s∈x.ss,0<=s/\s<=1000000000)(m0:1<=m)(m8:m<=10)(h:Bl L C b (j+160))(sh:eO (b8 b g zs (gW {x with rs:=[]}) v4 v5 v6 v7 v8 aj) 3=aq):
  ∃(rs:List jr)(w7 w9:oVl)(C':Ce),tX 9 Ea (gf 0 m.toNat) (b8 b g zs (gW {x with rs:=[]}) v4 v5 v6 v7 v8 aj) C (gW {x with rs:=[]})=aa (.nx,b8 b g zs (gW {x with rs:=rs}) v4 v5 v6 w7 v8 w9,C',gW {x with rs:=rs})/\rs.length<=10/\(∀r∈rs,yf (x.ps.map (·.1)) r)/\(rs.map qZ).Nodup/\rs≠[]/\Bl L C' b j:=by
 obtain⟨aV,C',bx',e,rs,w7,w9,he,hb,hl,hR,hnd,hne,hs,hB⟩:=T5 (j:=9) (body:=Ea) (aK:=gf 0 m.toNat) (ao:=b8 b g zs (gW {x with rs:=[]}) v4 v5 v6 v7 v8 aj) (C:=C) (b:=gW {x with rs:=[]})
  (λi ao C1 bx=>∃(rs:List jr)(w7 w9:oVl),ao=b8 b g zs (gW {x with rs:=rs}) v4 v5 v6 w7 v8 w9/\bx=gW {x with rs:=rs}/\rs.length<=i/\(∀r∈rs,yf (x.ps.map (·.1)) r)/\(rs.map qZ).Nodup/\(0<i->rs≠[])/\eO ao 3=aq/\Bl L C1 b (j+16*(10-i)))
  ⟨[],v7,aj,rfl,rfl,cz 0,(λ_ m=>nomatch m),lO,(λz=>absurd z (xK 0)),sh,h⟩ (λi d ao C1 bx hd hI=>by
   obtain⟨rs,w7,w9,rfl,rfl,hl,hR,hnd,hne,hs,hB⟩:=hI
   obtain⟨rfl,hi⟩:=tK hd
   rw[FP j 16 (by lia:i<10)] at hB;have qw:eO (b8 b g zs (gW {x with rs:=rs}) v4 v5 v6 w7 v8 (aa (.im (.int (0+(i:Int)))))) 3=aq:=tB (j:=9) hs rfl
   obtain⟨rs',u7,C2,e,r1,r2,r3,r4,GC,hB2⟩:=al9 (i:=i) hN p1 p8 mo s6 sb hR hnd az hB qw
   exact⟨_,C2,_,e,rs',u7,_,rfl,rfl,az,r1,r2,(λ_=>r4),GC,hB2⟩)
 rw[vX] at hl hB hne;subst he hb
 exact⟨rs,w7,w9,C',e,az,hR,hnd,hne az,hB.mono (Ba _ _)⟩
theorem amb(h:Bl L C b (j+500)):∃(zs:List Str)(x:j0)(C':Ce),M7 [.ce b,.im (.bool g)] C=aa (.im (cW x),C')/\nF zs x/\zs.length=24/\Bl L C' b j:=by
 refine hide λGG gg=>?_
 obtain⟨zs,C0,e0,hN,hz,hB0⟩:=al4 (m:=24) (j:=j+489) h aR aR
 have Ka:zs.length=24:=hz
 obtain⟨t1,C1,e1,a1,b1,iJ⟩:=iH (m:=4) hB0 aR aR
 obtain⟨u,iu,u0,u1⟩:=anV a1 b1
 have sh0:eO ([aa (.ce b),aa (.im (.bool g)),aa (.ow (.list (zs.map .str))),aj,aj,aj,aj,aj,aj,aj]:En) 3=aq:=by simp[eO,Gy,Eh,jf]
 have qw:eO (b8 b g zs (B3 u []) aj aj aj aj aj aj) 3=aq:=uF (i:=3) sh0
 obtain⟨m1,C2,e2,r2,hB2⟩:=Og (g:=g) (zs:=zs) (bx:=B3 u []) (v4:=aj) (v5:=aj) (v6:=aj) (v7:=aj) (v8:=aj) (v9:=aj) 1 4 8 aR aR iJ
 obtain⟨ps,v4,C3,e3,pl,hP,sh3,hB3⟩:=akM (u:=u) (m:=m1) (j:=j+479) hN Ka az az hB2 qw
 have p1:1<=ps.length:=az;have p8:ps.length<=8:=az;have s1:=(We (i:=3) (j:=4) (body:=Hf) (b:=B3 u []) (Jb e2 rfl) aR az az).trans e3
 obtain⟨m2,C4,e4,r4,pQ⟩:=Og (g:=g) (zs:=zs) (bx:=B3 u ps) (v4:=v4) (v5:=aj) (v6:=aj) (v7:=aj) (v8:=aj) (v9:=aj) 2 6 12 aR aR hB3
 obtain⟨pp,hpp⟩:∃pp,pp=(zs.drop 4).take m2.toNat:=⟨_,rfl⟩
 have ppl:pp.length=m2.toNat:=by rw[hpp,Az,aaa];lia
 have Dk:pp.Sublist zs:=by rw[hpp];exact(ZX _ _).trans (List.drop_sublist _ _)
 have ct:rZ (zs.map iD) (aa 4) (aa (4+m2))=pp.map .str:=by
  have:=apg iD (xs:=zs) (a:=4) (b:=4+m2.toNat) az az;rw[show((4+m2.toNat:Nat):Int)=4+m2 by lia,show 4+m2.toNat-4=m2.toNat by lia] at this;rw[hpp];exact this
 have sh4:eO (b8 b g zs (B4 u ps pp) v4 aj aj aj aj aj) 3=aq:=uF (i:=3) sh3;have so:=zA ps az;have ln:=Wf ps
 obtain⟨sp,hsp⟩:∃sp,sp=mG strLt (ps.map (·.1)):=⟨_,rfl⟩
 have lA:sp.Perm (ps.map (·.1)):=by rw[hsp];exact rE _
 have Aq:sp.length=ps.length:=by rw[lA.length_eq,bJ]
 rw[<-hsp] at so
 obtain⟨t5,C5,e5,a5,b5,Dl⟩:=iH (m:=(ps.length:Int)) pQ az az
 obtain⟨mn,mm,_,im⟩:=pF (zs:=sp) a5 az
 have mo:mn∈ps.map (·.1):=lA.mem_iff.mp mm;have x4:=mO (b:=B4 u ps pp) (k:=bz "parts") (d:=.dict (bQ (cO ps))) rfl rfl;have sh5:eO (b8 b g zs (B5 u ps pp mn) v4 aj aj aj aj aj) 3=aq:=uF (i:=3) sh4
 obtain⟨sm,C6,e6,a6,b6,QM⟩:=iH (m:=1000000000) Dl aR aR
 have pw:yh (.int 10) (.int 9)=aa (.im (.int 1000000000)):=rfl;have sh6:eO (b8 b g zs (B5 u ps pp mn) v4 (aa (.im (.int sm))) aj aj aj aj) 3=aq:=tB (j:=5) sh5 rfl
 obtain⟨ss,hss⟩:∃ss:List Int,ss=[0,sm,sm,sm+1,1000000000,50]:=⟨_,rfl⟩
 have s6:ss.length=6:=by rw[hss];rfl
 have sb:∀s∈ss,0<=s/\s<=1000000000:=λs hs=>by
  rw[hss] at hs;simp only[bW,iT,or_false] at hs;lia
 have ct2:rZ [lD 0,.int sm,.int sm,.int (sm+1),.int 1000000000,.int 50] aj (aa 6)=ss.map .int:=by rw[hss];rfl
 have sh7:eO (b8 b g zs (B6 u ps pp mn ss) v4 (aa (.im (.int sm))) aj aj aj aj) 3=aq:=uF (i:=3) sh6;have sh8:eO (b8 b g zs (B7 u ps pp mn ss []) v4 (aa (.im (.int sm))) aj aj aj aj) 3=aq:=uF (i:=3) sh7
 obtain⟨m8,C8,e8,r8,hB8⟩:=Og (g:=g) (zs:=zs) (bx:=B7 u ps pp mn ss []) (v4:=v4) (v5:=aa (.im (.int sm))) (v6:=aj) (v7:=aj) (v8:=aj) (v9:=aj) 1 8 20 aR aR QM
 obtain⟨rk,v6,v7,v8,C9,e9,rl,hR,J4,sh9,hB9⟩:=akN (u:=u) (m:=m8) (j:=j+355) (mn:=mn) (ss:=ss) (pp:=pp) hN hP p1 p8 u0 u1 az az (λz hz=>Dk.subset hz) az az hB8 sh8
 have s8:=(We (i:=3) (j:=6) (body:=Eb) (b:=B7 u ps pp mn ss []) (Jb e8 rfl) aR az az).trans e9
 obtain⟨lv,C10,e10,qu,hL,J9,arn⟩:=ama (g:=g) (zs:=zs) (bx:=B7 u ps pp mn ss rk) (v4:=v4) (v5:=aa (.im (.int sm))) (v6:=v6) (v7:=v7) (v8:=v8) (v9:=aj) (j:=j+194) (u:=u) (ps:=ps) (pp:=pp) (mn:=mn) (ss:=ss) rfl u0 u1 rfl s6 sb rfl p8 rfl az az (Dk.nodup hN.1) (λz hz=>Dk.subset hz) rfl mo hB9
 have nl:dY (lv.map dz)=aq:=by
  clear e10 qu hL J9;induction lv with
  |nil=>rfl
  |cons r l ih=>show(aq&&dY (l.map dz))=aq;rw[ih];rfl
 obtain⟨x,hx⟩:∃x:j0,x=⟨ps,u,[],pp,mn,ss,rk,lv⟩:=⟨_,rfl⟩
 have xb:∀rs,gW {x with rs:=rs}=[(bz "parts",.fB (bQ (cO ps))),(bz "unit",.dat (.int u)),(bz "rules",.fB (eU rs)),(bz "people",.lst (pp.map .str)),(bz "main",.dat (.str mn)),(bz "sums",.lst (ss.map .int)),(bz "ranks",.lst (rk.map jU)),(bz "leaves",.lst (lv.map dz))]:=λrs=>by rw[hx];rfl
 have xp:x.ps=ps:=by rw[hx]
 have xm:x.mn=mn:=by rw[hx]
 have xs:x.ss=ss:=by rw[hx]
 have aro:eO (b8 b g zs (gW {x with rs:=[]}) v4 (aa (.im (.int sm))) v6 v7 v8 aj) 3=aq:=by
  rw[xb];exact uF (i:=3) sh9
 obtain⟨m11,C11,e11,r11,arp⟩:=Og (g:=g) (zs:=zs) (bx:=gW {x with rs:=[]}) (v4:=v4) (v5:=aa (.im (.int sm))) (v6:=v6) (v7:=v7) (v8:=v8) (v9:=aj) 1 4 10 aR aR arn
 obtain⟨rs,w7,w9,C12,e12,pP,hU,und,une,af3⟩:=akO (m:=m11) (j:=j+33) hN (by rw[xp];exact p1) (by rw[xp];exact p8) (by rw[xp,xm];exact mo) (by rw[xs];exact s6) (by rw[xs];exact sb) az az arp aro
 have Zj:=(We (i:=3) (j:=9) (body:=Ea) (b:=gW {x with rs:=[]}) (Jb e11 rfl) aR az az).trans e12;rw[xp] at hU;refine gg ⟨zs,{x with rs:=rs},C12,gP [aa (.ce b),aa (.im (.bool g)),aj,aj,aj,aj,aj,aj,aj,aj] rfl rfl ?_ rfl (h.eq af3),⟨hN,by rw[hx];exact hP,by rw[hx];exact p1,by rw[hx];exact p8,by rw[hx];exact u0,by rw[hx];exact u1,by rw[hx];exact hU,pP,une,und,by rw[hx];show 2<=pp.length;lia,by rw[hx];show pp.length<=12;lia,by rw[hx];exact Dk.nodup hN.1,by rw[hx];exact λz hz=>Dk.subset hz,by rw[hx];exact mo,by rw[hx];exact s6,by rw[hx];exact sb,by rw[hx];exact hR,by rw[hx];show rk.length<=20;lia,by rw[hx];exact J4,by rw[hx];exact hL,by rw[hx];exact qu,by rw[hx];exact J9⟩,Ka,af3.mono az⟩;have fin:M6 [aa (.ce b),aa (.im (.bool g)),aj,aj,aj,aj,aj,aj,aj,aj] C=aa (.rt (.im (fH (gW {x with rs:=rs}))),b8 b g zs (gW {x with rs:=rs}) v4 (aa (.im (.int sm))) v6 w7 v8 w9,C12):=by
  unfold M6
  refine(oR (e1:=[aa (.ce b),aa (.im (.bool g)),aa (.ow (.list (zs.map .str))),aj,aj,aj,aj,aj,aj,aj]) (C1:=C0) (by simp_arith[e0])).trans ?_
  refine(anE (b:=B3 u []) (e1:=[aa (.ce b),aa (.im (.bool g)),aa (.ow (.list (zs.map .str))),aj,aj,aj,aj,aj,aj,aj]) (C1:=C1) (by simp_arith[JH,Ox,sG,oA,jf,e1,iu];rfl) (by show([bz "parts",bz "unit",bz "rules"]:List Str).Nodup;decide +kernel) (by show 3<=15;decide) sh0 (by show 3<10;decide)).trans ?_
  refine(congrArg Yo (show _=aa (Fl.rt (.im (fH (gW {x with rs:=rs}))),b8 b g zs (gW {x with rs:=rs}) v4 (aa (.im (.int sm))) v6 w7 v8 w9,C12,gW {x with rs:=rs}) from(tM s1).trans ?_)).trans rfl
  refine(tM (Je (x:=.lst (pp.map .str)) (r:=.ow (.list (pp.map .str))) (e1:=b8 b g zs (B3 u ps) v4 aj aj aj aj aj) (C1:=C4) ?_ (bG (Eh pp)) sh3)).trans ?_
  .have e4':=(aoY (op:=bU) (x:=.int 4) (y:=.int m2) (r:=.im (.int (4+m2))) (fa:=cI 4) (e1:=b8 b g zs (B3 u ps) v4 aj aj aj aj aj) (e2:=b8 b g zs (B3 u ps) v4 aj aj aj aj aj) (Jb rfl rfl) (Jb e4 rfl) rfl).trans (by rw[acX]);simp only[b8] at e4';simp_arith[b8,nJ,mL,↓e4',vo,ct]
  refine(tM (Je (x:=.dat (.str mn)) (r:=.im (.str mn)) (e1:=b8 b g zs (B4 u ps pp) v4 aj aj aj aj aj) (C1:=C5) (by simp_arith[b8,x4,so,ln,e5,im]) rfl sh4)).trans ?_
  refine(tM (Nz (r:=.im (.int sm)) (e1:=b8 b g zs (B5 u ps pp mn) v4 aj aj aj aj aj) (C1:=C6) (by simp_arith[b8,pw,e6]) aR (tB sh5 rfl))).trans ?_
  refine(tM (Je (x:=.lst (ss.map .int)) (r:=.ow (.list (ss.map .int))) (e1:=b8 b g zs (B5 u ps pp mn) v4 (aa (.im (.int sm))) aj aj aj aj) (C1:=C6) (by simp_arith[b8,nJ,qY,mL,vo,pw,ct2]) (bG (TY ss)) sh6)).trans ?_
  refine(tM (Je (x:=.lst []) (r:=.ow (.list [])) (e1:=b8 b g zs (B6 u ps pp mn ss) v4 (aa (.im (.int sm))) aj aj aj aj) (C1:=C6) rfl rfl sh7)).trans ?_
  refine(tM s8).trans ?_
  refine(tM (Je (x:=.lst (lv.map dz)) (r:=.ow (.list (lv.map dz))) (e1:=b8 b g zs (B7 u ps pp mn ss rk) v4 (aa (.im (.int sm))) v6 v7 v8 aj) (C1:=C10) e10 (bG nl) sh9)).trans ?_
  have af4:=(tM (g:=PN) Zj).trans rfl;rw[xb []] at af4;exact af4
 rw[fin];rfl
theorem akP(hN:Names zs)(hP:jR zs x.ps)(p8:x.ps.length<=8):∃ps':List (Str×Str),ps'.Perm x.ps/\∀(C:Ce)(v1 v2:oVl),gU (iB (aG (cM qH (cF (aG (aJ bf (aH 0) (cS "parts"))) cL)))) .one gF Sh [0] [aa (.im (cW x)),v1,v2] C=aa (.ow (.list (ps'.map rT)),[aa (.im (cW x)),v1,v2],C):=by
 have so:=zA x.ps az
 obtain⟨sp,hsp⟩:∃sp,sp=mG strLt (x.ps.map (·.1)):=⟨_,rfl⟩
 have lA:sp.Perm (x.ps.map (·.1)):=by rw[hsp];exact rE _
 have Aq:sp.length=x.ps.length:=by rw[lA.length_eq,bJ]
 rw[<-hsp] at so;have nd:=DX hN hP;have f1:(x.ps.map (·.1)).map (λz=>(z,(gQ x.ps z).getD z))=x.ps:=by
  rw[fD]
  refine(xu λp hp=>?_).trans (DW _)
  show(p.1,(gQ x.ps p.1).getD p.1)=p
  rw[(uw nd (z:=p.1) (w:=p.2)).mpr hp];rfl
 refine⟨sp.map λz=>(z,(gQ x.ps z).getD z),?_,λC v1 v2=>?_⟩
 .have:=lA.map λz=>(z,(gQ x.ps z).getD z)
  rw[f1] at this;exact this
 .have c:=pD (T:=.one) (ft:=gF) (fe:=Sh) (fs:=[aa (.im (cW x))]) (C:=C) iD (λ_=>aq) (λz=>rT (z,(gQ x.ps z).getD z)) (l:=sp) λz hz=>by
   obtain⟨p,hp,e⟩:=dD.mp (lA.mem_iff.mp hz)
   have lk:gQ x.ps z=aa p.2:=(uw nd).mpr (by rw[<-e];exact hp)
   refine⟨[.str z],rfl,rfl,λ_=>⟨.im (rT (z,(gQ x.ps z).getD z)),[aa (.im (.str z)),aa (.im (cW x))],?_,rfl⟩⟩
   have i:bf (.dict (bQ (cO x.ps))) (.str z)=aa (.im (.str p.2)):=by
    unfold bf qX;simp only[HN,lk,oF]
   rw[lk];simp_arith[eG,jn,iU,NB,i];rfl
  rw[GF.mpr λ_ _=>rfl] at c;have e2:sp.map (λz=>rT (z,(gQ x.ps z).getD z))=(sp.map λz=>(z,(gQ x.ps z).getD z)).map rT:=by rw[fD];rfl
  rw[e2] at c;have nl:dY ((sp.map λz=>(z,(gQ x.ps z).getD z)).map rT)=aq:=by
   clear c e2 so lA Aq hsp;induction sp with
   |nil=>rfl
   |cons r l ih=>show(aq&&dY _)=aq;rw[ih];rfl
  have g:(sp.length<=1000000)=True:=eqT;simp_arith[NB,so,c,g,nl]
theorem akQ(pP:x.rs.length<=10)(hn:(x.rs.map qZ).Nodup):∃rs':List jr,rs'.Perm x.rs/\∀(C:Ce)(v1 v2:oVl),gU (iB (aG (cM Il (cF (aG (aJ bf (aH 0) (cS "rules"))) cL)))) .one gF Lf [0] [aa (.im (cW x)),v1,v2] C=aa (.ow (.list (rs'.map yq)),[aa (.im (cW x)),v1,v2],C):=by
 obtain⟨rs',p,e⟩:=ang x.rs pP
 have e':Il [.dict (eU x.rs)]=aa (.ow (.list (rs'.map λr=>jK r.1 r.2.1))):=by
  unfold Il;rw[show Nx [.dict (eU x.rs)]=aj from rfl];exact e
 refine⟨rs',p,λC v1 v2=>?_⟩
 have g:(rs'.length<=1000000)=True:=eq_true (by rw[p.length_eq];lia);have key:lJ .one gF Lf [aa (.im (cW x))] (rs'.map λr=>jK r.1 r.2.1) C=aa (rs'.map yq,C):=by
  have:=pD (T:=.one) (ft:=gF) (fe:=Lf) (fs:=[aa (.im (cW x))]) (C:=C) (λr:jr=>jK r.1 r.2.1) (λ_=>aq) yq (l:=rs') λr hr=>⟨[jK r.1 r.2.1],rfl,rfl,λ_=>⟨.im (yq r),[aa (.im (jK r.1 r.2.1)),aa (.im (cW x))],by
   have i:=afn (p.mem_iff.mp hr) hn;unfold jK at i⊢;have a:bU (.tuple [.str r.1,.int r.2.1]) (.tuple [oO r.2.2])=aa (.im (yq r)):=zX (by show 2+1<=_;lia);simp_arith[eG,jn,iU,NK,i,a],rfl⟩⟩
  rw[GF.mpr λ_ _=>rfl] at this;exact this
 simp_arith[NK,e',key,g,ab4]
theorem amc(h:nF zs x):∃ht:uK,uA zs x.ps ht/\ht.ranks=x.rk/\ht.leaves=x.lv/\ht.rules.Perm x.rs/\∀C:Ce,BJ [.im (cW x)] C=aa (.im (jW ht),C):=by
 obtain⟨ps',q1,e1⟩:=akP h.names h.parts h.p8
 obtain⟨rs',q2,e2⟩:=akQ h.pP h.unlike
 have r20:=h.r20;have qu:=h.qu;have e3:uE [.list (x.rk.map jU)]=aa (.ow (.list (x.rk.map jU))):=ab9 (f:=λr:jk=>r.1) (ks:=λr:jk=>[.inr r.2.1,.inl r.2.2.1,.inr r.2.2.2.1,.inl r.2.2.2.2.1,.inl r.2.2.2.2.2]) (sh:=[aM,aq,aM,aq,aq]) x.rk az (λ_=>rfl) (λ_=>rfl) (λ_ _=>rfl) (λ_ _=>rfl) (λ_=>rfl) h.J4;have e4:uE [.list (x.lv.map dz)]=aa (.ow (.list (x.lv.map dz))):=ab9 (f:=λr:nY=>r.1) (ks:=λr:nY=>[.inr r.2.1,.inr r.2.2.1,.inr r.2.2.2.1,.inl r.2.2.2.2.1,.inl r.2.2.2.2.2.1,.inl r.2.2.2.2.2.2]) (sh:=[aM,aM,aM,aq,aq,aq]) x.lv az (λ_=>rfl) (λ_=>rfl) (λ_ _=>rfl) (λ_ _=>rfl) (λ_=>rfl) h.J9
 refine⟨⟨ps',x.rk,x.lv,rs'⟩,⟨q1,h.p8,h.r20,h.qu,by show rs'.length<=10;rw[q2.length_eq];exact h.pP,h.ranks,h.J4,h.leaves,h.J9.imp λz=>aiZ z,λr hr=>h.rules r (q2.mem_iff.mp hr),(q2.map qZ).nodup_iff.mpr h.unlike⟩,rfl,rfl,q2,λC=>?_⟩
 refine gP [aa (.im (cW x)),aj,aj] rfl rfl ?_ rfl rfl;have a1:=e1 C aj aj;have a2:=e2 C (aa (.im (.tuple (ps'.map rT)))) aj;simp_arith[Vi,↓a1,↓a2,xX,aem,ac7,e3,e4];rfl
theorem ade:∀(l q:List (Str×Str)),((q++l).map (·.1)).Nodup->(q++l).length<=8->zW (.many 2) gF Rv Rw [] (l.map rT) (bQ (cO q)) C=aa (bQ (cO (q++l)),C)
 |[],q,_,_=>by rw[mj];rfl
 |x::l,q,nd,h8=>by
  have ih:=ade (C:=C) l (q++[x]) (by rw[kE];exact nd) (by rw[kE];exact h8);have hx:x.1∉(cO q).map (·.1):=by
   unfold cO;rw[fD];show x.1∉q.map (·.1);rw[iC,jF] at nd;exact λhm=>nd.2.2 _ hm _ cX rfl
  have hl:(bQ (cO q)).length<gB:=by
   unfold bQ cO;rw[fO] at h8;rw[bJ,bJ];show _<1000000;lia
  rw[dN];unfold zW;rw[show Di (.many 2) (rT x)=aa [.str x.1,.str x.2] from rfl]
  show(if(bQ (cO q)).length<gB then zW (.many 2) gF Rv Rw [] (l.map rT) (pL fW (.inr x.1) (.str x.1) (.str x.2) (bQ (cO q))) C else aj)=_
  rw[bG hl,acV hx];have e:cO q++[(x.1,.str x.2)]=cO (q++[x]):=by unfold cO;rw[iC];rfl
  rw[e,ih,kE];rfl
theorem anW(hl:∀z,gQ q z=gQ ps z):∀{z:Str}{os:List Str},Over (gQ ps) z os->∀(n:Nat)(bu:List Str),os.length<n->bu.length+os.length<1000->
  ∃z',j9 aan aao n [hs,aa (.im (.str z)),aa (.ow (.dict (bQ (cO q)))),aa (.ow (.list (bu.map .str)))] C=aa (.nx,[hs,aa (.im (.str z')),aa (.ow (.dict (bQ (cO q)))),aa (.ow (.list ((bu++os).map .str)))],C):=by
 have hin:∀z,lW (.str z) (.dict (bQ (cO q)))=aa (.im (.bool (gQ ps z).isSome)):=λz=>by
  show((rQ (bQ (cO q)) (.str z)).map (·.isSome)).map (λb=>Vl.im (.bool b))=_
  rw[HN,hl];cases gQ ps z<;>rfl
 intro z os ho;induction ho with
 |@stop z h=>
  intro n bu hn ha;cases n with
  |zero=>exact absurd hn (xH _)
  |succ n=>
   refine⟨z,?_⟩
   unfold j9;simp_arith[hin,h,ahG,mj]
 |@step z y r h _ ih=>
  intro n bu hn ha;cases n with
  |zero=>exact absurd hn (xH _)
  |succ n=>
   rw[dW] at hn ha
   obtain⟨z',e⟩:=ih n (bu++[z]) az (by rw[fO];show bu.length+1+_<_;lia)
   refine⟨z',?_⟩
   have g:(bu.length<1000000)=True:=eqT;have i:bf (.dict (bQ (cO q))) (.str z)=aa (.im (.str y)):=by
    unfold bf qX;simp only[HN,hl,h,oF]
   simp only[iC,dN,uv,kE,jn,iU] at e⊢;unfold j9;simp_arith[hin,h,ZS,g,ou,wJ,i,e]
theorem aaO(hN:Names zs)(hP:jR zs ps)(hG:uA zs ps ht)(z:Str):
  DP [.im (jW ht),.im (.str z)] C=aa (.ow (.list ((up ps z).map .str)),C):=by
 have nd:=DX hN hP;have Zd:(ht.ps.map (·.1)).Nodup:=(hG.parts.map (·.1)).nodup_iff.mpr nd;have hL:ht.ps.length<=8:=by rw[hG.parts.length_eq];exact hG.p8
 have t:=ade (C:=C) ht.ps [] Zd hL;rw[show bQ (cO [])=[] from rfl,iU] at t;have hul:=Xe ps z;have h8:=hG.p8
 obtain⟨z',e⟩:=anW (C:=C) (hs:=aa (.im (jW ht))) (ajH hG.parts nd) (Wa hN hP z) zT [] (by show _<100000;lia) (by show 0+_<1000;lia)
 rw[uv,iU] at e;refine gP [aa (.im (jW ht)),aa (.im (.str z)),aj,aj] rfl rfl ?_ rfl rfl;simp_arith[RL,J3,t,U9,ud,e]
theorem Oh:zm [.im (.tuple [.str z,.int n,.str a1,.str b1]),.im (.str p)] C=aa (.im (.bool (decide (p=a1\/p=b1))),C):=by
 have ct:rZ [iD z,.int n,.str a1,.str b1] (aa 2) (aa 4)=[.str a1,.str b1]:=rfl;have i1:lW (.str p) (.tuple [.str a1,.str b1])=aa (.im (.bool (decide (p=a1\/p=b1)))):=by
  have:inB (.str p) (.tuple [.str a1,.str b1])=aa (inD (.str p) ([a1,b1].map .str)):=bG (c:=(lU (.str p)&&[iD a1,.str b1].all lU)=aq) (e:=aj) rfl;unfold lW;rw[this,MJ];simp
 refine gP [aa (.im (.tuple [.str z,.int n,.str a1,.str b1])),aa (.im (.str p))] rfl rfl ?_ rfl rfl;simp_arith[T8,nJ,mL,vo,ct,i1]
def wU(os:List Str)(n bK:Int)(a1 b1:Str)(r:nY):Bool:=decide (r.2.2.2.1∈os)&&((decide (r.2.2.2.2.1<=bK)&&decide (bK<=r.2.2.2.2.2.1))&&(decide (n<=r.2.2.2.2.2.2)&&(!decide (r.2.1=a1\/r.2.1=b1)&&!decide (r.2.2.1=a1\/r.2.2.1=b1))))
def Gh(r:nY):aD:=.tuple [.int r.1,.str r.2.1,.str r.2.2.1]
abbrev fX(z a1 b1:Str)(n:Int):aD:=.tuple [.str z,.int n,.str a1,.str b1]
theorem anY(hN:Names zs)(hP:jR zs ps)(hG:uA zs ps ht)(z a1 b1:Str)(n bK:Int):
  Hs [.im (jW ht),.im (fX z a1 b1 n),.im (.int bK)] C=aa (.ow (.list ((ht.leaves.filter (wU (up ps z) n bK a1 b1)).map Gh)),C):=by
 have p:=aaO (C:=C) hN hP hG z;have h16:=hG.qu
 obtain⟨l,lE⟩:∃l,l=ht.leaves.filter (wU (up ps z) n bK a1 b1):=⟨_,rfl⟩
 have ll:l.length<=16:=by rw[lE];exact mq (ug _ _) h16
 have t:lJ (.many 7) RM RN [aa (.im (.list ((up ps z).map .str))),aa (.im (.int bK)),aa (.im (fX z a1 b1 n))] (ht.leaves.map dz) C=aa (l.map Gh,C):=by
  rw[lE];refine pD (T:=.many 7) (ft:=RM) (fe:=RN) (fs:=[aa (.im (.list ((up ps z).map .str))),aa (.im (.int bK)),aa (.im (fX z a1 b1 n))]) (C:=C) dz (wU (up ps z) n bK a1 b1) Gh (l:=ht.leaves) λr _=>?_
  refine⟨[.int r.1,.str r.2.1,.str r.2.2.1,.str r.2.2.2.1,.int r.2.2.2.2.1,.int r.2.2.2.2.2.1,.int r.2.2.2.2.2.2],rfl,?_,λ_=>⟨.im (Gh r),[aa (.im (.int r.1)),aa (.im (.str r.2.1)),aa (.im (.str r.2.2.1)),aa (.im (.str r.2.2.2.1)),aa (.im (.int r.2.2.2.2.1)),aa (.im (.int r.2.2.2.2.2.1)),aa (.im (.int r.2.2.2.2.2.2)),aa (.im (.list ((up ps z).map .str))),aa (.im (.int bK)),aa (.im (fX z a1 b1 n))],by simp_arith[eG,jn,iU];rfl,rfl⟩⟩
  have c:=PK lV lV (aH 4) (aH 8) (aH 5) (ao:=[aa (.im (.int r.1)),aa (.im (.str r.2.1)),aa (.im (.str r.2.2.1)),aa (.im (.str r.2.2.2.1)),aa (.im (.int r.2.2.2.2.1)),aa (.im (.int r.2.2.2.2.2.1)),aa (.im (.int r.2.2.2.2.2.2)),aa (.im (.list ((up ps z).map .str))),aa (.im (.int bK)),aa (.im (fX z a1 b1 n))]) (C:=C) (a:=decide (r.2.2.2.2.1<=bK)) (b:=decide (bK<=r.2.2.2.2.2.1)) rfl rfl rfl rfl rfl;have s1:=Oh (C:=C) (z:=z) (a1:=a1) (b1:=b1) (n:=n) (p:=r.2.1);have s2:=Oh (C:=C) (z:=z) (a1:=a1) (b1:=b1) (n:=n) (p:=r.2.2.1);simp_arith[eG,jn,iU,c,s1,s2];unfold wU;cases decide (r.2.2.2.1∈up ps z)<;>cases decide (r.2.2.2.2.1<=bK)<;>cases decide (bK<=r.2.2.2.2.2.1)<;>cases decide (n<=r.2.2.2.2.2.2)<;>cases decide (r.2.1=a1\/r.2.1=b1)<;>rfl
 have q:(l.length<=1000000)=True:=eqT;have nl:dY (l.map Gh)=aq:=by
  clear t lE ll q;induction l with
  |nil=>rfl
  |cons r l ih=>show(aq&&dY (l.map Gh))=aq;rw[ih];rfl
 refine gP [aa (.im (jW ht)),aa (.im (fX z a1 b1 n)),aa (.im (.int bK)),aj] rfl rfl ?_ rfl rfl;simp_arith[T9,p,t,q,nl];rw[lE]
def stL(st:List (Str×Int)):List (Str×aD):=st.map λx=>(x.1,.int x.2)
abbrev wD(w:Int×Str×Str):aD:=.tuple [.int w.1,.str w.2.1,.str w.2.2]
theorem WL(st:List (Str×Int))(z:Str):rQ (bQ (stL st)) (.str z)=aa ((gY st z).map .int):=by
 rw[TV];unfold stL gY;rw[aiu,Rz,Rz];rfl
theorem P0(st:List (Str×Int))(z:Str):((gY st z).map lD).isSome=decide (z∈st.map (·.1)):=by
 by_cases h:z∈st.map (·.1)
 .cases e:gY st z with
  |none=>exact absurd h (sZ.mp e)
  |some d=>rw[gr h];rfl
 .rw[sZ.mpr h,iR h];rfl
theorem afs(st:List (Str×Int))(z:Str):lW (.str z) (.dict (bQ (stL st)))=aa (.im (.bool (decide (z∈st.map (·.1))))):=by
 show((rQ (bQ (stL st)) (.str z)).map (·.isSome)).map (λb=>Vl.im (.bool b))=_
 rw[WL,oF,P0];rfl
theorem Vu(st:List (Str×Int))(z:Str):tG (.str z) (.dict (bQ (stL st)))=aa (.im (.bool (!decide (z∈st.map (·.1))))):=by
 show((rQ (bQ (stL st)) (.str z)).map (·.isSome)).map (λb=>Vl.im (.bool (!b)))=_
 rw[WL,oF,P0];rfl
theorem aft(h:gY st z=aa d):bf (.dict (bQ (stL st))) (.str z)=aa (.im (.int d)):=by
 unfold bf qX;simp only[WL,h,oF]
theorem aer:∀(new:List Str)(st:List (Str×Int))(v5:oVl),(st.map (·.1)++new).Nodup->st.length+new.length<=1000->
  ∃Kc,jY (eZ 5) aaJ (new.map .str) [v0,v1,aa (.ow (.dict (bQ (stL st)))),nw,aa (.im (.int k)),v5] C=aa (.nx,[v0,v1,aa (.ow (.dict (bQ (stL (st++new.map λg=>(g,k)))))),nw,aa (.im (.int k)),Kc],C)
 |[],st,v5,_,_=>⟨v5,by rw[uv,uv,mj];rfl⟩
 |g::new,st,v5,nd,hl=>by
  rw[dW] at hl
  obtain⟨Kc,e⟩:=aer (C:=C) (v0:=v0) (v1:=v1) (nw:=nw) (k:=k) new (st++[(g,k)]) (aa (.im (.str g))) (by rw[iC,kE];exact nd) (by rw[fO];show st.length+1+_<=_;lia)
  refine⟨Kc,?_⟩
  have hn:g∉(stL st).map (·.1):=by
   unfold stL;rw[fD];exact λhm=>(jF.mp nd).2.2 _ hm _ cX rfl
  have pu:putD (bQ (stL st)) (.str g) (.int k)=aa (bQ (stL (st++[(g,k)]))):=by
   rw[acW hn];unfold stL;rw[iC];rfl
  have q:((bQ (stL st)).length<1000000)=True:=eq_true (by unfold bQ stL;rw[bJ,bJ];lia);rw[kE] at e;rw[dN];unfold jY;simp_arith[CV,CG,pu,q];exact e
theorem abE(hl:ws.length<=60):∀(n:Nat)(st:List (Str×Int))(new:List Str)(k:Nat)(nv:Vl)(v5:oVl),(nv=.ow (.list (new.map .str))\/nv=.im (.list (new.map .str)))->vp ws s st new k->(new=[]->0<n)->(new≠[]->ws.length+2-st.length<n)->
  ∃(st':List (Str×Int))(e':En),j9 aaM aaN n [aa (.im (.list (ws.map wD))),aa (.im (.str s)),aa (.ow (.dict (bQ (stL st)))),aa nv,aa (.im (.int k)),v5] C=aa (.nx,e',C)/\e'[2]?=aa (aa (.ow (.dict (bQ (stL st')))))/\Dj ws s st'
 |0,st,new,k,nv,v5,hv,B,h0,h1=>by
  by_cases h:new=[]
  .exact absurd (h0 h) (xK _)
  .exact absurd (h1 h) (xH _)
 |n+1,st,new,k,nv,v5,hv,B,h0,h1=>by
  by_cases hnew:new=[]
  .subst hnew
   refine⟨st,[aa (.im (.list (ws.map wD))),aa (.im (.str s)),aa (.ow (.dict (bQ (stL st)))),aa nv,aa (.im (.int k)),v5],?_,rfl,B.done⟩
   unfold j9;rcases hv with rfl|rfl<;>simp_arith[]<;>rfl
  have h1:=h1 hnew;have ht:(new.map iD).isEmpty=aM:=by cases new with|nil=>exact absurd rfl hnew|cons _ _=>rfl
  have c:=pD (T:=.many 3) (ft:=aaK) (fe:=aaL) (fs:=[aa (.im (.list (new.map .str))),aa (.im (.dict (bQ (stL st))))]) (C:=C) wD (λw=>decide (w.2.2∈new)&&!decide (w.2.1∈st.map (·.1))) (λw=>.str w.2.1) (l:=ws) λw _=>by
   refine⟨[.int w.1,.str w.2.1,.str w.2.2],rfl,?_,λ_=>⟨.im (.str w.2.1),_,by simp_arith[eG,jn,iU];rfl,rfl⟩⟩
   simp_arith[eG,jn,iU,Vu];cases decide (w.2.2∈new)<;>rfl
  obtain⟨gs,Zk⟩:∃gs,gs=(ws.filter λw=>decide (w.2.2∈new)&&!decide (w.2.1∈st.map (·.1))).map (·.2.1):=⟨_,rfl⟩
  have c2:(ws.filter λw=>decide (w.2.2∈new)&&!decide (w.2.1∈st.map (·.1))).map (λw=>iD w.2.1)=gs.map .str:=by rw[Zk,fD];rfl
  rw[c2] at c;have gl:gs.length<=60:=by rw[Zk,bJ];exact mq (ug _ _) hl
  have sS:MF (gs.map .str)=aa ((mG strLt (dedup gs)).map .str):=by
   unfold MF;rw[bG (by rw[bJ];lia),SN]
  obtain⟨ns,nsE⟩:∃ns,ns=mG strLt (dedup gs):=⟨_,rfl⟩
  rw[<-nsE] at sS;have hm:∀g,g∈ns↔∃w∈ws,w.2.2∈new/\w.2.1∉st.map (·.1)/\w.2.1=g:=λg=>by
   rw[nsE,(rE _).mem_iff,akd,Zk,dD];constructor
   .rintro⟨w,h1,h2⟩
    obtain⟨h1,h3⟩:=lB.mp h1
    rw[jP,decide_eq_true_eq,Kw,decide_eq_false_iff_not] at h3
    exact⟨w,h1,h3.1,h3.2,h2⟩
   .rintro⟨w,h1,h2,h3,h4⟩
    exact⟨w,lB.mpr ⟨h1,by rw[gr h2,iR h3];rfl⟩,h4⟩
  have hn:ns.Nodup:=by rw[nsE];exact(rE _).nodup_iff.mpr (ai8 _)
  have B2:=B.step hn hm;have f1:=B.few;have f2:=B2.few;have nd:=B2.nd;rw[iC,fD,show((λx:Str×Int=>x.1) ∘ λg=>(g,(k:Int)+1))=id from rfl,DW] at nd;rw[fO,bJ] at f2
  obtain⟨Kc,e1⟩:=aer (C:=C) (v0:=aa (.im (.list (ws.map wD)))) (v1:=aa (.im (.str s))) (nw:=aa (.im (.list (ns.map .str)))) (k:=(k:Int)+1) ns st v5 nd az
  obtain⟨st',e',e2,e3,e4⟩:=abE (C:=C) hl n (st++ns.map λg=>(g,(k:Int)+1)) ns (k+1) (.im (.list (ns.map .str))) Kc (.inr rfl) B2 (λz=>az) (λz=>by
   rw[fO,bJ];have:=Kl.mpr z;lia)
  refine⟨st',e',?_,e3,e4⟩
  unfold j9;rcases hv with rfl|rfl<;>simp_arith[ht,Ql,J5,↓c,sS,jJ,e1]<;>exact e2
theorem amd(hl:ws.length<=60):∃st:List (Str×Int),Lw [.im (.list (ws.map wD)),.im (.str s)] C=aa (.ow (.dict (bQ (stL st))),C)/\Dj ws s st:=by
 obtain⟨st,e',e1,e2,e3⟩:=abE (C:=C) hl zT [(s,0)] [s] 0 (.ow (.list [.str s])) aj (.inl rfl) (vp.init ws s) (λz=>nomatch z) (λ_=>by show _+2-1<100000;lia)
 rw[show(((0:Nat):Nat):Int)=0 from rfl] at e1
 refine⟨st,gP [aa (.im (.list (ws.map wD))),aa (.im (.str s)),aj,aj,aj,aj] rfl rfl ?_ rfl rfl,e3⟩
 simp_arith[S8,PL,ud,fW];rw[show[(iD s,lD 0)]=bQ (stL [(s,0)]) from rfl];simp only[e1];simp_arith[e2]
def yr(st:List (Str×Int))(d:Int)(p:Str)(w:Int×Str×Str):Bool:=decide (w.2.1=p)&&(decide (w.2.2∈st.map (·.1))&&(gY st w.2.2).any λe=>decide (e<d))
theorem Ud:yr st d p w=aq↔w.2.1=p/\∃e,gY st w.2.2=aa e/\e<d:=by
 unfold yr;rw[jP,jP,decide_eq_true_eq,decide_eq_true_eq];refine and_congr_right λ_=>⟨λh=>?_,λ⟨e,h1,h2⟩=>⟨?_,by rw[h1];exact gr h2⟩⟩
 .cases e:gY st w.2.2 with
  |none=>exact absurd h.1 (sZ.mp e)
  |some x=>
   have:=h.2;rw[e] at this
   exact⟨x,rfl,of_decide_eq_true this⟩
 .apply Q8;intro n;rw[sZ.mpr n] at h1;cases h1
theorem aes(bt:Nat->Nat->Bool)(val:Nat->Int)(h1:∀i j,bt i j=aq->val i<=val j)(h2:∀i j,bt i j=aM->val j<=val i):∀k,ji bt k<=k/\∀i,i<=k->val (ji bt k)<=val i
 |0=>⟨cz _,λi hi=>by rw[Nat.le_zero.mp hi];exact xQ _⟩
 |k+1=>by
  obtain⟨a,b⟩:=aes bt val h1 h2 k
  unfold ji;cases e:bt (k+1) (ji bt k) with
  |true=>
   rw[bG rfl]
   refine⟨cz _,λi hi=>?_⟩
   rcases ahH hi with hi|rfl
   .exact Int.le_trans (h1 _ _ e) (b i (ahV hi))
   .exact xQ _
  |false=>
   rw[bH jm]
   refine⟨Nat.le_succ_of_le a,λi hi=>?_⟩
   rcases ahH hi with hi|rfl
   .exact b i (ahV hi)
   .exact h2 _ _ e
theorem akR(cs:List (Int×Str))(h:cs≠[]):∃c∈cs,O2 [.list (cs.map λc=>.tuple [.int c.1,.str c.2])]=aa (.im (.tuple [.int c.1,.str c.2]))/\∀c'∈cs,c.1<=c'.1:=by
 obtain⟨c0,hc0⟩:∃c0,cs.head?=aa c0:=by
  cases cs with
  |nil=>exact absurd rfl h
  |cons c _=>exact⟨c,rfl⟩
 have ek:(cs.map λc=>Bo [.int c.1,.str c.2]).map rR=cs.map λc=>[mC c.1,fG c.2]:=by
  rw[fD];rfl
 have hd:(cs.map λc=>([mC c.1,fG c.2]:List Key)).headD []=[mC c0.1,fG c0.2]:=by
  cases cs with
  |nil=>cases hc0
  |cons c _=>cases hc0;rfl
 have gt:∀i,(cs.map λc=>([mC c.1,fG c.2]:List Key)).getD i [mC c0.1,fG c0.2]=[mC (cs.getD i c0).1,fG (cs.getD i c0).2]:=λi=>by
  rw[Ar,Ar,jw];cases cs[i]?<;>rfl
 obtain⟨b1,b2⟩:=aes (λi j=>dO ((cs.map λc=>([mC c.1,fG c.2]:List Key)).getD i [mC c0.1,fG c0.2]) ((cs.map λc=>([mC c.1,fG c.2]:List Key)).getD j [mC c0.1,fG c0.2])) (λi=>(cs.getD i c0).1) (λi j e=>by
   simp only[gt,dO] at e;split at e
   .rename_i z;have:=RW z;lia
   .exact Int.le_of_lt (of_decide_eq_true e)) (λi j e=>by
   simp only[gt,dO] at e;split at e
   .rename_i z;have:=RW z;lia
   .have:=of_decide_eq_false e;lia) (cs.length-1)
 have pos:0<cs.length:=Kl.mpr h
 obtain⟨k,hk⟩:∃k,k=Jp (cs.map λc=>([mC c.1,fG c.2]:List Key)):=⟨_,rfl⟩
 have hk':=hk;unfold Jp at hk';rw[hd,bJ] at hk';rw[<-hk'] at b1 b2;have lt:k<cs.length:=az
 refine⟨cs[k],xF lt,?_,λc' hc'=>?_⟩
 .show Xg (cs.map λc=>.tuple [.int c.1,.str c.2])=_;unfold Xg;rw[List.head?_map,hc0,ek,<-hk,jw,jb lt];refine bG λd hd=>?_
  obtain⟨c,_,rfl⟩:=dD.mp hd
  rfl
 .obtain⟨i,hi,rfl⟩:=vB hc'
  have:=b2 i az;rw[Ar,Ar,jb lt,jb hi] at this;exact this
theorem akS{C:Ce}{ws:List (Int×Str×Str)}{d:Int}(hl:ws.length<=60)(hp:gY st p=aa d)(hne:∃w∈ws,yr st d p w=aq):
  ∃(n:Int)(t:Str),K6 [.im (.list (ws.map wD)),.im (.dict (bQ (stL st))),.im (.str p)] C=aa (.im (.tuple [.int n,.str t]),C)/\(n,p,t)∈ws/\(∃e,gY st t=aa e/\e<d)/\∀n' q' e,(n',p,q')∈ws->gY st q'=aa e->e<d->n<=n':=by
 have c:=pD (T:=.many 3) (ft:=aap) (fe:=aaq) (fs:=[aa (.im (.str p)),aa (.im (.dict (bQ (stL st))))]) (C:=C) wD (yr st d p) (λw=>.tuple [.int w.1,.str w.2.2]) (l:=ws) λw _=>by
  refine⟨[.int w.1,.str w.2.1,.str w.2.2],rfl,?_,λ_=>⟨.im (.tuple [.int w.1,.str w.2.2]),_,by simp_arith[eG,jn,iU];rfl,rfl⟩⟩
  have ip:=aft hp;unfold yr;cases h1:decide (w.2.1=p) with
  |false=>simp_arith[eG,jn,iU,h1]
  |true=>
   cases e:gY st w.2.2 with
   |none=>
    have h2:=iR (sZ.mp e);simp_arith[eG,jn,iU,h1,afs,h2]
   |some x=>
    have h2:decide (w.2.2∈st.map (·.1))=aq:=by rw[<-P0,e];rfl
    have iw:=aft e;simp_arith[eG,jn,iU,h1,afs,h2,ip,iw,Option.any_some]
 obtain⟨cs,Kd⟩:∃cs:List (Int×Str),cs=(ws.filter (yr st d p)).map λw=>(w.1,w.2.2):=⟨_,rfl⟩
 have c2:(ws.filter (yr st d p)).map (λw=>Bo [.int w.1,.str w.2.2])=cs.map λc=>.tuple [.int c.1,.str c.2]:=by rw[Kd,fD];rfl
 rw[c2] at c;have cl:(cs.length<=1000000)=True:=eq_true (by rw[Kd,bJ];have:=ug (yr st d p) ws;lia);have mem:∀n t,(n,t)∈cs↔(n,p,t)∈ws/\∃e,gY st t=aa e/\e<d:=λn t=>by
  rw[Kd,dD];constructor
  .rintro⟨w,hw,e⟩
   cases e
   obtain⟨h1,h2⟩:=lB.mp hw
   obtain⟨h3,h4⟩:=Ud.mp h2
   rw[<-h3]
   exact⟨h1,h4⟩
  .rintro⟨h1,h2⟩
   exact⟨(n,p,t),lB.mpr ⟨h1,Ud.mpr ⟨rfl,h2⟩⟩,rfl⟩
 have ne:cs≠[]:=λz=>by
  obtain⟨w,hw,h⟩:=hne
  have:(w.1,w.2.2)∈cs:=by rw[Kd];exact dD.mpr ⟨w,lB.mpr ⟨hw,h⟩,rfl⟩
  rw[z] at this;cases this
 have nl:dY (cs.map λc=>Bo [.int c.1,.str c.2])=aq:=by
  clear c c2 Kd cl mem ne;induction cs with
  |nil=>rfl
  |cons r l ih=>show(aq&&dY (l.map _))=aq;rw[ih];rfl
 obtain⟨⟨n,t⟩,m,e,hmin⟩:=akR cs ne
 obtain⟨m1,m2⟩:=(mem n t).mp m
 refine⟨n,t,gP [aa (.im (.list (ws.map wD))),aa (.im (.dict (bQ (stL st)))),aa (.im (.str p))] rfl rfl ?_ rfl rfl,m1,m2,λn' q' e' h1 h2 h3=>hmin (n',q') ((mem n' q').mpr ⟨h1,e',h2,h3⟩)⟩
 simp_arith[RP,c,cl,nl,e]
theorem ame(hl:ws.length<=60)(hU:∀w∈ws,∀w'∈ws,w.1=w'.1->w=w')(B:Dj ws s st):∀(m:Nat)(p:Str)(d:Int),gY st p=aa d->d<=m->∀(n:Nat)(bu:List Int)(v5:oVl),m<n->bu.length+m<=100000->
  ∃(r:List Int)(e':En),j9 aaz aaA n [aa (.im (.list (ws.map wD))),aa (.im (.str p)),aa (.im (.str s)),aa (.ow (.dict (bQ (stL st)))),aa (.ow (.list (bu.map .int))),v5] C=aa (.nx,e',C)/\e'[4]?=aa (aa (.ow (.list ((bu++r).map .int))))/\wM ws p s r:=by
 intro m;induction m with
 |zero=>
  intro p d hp hd n bu v5 hn ha;have:p=s:=by
   obtain⟨r,h1,h2⟩:=B.sound p d hp
   cases h1 with
   |nil=>rfl
   |cons _ _=>rw[dW] at h2;lia
  subst this;cases n with
  |zero=>exact absurd hn (xK _)
  |succ n=>
   refine⟨[],[aa (.im (.list (ws.map wD))),aa (.im (.str p)),aa (.im (.str p)),aa (.ow (.dict (bQ (stL st)))),aa (.ow (.list (bu.map .int))),v5],?_,by rw[mj];rfl,wM.self ws p⟩
   unfold j9;simp_arith[xY]
 |succ m ih=>
  intro p d hp hd n bu v5 hn ha;cases n with
  |zero=>exact absurd hn (xH _)
  |succ n=>
   by_cases hs:p=s
   .subst hs
    refine⟨[],[aa (.im (.list (ws.map wD))),aa (.im (.str p)),aa (.im (.str p)),aa (.ow (.dict (bQ (stL st)))),aa (.ow (.list (bu.map .int))),v5],?_,by rw[mj];rfl,wM.self ws p⟩
    unfold j9;simp_arith[xY]
   .have hne:∃w∈ws,yr st d p w=aq:=by
     obtain⟨r,h1,h2⟩:=B.sound p d hp
     cases h1 with
     |nil=>exact absurd rfl hs
     |cons hw hr=>
      rename_i n q r
      obtain⟨e,h3,h4⟩:=B.whole q r hr
      rw[dW] at h2
      exact⟨_,hw,Ud.mpr ⟨rfl,e,h3,az⟩⟩
    obtain⟨n1,t,e1,m1,⟨e,m2,m3⟩,hmin⟩:=akS (C:=C) hl hp hne
    obtain⟨r,e',e2,e3,e4⟩:=ih t e m2 az n (bu++[n1]) (aa (.im (.int n1))) az (by rw[fO];show bu.length+1+_<=_;lia)
    have R:=wM.go hU B hp m1 ⟨e,m2,m3⟩ hmin e4;rw[kE] at e3
    refine⟨n1::r,e',?_,e3,R⟩
    have g:(bu.length<1000000)=True:=eqT;have q:(p=s)=False:=eq_false hs;rw[iC] at e2;unfold j9;have rp:∀e e',rst (.im (.tuple [.int n1,.str t])) e e'=e:=λ_ _=>rfl
    simp_arith[xY,q,e1,ou,wJ,g,rp];exact e2
def Af:Option (List Int)->Vl
 |none=>.im .none
 |some r=>.ow (.list (r.map .int))
def afu(ws:List (Int×Str×Str))(h s:Str):Option (List Int)->Prop
 |none=>∀r,¬pA ws h r s
 |some r=>wM ws h s r
theorem amf(hl:ws.length<=60)(hU:∀w∈ws,∀w'∈ws,w.1=w'.1->w=w'):∃o,Ld [.im (.list (ws.map wD)),.im (.str h),.im (.str s)] C=aa (Af o,C)/\afu ws h s o:=by
 obtain⟨st,e1,B⟩:=amd (C:=C) (s:=s) hl
 cases e:gY st h with
 |none=>
  have hn:=sZ.mp e
  refine⟨aj,gP [aa (.im (.list (ws.map wD))),aa (.im (.str h)),aa (.im (.str s)),aj,aj,aj] rfl rfl ?_ rfl rfl,λr p=>hn ((B.iff h).mpr ⟨r,p⟩)⟩
  have q:=iR hn;simp_arith[Lb,e1,Vu,q];rfl
 |some d=>
  obtain⟨r0,h1,h2⟩:=B.sound h d e
  have q:decide (h∈st.map (·.1))=aq:=by rw[<-P0,e];rfl
  obtain⟨r,e',e2,e3,e4⟩:=ame (C:=C) hl hU B d.toNat h d e az zT [] aj (by have:=B.few h d e;show _<100000;lia) (by have:=B.few h d e;show 0+_<=_;lia)
  refine⟨aa r,gP [aa (.im (.list (ws.map wD))),aa (.im (.str h)),aa (.im (.str s)),aj,aj,aj] rfl rfl ?_ rfl rfl,e4⟩
  rw[uv] at e2;rw[iU] at e3;simp_arith[Lb,e1,Vu,q,ud,e2,e3];rfl
def Gi(r:nY):Int×Str×Str:=(r.1,r.2.1,r.2.2.1)
theorem aet:∀{l:List nY},(l.map (·.1)).Nodup->∀r∈l,∀r'∈l,r.1=r'.1->r=r'
 |[],_,_,h,_,_,_=>nomatch h
 |a::l,hp,r,h,r',h',e=>by
  rw[dN,ie] at hp;rcases bW.mp h with h1|h1<;>rcases bW.mp h' with h2|h2
  .rw[h1,h2]
  .exact absurd (dD.mpr ⟨r',h2,by rw[<-h1,e]⟩) hp.1
  .exact absurd (dD.mpr ⟨r,h1,by rw[<-h2,e]⟩) hp.1
  .exact aet hp.2 r h1 r' h2 e
def yt(ht:uK)(os:List Str)(n bK:Int)(a1 b1:Str):List (Int×Str×Str):=(ht.leaves.filter (wU os n bK a1 b1)).map Gi
theorem amg(hG:uA zs ps ht)(os:List Str)(n bK:Int)(a1 b1:Str):(yt ht os n bK a1 b1).length<=60:=by
 unfold yt;rw[bJ];have:=ug (wU os n bK a1 b1) ht.leaves;have:=hG.qu;lia
theorem aje(hG:uA zs ps ht)(os:List Str)(n bK:Int)(a1 b1:Str):∀w∈yt ht os n bK a1 b1,∀w'∈yt ht os n bK a1 b1,w.1=w'.1->w=w':=λw h w' h' e=>by
 obtain⟨r,m,rfl⟩:=dD.mp h
 obtain⟨r',m',rfl⟩:=dD.mp h'
 rw[aet hG.lnd r (lB.mp m).1 r' (lB.mp m').1 e]
theorem apn(hN:Names zs)(hP:jR zs ps)(hG:uA zs ps ht)(z a1 b1:Str)(n bK:Int):
  Hs [.im (jW ht),.im (fX z a1 b1 n),.im (.int bK)] C=aa (.ow (.list ((yt ht (up ps z) n bK a1 b1).map wD)),C):=by
 rw[anY hN hP hG];unfold yt;rw[fD];rfl
theorem amh(hN:Names zs)(hP:jR zs ps)(hG:uA zs ps ht)(z a1 b1:Str)(n bK:Int)(h s:Str):
  ∃o,M3 [.im (jW ht),.im (fX z a1 b1 n),.im (.str h),.im (.str s),.im (.int bK)] C=aa (Af o,C)/\(((h=a1\/h=b1)\/(s=a1\/s=b1))->o=aj)/\(¬((h=a1\/h=b1)\/(s=a1\/s=b1))->afu (yt ht (up ps z) n bK a1 b1) h s o):=by
 have s1:=Oh (C:=C) (z:=z) (a1:=a1) (b1:=b1) (n:=n) (p:=h);have s2:=Oh (C:=C) (z:=z) (a1:=a1) (b1:=b1) (n:=n) (p:=s);have w:=apn (C:=C) hN hP hG z a1 b1 n bK
 obtain⟨o,e,ho⟩:=amf (C:=C) (h:=h) (s:=s) (amg hG (up ps z) n bK a1 b1) (aje hG (up ps z) n bK a1 b1)
 have ok:Fx C.length (Af o)=aq:=by cases o<;>rfl
 by_cases h1:h=a1\/h=b1
 .refine⟨aj,gP [aa (.im (jW ht)),aa (.im (fX z a1 b1 n)),aa (.im (.str h)),aa (.im (.str s)),aa (.im (.int bK))] rfl rfl ?_ rfl rfl,λ_=>rfl,λz=>absurd (.inl h1) z⟩
  rw[gr h1] at s1;simp_arith[HX,s1];rfl
 .rw[iR h1] at s1;by_cases h2:s=a1\/s=b1
  .refine⟨aj,gP [aa (.im (jW ht)),aa (.im (fX z a1 b1 n)),aa (.im (.str h)),aa (.im (.str s)),aa (.im (.int bK))] rfl rfl ?_ rfl rfl,λ_=>rfl,λz=>absurd (.inr h2) z⟩
   rw[gr h2] at s2;simp_arith[HX,s1,s2];rfl
  .rw[iR h2] at s2
   refine⟨o,gP [aa (.im (jW ht)),aa (.im (fX z a1 b1 n)),aa (.im (.str h)),aa (.im (.str s)),aa (.im (.int bK))] rfl rfl ?_ ok rfl,λz=>absurd z λz=>z.elim h1 h2,λ_=>ho⟩
   have tp:CT (Af o)=aM:=by cases o<;>rfl
   simp_arith[HX,s1,s2,w,e,tp]
theorem ajS(hN:Names zs)(hP:jR zs ps)(hG:uA zs ps ht)(who z:Str)(bK:Int):
  Mr [.im (jW ht),.im (.str who),.im (.str z),.im (.int bK)] C=aa (.im (.int (Ik ht.ranks who (up ps z) bK)),C):=by
 have p:=aaO (C:=C) hN hP hG z
 obtain⟨hl,hE⟩:∃l,l=ht.ranks.filter (CK who (up ps z) bK):=⟨_,rfl⟩
 have t1:lJ (.many 6) RQ RT [aa (.im (.str who)),aa (.im (.list ((up ps z).map .str))),aa (.im (.int bK))] (ht.ranks.map jU) C=aa ((hl.map (·.2.2.1)).map .int,C):=by
  have:=pD (T:=.many 6) (ft:=RQ) (fe:=RT) (fs:=[aa (.im (.str who)),aa (.im (.list ((up ps z).map .str))),aa (.im (.int bK))]) (C:=C) jU (CK who (up ps z) bK) (λr=>.int r.2.2.1) (l:=ht.ranks) λr _=>by
   refine⟨[.int r.1,.str r.2.1,.int r.2.2.1,.str r.2.2.2.1,.int r.2.2.2.2.1,.int r.2.2.2.2.2],rfl,?_,λ_=>⟨.im (.int r.2.2.1),_,rfl,rfl⟩⟩
   have c:=PK lV lV (aH 4) (aH 8) (aH 5) (ao:=[aa (.im (.int r.1)),aa (.im (.str r.2.1)),aa (.im (.int r.2.2.1)),aa (.im (.str r.2.2.2.1)),aa (.im (.int r.2.2.2.2.1)),aa (.im (.int r.2.2.2.2.2)),aa (.im (.str who)),aa (.im (.list ((up ps z).map .str))),aa (.im (.int bK))]) (C:=C) (a:=decide (r.2.2.2.2.1<=bK)) (b:=decide (bK<=r.2.2.2.2.2)) rfl rfl rfl rfl rfl;simp_arith[eG,jn,iU,c];unfold CK;cases decide (r.2.1=who)<;>cases decide (r.2.2.2.1∈up ps z)<;>rfl
  rw[<-hE] at this;rw[fD];exact this
 have hlen:hl.length<=20:=by rw[hE];exact mq (ug _ _) hG.r20
 have hpos:∀x∈hl.map (·.2.2.1),0<=x:=λx hx=>by
  obtain⟨r,hr,rfl⟩:=dD.mp hx
  rw[hE] at hr;have:=(hG.ranks r (lB.mp hr).1).rank;lia
 have g:(hl.length<=1000000)=True:=eqT;refine gP [aa (.im (jW ht)),aa (.im (.str who)),aa (.im (.str z)),aa (.im (.int bK)),aj,aj] rfl rfl ?_ rfl rfl;simp_arith[Ua,p,t1,g,PJ,SQ,ab3 hpos];rw[hE];rfl
abbrev oU:=Str×Str×Int
def dg(h:oU):aD:=.tuple [.str h.1,.str h.2.1,.int h.2.2]
def tY(x:j0)(z a1 b1:Str)(n bK:Int):List (Int×Str×Str):=(x.lv.filter (wU (up x.ps z) n bK a1 b1)).map Gi
def Yr(x:j0)(z a1 b1:Str)(n:Int)(s:jH)(h:oU):Prop:=s.1<=Ik x.rk h.1 (up x.ps s.2) h.2.2/\¬(h.1=a1\/h.1=b1)/\Y9 (tY x z a1 b1 n h.2.2) h.1 h.2.1
open Classical in
noncomputable def oZ (x:j0) (z a1 b1:Str) (n:Int) (s:jH) (h:oU):Bool:=decide (Yr x z a1 b1 n s h)
open Classical in
theorem ae7(p:Yr x z a1 b1 n s h):oZ x z a1 b1 n s h=aq:=by unfold oZ;exact gr p
open Classical in
theorem Pg(p:¬Yr x z a1 b1 n s h):oZ x z a1 b1 n s h=aM:=by unfold oZ;exact iR p
theorem acf(h:w∈tY x z a1 b1 n bK):¬(w.2.1=a1\/w.2.1=b1)/\¬(w.2.2=a1\/w.2.2=b1):=by
 obtain⟨r,m,rfl⟩:=dD.mp h
 have:=(lB.mp m).2;unfold wU at this;simp only[jP,Kw,decide_eq_false_iff_not] at this;exact this.2.2.2
theorem adf(h:pA (tY x z a1 b1 n bK) p r s):¬(p=a1\/p=b1)->¬(s=a1\/s=b1):=by
 induction h with
 |nil _=>exact id
 |cons hw _ ih=>exact λ_=>ih (acf hw).2
theorem abF(hN:Names zs)(hP:jR zs x.ps)(hG:uA zs x.ps ht)(hr:ht.ranks=x.rk)(hl:ht.leaves=x.lv)(z a1 b1:Str)(n:Int)(s:jH)(h:oU):
  Ef [.im (jW ht),.im (fX z a1 b1 n),.im (cQ s),.im (dg h)] C=aa (.im (.bool (oZ x z a1 b1 n s h)),C):=by
 have rk:=ajS (C:=C) hN hP hG h.1 s.2 h.2.2;rw[hr] at rk
 obtain⟨o,e,o1,o2⟩:=amh (C:=C) hN hP hG z a1 b1 n h.2.2 h.1 h.2.1
 have ew:yt ht (up x.ps z) n h.2.2 a1 b1=tY x z a1 b1 n h.2.2:=by unfold yt tY;rw[hl]
 rw[ew] at o2;by_cases c:Ik x.rk h.1 (up x.ps s.2) h.2.2<s.1
 .rw[Pg λp=>by have:=p.1;lia];refine gP [aa (.im (jW ht)),aa (.im (fX z a1 b1 n)),aa (.im (cQ s)),aa (.im (dg h)),aj,aj,aj,aj,aj] rfl rfl ?_ rfl rfl;simp_arith[Hj,cQ,dg,rk,c]
 .have fin:∀b:Bool,Ov (match Af o with|.im d=>d|.ow d=>d|_=>.none) .none=aa (.im (.bool b))->CT (Af o)=aM->Ef [.im (jW ht),.im (fX z a1 b1 n),.im (cQ s),.im (dg h)] C=aa (.im (.bool b),C):=λb hb ht'=>by
   refine gP [aa (.im (jW ht)),aa (.im (fX z a1 b1 n)),aa (.im (cQ s)),aa (.im (dg h)),aj,aj,aj,aj,aj] rfl rfl ?_ rfl rfl;cases o with
   |none=>
    simp only[Af] at hb e;simp_arith[Hj,cQ,dg,rk,c,e,hb]
   |some r=>
    simp only[Af] at hb e;simp_arith[Hj,cQ,dg,rk,c,e,hb]
  cases o with
  |none=>
   rw[Pg]
   .exact fin aM rfl rfl
   .rintro⟨_,p1,r,p2⟩
    exact o2 (λq=>q.elim p1 (adf p2 p1)) r p2
  |some r=>
   have sd:¬((h.1=a1\/h.1=b1)\/(h.2.1=a1\/h.2.1=b1)):=λq=>nomatch o1 q
   rw[ae7 ⟨az,λq=>sd (.inl q),r,(o2 sd).1⟩];exact fin aq rfl rfl
theorem apo(p a1 b1:Str):lW (.str p) (.tuple [.str a1,.str b1])=aa (.im (.bool (decide (p=a1\/p=b1)))):=by
 have:inB (.str p) (.tuple [.str a1,.str b1])=aa (inD (.str p) ([a1,b1].map .str)):=bG (c:=(lU (.str p)&&[iD a1,.str b1].all lU)=aq) (e:=aj) rfl;unfold lW;rw[this,MJ];simp
theorem Ue(p a1 b1:Str):tG (.str p) (.tuple [.str a1,.str b1])=aa (.im (.bool (!decide (p=a1\/p=b1)))):=by
 have:=apo p a1 b1;unfold lW at this;unfold tG;cases hh:inB (.str p) (.tuple [.str a1,.str b1]) with
 |none=>rw[hh] at this;cases this
 |some v=>rw[hh] at this;cases this;rfl
theorem Ti(o:Str)(zs:List Str):tG (.str o) (.list (zs.map .str))=aa (.im (.bool (!decide (o∈zs)))):=by
 have:inB (.str o) (.list (zs.map .str))=aa (inD (.str o) (zs.map .str)):=bG (by rw[TX];rfl);unfold tG;rw[this,MJ,oF]
theorem Ug(x:Int)(l:List Int):wG [.list ((x::l).map .int)]=aa (.im (.int (maxD 0 (x::l)))):=by
 unfold wG;simp only[SQ]
theorem ami(h:nF zs x)(who z:Str)(bK:Int):
  N8 [.im (cW x),.im (.str who),.im (.str z),.im (.int bK)] C=aa (.im (.int (Ik x.rk who (up x.ps z) bK)),C):=by
 have p:=Oe (C:=C) h.names h.parts (Vc x) h.p8 z;have p:qI [.im (cW x),.im (.str z)] C=aa (.ow (.list ((up x.ps z).map .str)),C):=p
 obtain⟨hl,hE⟩:∃l,l=x.rk.filter (CK who (up x.ps z) bK):=⟨_,rfl⟩
 have t1:lJ .one S9 Tc [aa (.im (.str who)),aa (.im (.list ((up x.ps z).map .str))),aa (.im (.int bK))] (x.rk.map jU) C=aa ((hl.map (λr:jk=>r.2.2.1)).map .int,C):=by
  have:=pD (T:=.one) (ft:=S9) (fe:=Tc) (fs:=[aa (.im (.str who)),aa (.im (.list ((up x.ps z).map .str))),aa (.im (.int bK))]) (C:=C) jU (CK who (up x.ps z) bK) (λr=>.int r.2.2.1) (l:=x.rk) λr _=>by
   refine⟨[jU r],rfl,?_,λ_=>⟨.im (.int r.2.2.1),_,rfl,rfl⟩⟩
   have c:=PK lV lV (aG (aJ bf (aH 0) (cI 4))) (aH 3) (aG (aJ bf (aH 0) (cI 5))) (ao:=[aa (.im (jU r)),aa (.im (.str who)),aa (.im (.list ((up x.ps z).map .str))),aa (.im (.int bK))]) (C:=C) (a:=decide (r.2.2.2.2.1<=bK)) (b:=decide (bK<=r.2.2.2.2.2)) rfl rfl rfl rfl rfl;simp only[jU] at c;simp_arith[eG,jn,iU,jU,↓c];unfold CK;cases decide (r.2.1=who)<;>cases decide (r.2.2.2.1∈up x.ps z)<;>rfl
  rw[<-hE] at this;rw[fD];exact this
 have r20:=h.r20;have hlen:hl.length<=20:=by rw[hE];exact mq (ug _ _) h.r20
 have hpos:∀y∈hl.map (λr:jk=>r.2.2.1),0<=y:=λy hy=>by
  obtain⟨r,hr,rfl⟩:=dD.mp hy
  rw[hE] at hr;have:=(h.ranks r (lB.mp hr).1).rank;lia
 have g:(hl.length<=1000000)=True:=eqT;have ad:bU (.list ((hl.map (λr:jk=>r.2.2.1)).map .int)) (.list [.int 0])=aa (.ow (.list ((hl.map (λr:jk=>r.2.2.1)++[0]).map .int))):=by
  rw[add_l (by rw[bJ,bJ];show _+1<=_;lia),iC];rfl
 have mx:wG [.list ((hl.map (λr:jk=>r.2.2.1)++[0]).map .int)]=aa (.im (.int ((hl.map (λr:jk=>r.2.2.1)).foldl max 0))):=by
  have m1:wG [.list ((hl.map (λr:jk=>r.2.2.1)++[0]).map .int)]=aa (.im (.int (maxD 0 (hl.map (λr:jk=>r.2.2.1)++[0])))):=by
   cases hl.map (λr:jk=>r.2.2.1) with
   |nil=>exact Ug 0 []
   |cons y l=>exact Ug y (l++[0])
  rw[m1,ab3 (λy hy=>by
   rcases cY.mp hy with hy|hy
   .exact hpos y hy
   .rw[gk.mp hy];exact xQ _),Z6]
  have ge:∀(l:List Int)(a:Int),a<=l.foldl max a:=λl=>by
   induction l with
   |nil=>exact λa=>xQ _
   |cons y l ih=>
    intro a;have:=ih (max a y);have:=ail a y;show a<=l.foldl max (max a y);lia
  show aa (Vl.im (.int (max ((hl.map (λr:jk=>r.2.2.1)).foldl max 0) 0)))=_;rw[aim (ge _ 0)]
 refine gP [aa (.im (cW x)),aa (.im (.str who)),aa (.im (.str z)),aa (.im (.int bK)),aj,aj] rfl rfl ?_ rfl rfl;simp_arith[Wv,p,aem,t1,g,ad,mx];rw[hE];rfl
def qM(os:List Str)(n bK:Int)(r:nY):Bool:=decide (r.2.2.2.1∈os)&&((decide (r.2.2.2.2.1<=bK)&&decide (bK<=r.2.2.2.2.2.1))&&decide (n<=r.2.2.2.2.2.2))
theorem aeu(h:nF zs x)(z a1 b1:Str)(n bK:Int):
  Oc [.im (cW x),.im (fX z a1 b1 n),.im (.int bK)] C=aa (.ow (.list ((x.lv.filter (qM (up x.ps z) n bK)).map dz)),C):=by
 have p:qI [.im (cW x),.im (.str z)] C=aa (.ow (.list ((up x.ps z).map .str)),C):=Oe (C:=C) h.names h.parts (Vc x) h.p8 z
 obtain⟨l,lE⟩:∃l,l=x.lv.filter (qM (up x.ps z) n bK):=⟨_,rfl⟩
 have ll:l.length<=16:=by rw[lE];exact mq (ug _ _) h.qu
 have t:lJ .one Tf Tg [aa (.im (.list ((up x.ps z).map .str))),aa (.im (.int bK)),aa (.im (fX z a1 b1 n))] (x.lv.map dz) C=aa (l.map dz,C):=by
  rw[lE];refine pD (T:=.one) (ft:=Tf) (fe:=Tg) (fs:=[aa (.im (.list ((up x.ps z).map .str))),aa (.im (.int bK)),aa (.im (fX z a1 b1 n))]) (C:=C) dz (qM (up x.ps z) n bK) dz (l:=x.lv) λr _=>?_
  refine⟨[dz r],rfl,?_,λ_=>⟨.im (dz r),_,rfl,rfl⟩⟩
  have c:=PK lV lV (aG (aJ bf (aH 0) (cI 4))) (aH 2) (aG (aJ bf (aH 0) (cI 5))) (ao:=[aa (.im (dz r)),aa (.im (.list ((up x.ps z).map .str))),aa (.im (.int bK)),aa (.im (fX z a1 b1 n))]) (C:=C) (a:=decide (r.2.2.2.2.1<=bK)) (b:=decide (bK<=r.2.2.2.2.2.1)) rfl rfl rfl rfl rfl;simp only[dz] at c;simp_arith[eG,jn,iU,dz,↓c];unfold qM;cases decide (r.2.2.2.1∈up x.ps z)<;>cases decide (r.2.2.2.2.1<=bK)<;>cases decide (bK<=r.2.2.2.2.2.1)<;>rfl
 have q:(l.length<=1000000)=True:=eqT;have nl:dY (l.map dz)=aq:=by
  clear t lE ll q;induction l with
  |nil=>rfl
  |cons r l ih=>show(aq&&dY (l.map dz))=aq;rw[ih];rfl
 refine gP [aa (.im (cW x)),aa (.im (fX z a1 b1 n)),aa (.im (.int bK)),aj] rfl rfl ?_ rfl rfl;simp_arith[Ww,p,ac7,t,q,nl];rw[lE]
def rW(a1 b1 g:Str)(f:List Str)(r:nY):List Str:=if r.2.1=g/\r.2.2.1∉f/\¬(r.2.2.1=a1\/r.2.2.1=b1) then f++[r.2.2.1] else f
theorem XS:∀(ls:List nY)(f:List Str),∃t,ls.foldl (rW a1 b1 g) f=f++t/\(f.Nodup->(f++t).Nodup)/\(∀y∈t,∃r∈ls,r.2.1=g/\r.2.2.1=y/\¬(y=a1\/y=b1))/\(∀r∈ls,r.2.1=g->¬(r.2.2.1=a1\/r.2.2.1=b1)->r.2.2.1∈f++t)
 |[],f=>⟨[],by rw[mj];rfl,λh=>by rw[mj];exact h,(λ_ m=>nomatch m),(λ_ m=>nomatch m)⟩
 |r::ls,f=>by
  obtain⟨t,e,nd,so,wh⟩:=XS (a1:=a1) (b1:=b1) (g:=g) ls (rW a1 b1 g f r)
  rw[Dy,e];by_cases c:r.2.1=g/\r.2.2.1∉f/\¬(r.2.2.1=a1\/r.2.2.1=b1)
  .have s:rW a1 b1 g f r=f++[r.2.2.1]:=bG c;rw[s] at nd wh⊢
   refine⟨r.2.2.1::t,by rw[kE];rfl,λh=>?_,λy hy=>?_,λq hq hg hs=>?_⟩
   .have:=nd (jF.mpr ⟨h,ie.mpr ⟨iT,lO⟩,λa ha b hb e=>by
     rw[gk.mp hb] at e;exact c.2.1 (e▸ha)⟩)
    rw[kE] at this;exact this
   .rcases bW.mp hy with rfl|hy
    .exact⟨r,cX,c.1,rfl,c.2.2⟩
    .obtain⟨q,h1,h2⟩:=so y hy
     exact⟨q,dM _ h1,h2⟩
   .rw[show f++r.2.2.1::t=(f++[r.2.2.1])++t by rw[kE];rfl];rcases bW.mp hq with rfl|hq
    .exact fM _ (eF _ (gk.mpr rfl))
    .exact wh q hq hg hs
  .have s:rW a1 b1 g f r=f:=bH c;rw[s] at nd wh⊢
   refine⟨t,rfl,nd,λy hy=>?_,λq hq hg hs=>?_⟩
   .obtain⟨q,h1,h2⟩:=so y hy
    exact⟨q,dM _ h1,h2⟩
   .rcases bW.mp hq with rfl|hq
    .refine fM _ (Q8 λn=>c ⟨hg,n,hs⟩)
    .exact wh q hq hg hs
abbrev nO(v0:oVl)(z a1 b1:Str)(n:Int)(v2 v3 v4:oVl)(f:List Str)(k:Int)(v7:oVl):En:=[v0,aa (.im (fX z a1 b1 n)),v2,v3,v4,aa (.ow (.list (f.map .str))),aa (.im (.int k)),v7]
theorem acg{C:Ce}{v0 v2 v3 v4:oVl}{k:Nat}:∀(ls:List nY)(f:List Str)(v7:oVl),f[k]?=aa g->f.length+ls.length<=1000->∃w7,jY (eZ 7) Bs (ls.map dz) (nO v0 z a1 b1 n v2 v3 v4 f (k:Int) v7) C
  =aa (.nx,(nO v0 z a1 b1 n v2 v3 v4 (ls.foldl (rW a1 b1 g) f) (k:Int) w7),C)
 |[],f,v7,_,_=>⟨v7,rfl⟩
 |r::ls,f,v7,hg,hl=>by
  rw[dW] at hl
  obtain⟨t,e1,_⟩:=XS (a1:=a1) (b1:=b1) (g:=g) [r] f
  have e1:rW a1 b1 g f r=f++t:=e1;have lt:(rW a1 b1 g f r).length<=f.length+1:=by
   unfold rW;split
   .rw[fO];exact cz _
   .lia
  have hk:k<f.length:=(jO.mp hg).1
  obtain⟨w7,e⟩:=acg (v0:=v0) (v2:=v2) (v3:=v3) (v4:=v4) (z:=z) (a1:=a1) (b1:=b1) (n:=n) (C:=C) ls (rW a1 b1 g f r) (aa (.im (dz r))) (by rw[e1,pB hk];exact hg) az
  refine⟨w7,?_⟩
  rw[Dy,<-e,dN,jY];have ig:fL (f.map iD) (k:Int)=aa (.str g):=xU (j:=k) (by rw[jw,hg];rfl);have ct:rZ [iD z,.int n,.str a1,.str b1] (aa 2) aj=[.str a1,.str b1]:=rfl;have ad:bU (.list (f.map .str)) (.list [.str r.2.2.1])=aa (.ow (.list ((f++[r.2.2.1]).map .str))):=by
   rw[add_l (by rw[bJ];show _+1<=_;lia),iC];rfl
  by_cases h1:r.2.1=g
  .have d1:=gr h1;by_cases h2:r.2.2.1∈f
   .have d2:=gr h2;have st:rW a1 b1 g f r=f:=bH λc=>c.2.1 h2
    have q:Bs (nO v0 z a1 b1 n v2 v3 v4 f (k:Int) (aa (.im (dz r)))) C=aa (.nx,(nO v0 z a1 b1 n v2 v3 v4 f (k:Int) (aa (.im (dz r)))),C):=by
     simp only[dz];simp_arith[ig,d1,Ti,d2]
    simp only[eZ,Ax,Ay,q,st]
   .have d2:=iR h2;by_cases h3:r.2.2.1=a1\/r.2.2.1=b1
    .have d3:=gr h3;have st:rW a1 b1 g f r=f:=bH λc=>c.2.2 h3
     have q:Bs (nO v0 z a1 b1 n v2 v3 v4 f (k:Int) (aa (.im (dz r)))) C=aa (.nx,(nO v0 z a1 b1 n v2 v3 v4 f (k:Int) (aa (.im (dz r)))),C):=by
      simp only[dz];simp_arith[ig,d1,Ti,d2,nJ,mL,qY,vo,ct,Ue,d3]
     simp only[eZ,Ax,Ay,q,st]
    .have d3:=iR h3;have st:rW a1 b1 g f r=f++[r.2.2.1]:=bG ⟨h1,h2,h3⟩;have q:Bs (nO v0 z a1 b1 n v2 v3 v4 f (k:Int) (aa (.im (dz r)))) C=aa (.nx,(nO v0 z a1 b1 n v2 v3 v4 (f++[r.2.2.1]) (k:Int) (aa (.im (dz r)))),C):=by
      simp only[dz];simp_arith[ig,d1,Ti,d2,nJ,mL,qY,vo,ct,Ue,d3,ad]
     simp only[eZ,Ax,Ay,q,st]
  .have d1:=iR h1;have st:rW a1 b1 g f r=f:=bH λc=>h1 c.1
   have q:Bs (nO v0 z a1 b1 n v2 v3 v4 f (k:Int) (aa (.im (dz r)))) C=aa (.nx,(nO v0 z a1 b1 n v2 v3 v4 f (k:Int) (aa (.im (dz r)))),C):=by
    simp only[dz];simp_arith[ig,d1]
   simp only[eZ,Ax,Ay,q,st]
structure QS(ws:List (Int×Str×Str))(h:Str)(tk:List Str)(k:Nat)(f:List Str):Prop where
 nd:f.Nodup
 so:∀y∈f,Y9 ws h y
 hd:h∈f
 kl:k<=f.length
 cl:∀(i:Nat)(p:Str),i<k->f[i]?=aa p->∀(m:Int)(y:Str),(m,p,y)∈ws->y∈f
 sub:∀y∈f,y∈h::tk
theorem anZ(h:r∈x.lv.filter (qM (up x.ps z) n bK))(h1:¬(r.2.1=a1\/r.2.1=b1))(h2:¬(r.2.2.1=a1\/r.2.2.1=b1)):Gi r∈tY x z a1 b1 n bK:=by
 obtain⟨m,hb⟩:=lB.mp h
 refine dD.mpr ⟨r,lB.mpr ⟨m,?_⟩,rfl⟩;unfold qM at hb;unfold wU;simp only[jP,Kw,decide_eq_false_iff_not,decide_eq_true_eq] at hb⊢
 exact⟨hb.1,hb.2.1,hb.2.2,h1,h2⟩
theorem amj(h:w∈tY x z a1 b1 n bK):∃r∈x.lv.filter (qM (up x.ps z) n bK),Gi r=w/\¬(r.2.2.1=a1\/r.2.2.1=b1):=by
 obtain⟨r,m,rfl⟩:=dD.mp h
 obtain⟨m1,hb⟩:=lB.mp m
 refine⟨r,lB.mpr ⟨m1,?_⟩,rfl,(acf h).2⟩
 unfold wU at hb;unfold qM;simp only[jP,Kw,decide_eq_false_iff_not,decide_eq_true_eq] at hb⊢
 exact⟨hb.1,hb.2.1,hb.2.2.1⟩
theorem ach{x:j0}{v0 v2 v3:oVl}(hs:¬(h=a1\/h=b1))(qu:x.lv.length<=16):∀(fu k:Nat)(f:List Str),QS (tY x z a1 b1 n bK) h (x.lv.map (·.2.2.1)) k f->17-k<fu->
  ∃f',QS (tY x z a1 b1 n bK) h (x.lv.map (·.2.2.1)) f'.length f'/\∀(C:Ce)(v4:Vl)(v7:oVl),(v4=.ow (.list ((x.lv.filter (qM (up x.ps z) n bK)).map dz))\/v4=.im (.list ((x.lv.filter (qM (up x.ps z) n bK)).map dz)))->
   ∃e',j9 Eg LC fu (nO v0 z a1 b1 n v2 v3 (aa v4) f (k:Int) v7) C=aa (.nx,e',C)/\e'[5]?=aa (aa (.ow (.list (f'.map .str))))
 |0,k,f,I,hf=>absurd hf (xH _)
 |fu+1,k,f,I,hf=>by
  have fl:f.length<=17:=by
   have:=len_sub I.nd I.sub;rw[dW,bJ] at this;lia
  obtain⟨ls,hls⟩:∃ls,ls=x.lv.filter (qM (up x.ps z) n bK):=⟨_,rfl⟩
  have lsl:ls.length<=16:=by rw[hls];exact mq (ug _ _) qu
  rw[<-hls];by_cases c:k<f.length
  .obtain⟨g,hg⟩:∃g,f[k]?=aa g:=⟨_,jb c⟩
   have gm:g∈f:=lY hg
   obtain⟨r0,hr0⟩:=I.so g gm
   have gs:=adf hr0 hs
   obtain⟨t,e1,nd,so,wh⟩:=XS (a1:=a1) (b1:=b1) (g:=g) ls f
   have I':QS (tY x z a1 b1 n bK) h (x.lv.map (·.2.2.1)) (k+1) (f++t):=by
    refine⟨nd I.nd,λy hy=>?_,fM _ I.hd,by rw[fO];lia,λi p hi hp m y hw=>?_,λy hy=>?_⟩
    .rcases cY.mp hy with hy|hy
     .exact I.so y hy
     .obtain⟨r,hr,h1,h2,h3⟩:=so y hy
      rw[hls] at hr;have hw:=anZ hr (by rw[h1];exact gs) (by rw[h2];exact h3)
      refine⟨_,hr0.snoc (n:=r.1) (c:=y) ?_⟩
      have:Gi r=(r.1,g,y):=by unfold Gi;rw[h1,h2]
      rw[<-this];exact hw
    .have hi':i<f.length:=az;rw[pB hi'] at hp;by_cases ck:i=k
     .subst ck;rw[hg] at hp;cases hp
      obtain⟨r,hr,e,h3⟩:=amj hw
      rw[<-hls] at hr;injection e with e1 e2
      injection e2 with e2 e3
      rw[<-e3];exact wh r hr e2 h3
     .exact fM _ (I.cl i p az hp m y hw)
    .rcases cY.mp hy with hy|hy
     .exact I.sub y hy
     .obtain⟨r,hr,h1,h2,h3⟩:=so y hy
      rw[hls] at hr;exact dM _ (dD.mpr ⟨r,(lB.mp hr).1,h2⟩)
   obtain⟨f',J,run⟩:=ach (v0:=v0) (v2:=v2) (v3:=v3) hs qu fu (k+1) (f++t) I' az
   rw[<-hls] at run
   refine⟨f',J,λC v4 v7 hv=>?_⟩
   obtain⟨w7,e2⟩:=acg (C:=C) (v0:=v0) (v2:=v2) (v3:=v3) (v4:=aa (.im (.list (ls.map dz)))) (z:=z) (a1:=a1) (b1:=b1) (n:=n) ls f v7 hg az
   obtain⟨e',e3,e4⟩:=run C (.im (.list (ls.map dz))) w7 (.inr rfl)
   refine⟨e',?_,e4⟩
   rw[e1] at e2;have ck:((k+1:Nat):Int)=(k:Int)+1:=az;rw[ck] at e3;have cc:((k:Int)<(f.length:Int))=True:=eqT;have bb1:jJ (iV (aU 4)) (eZ 7) Bs (nO v0 z a1 b1 n v2 v3 (aa v4) f (k:Int) v7) C=aa (.nx,(nO v0 z a1 b1 n v2 v3 (aa (.im (.list (ls.map dz)))) (f++t) (k:Int) w7),C):=by
    rcases hv with rfl|rfl<;>simp_arith[jJ,e2]
   have bb2:cB 6 (aJ bU (aH 6) (cI 1)) (nO v0 z a1 b1 n v2 v3 (aa (.im (.list (ls.map dz)))) (f++t) (k:Int) w7) C=aa (.nx,(nO v0 z a1 b1 n v2 v3 (aa (.im (.list (ls.map dz)))) (f++t) ((k:Int)+1) w7),C):=by
    simp_arith[]
   have tt:Eg (nO v0 z a1 b1 n v2 v3 (aa v4) f (k:Int) v7) C=aa (aq,C):=by
    simp_arith[cc]
   unfold j9;simp only[tt,LC,bO,bb1,bb2];exact e3
  .have ek:k=f.length:=by have:=I.kl;lia
   refine⟨f,by rw[<-ek];exact I,λC v4 v7 hv=>⟨(nO v0 z a1 b1 n v2 v3 (aa v4) f (k:Int) v7),?_,rfl⟩⟩
   have cc:((k:Int)<(f.length:Int))=False:=eq_false az;have tt:Eg (nO v0 z a1 b1 n v2 v3 (aa v4) f (k:Int) v7) C=aa (aM,C):=by
    simp_arith[cc]
   unfold j9;simp only[tt]
theorem apq{f:List Str}(cl:∀(p:Str),p∈f->∀(m:Int)(y:Str),(m,p,y)∈ws->y∈f){a b:Str}(h:pA ws a r b):a∈f->b∈f:=by
 induction h with
 |nil _=>exact id
 |cons hw _ ih=>exact λha=>ih (cl _ ha _ _ hw)
theorem aev(hb:nF zs x)(z a1 b1 h:Str)(n bK:Int):∃l:List Str,l.length<=17/\(∀y,y∈l↔¬(h=a1\/h=b1)/\Y9 (tY x z a1 b1 n bK) h y)/\(∀y∈l,y=h\/y∈zs)/\∀C:Ce,BX [.im (cW x),.im (fX z a1 b1 n),.im (.str h),.im (.int bK)] C=aa (.ow (.list (l.map .str)),C):=by
 have ct:rZ [iD z,.int n,.str a1,.str b1] (aa 2) aj=[.str a1,.str b1]:=rfl;have ni:=Ue h a1 b1;by_cases hs:h=a1\/h=b1
 .refine⟨[],lC _,λy=>⟨(λm=>nomatch m),(λm=>absurd hs m.1)⟩,(λ_ m=>nomatch m),λC=>?_⟩
  have lt:=aeu (C:=C) hb z a1 b1 n bK;rw[gr hs] at ni;refine gP [aa (.im (cW x)),aa (.im (fX z a1 b1 n)),aa (.im (.str h)),aa (.im (.int bK)),aj,aj,aj,aj] rfl rfl ?_ rfl rfl;have c0:((0:Int)<((0:Nat):Int))=False:=eq_false az;have wh:j9 Eg LC zT [aa (.im (cW x)),aa (.im (fX z a1 b1 n)),aa (.im (.str h)),aa (.im (.int bK)),aa (.ow (.list ((x.lv.filter (qM (up x.ps z) n bK)).map dz))),aa (.ow (.list [])),aa (.im (.int 0)),aj] C=aa (.nx,[aa (.im (cW x)),aa (.im (fX z a1 b1 n)),aa (.im (.str h)),aa (.im (.int bK)),aa (.ow (.list ((x.lv.filter (qM (up x.ps z) n bK)).map dz))),aa (.ow (.list [])),aa (.im (.int 0)),aj],C):=by
   have tt:Eg [aa (.im (cW x)),aa (.im (fX z a1 b1 n)),aa (.im (.str h)),aa (.im (.int bK)),aa (.ow (.list ((x.lv.filter (qM (up x.ps z) n bK)).map dz))),aa (.ow (.list [])),aa (.im (.int 0)),aj] C=aa (aM,C):=by
    simp_arith[c0]
   rw[show zT=99999+1 from rfl];unfold j9;simp only[tt]
  simp_arith[Od,lt,nJ,mL,qY,vo,ct,ni,ud,wh]
 .have I:QS (tY x z a1 b1 n bK) h (x.lv.map (·.2.2.1)) 0 [h]:=⟨ie.mpr ⟨iT,lO⟩,λy hy=>by rw[gk.mp hy];exact⟨[],.nil h⟩,gk.mpr rfl,lC _,λi p hi=>absurd hi (xH _),λy hy=>by rw[gk.mp hy];exact cX⟩
  obtain⟨f',J,run⟩:=ach (x:=x) (z:=z) (n:=n) (bK:=bK) (v0:=aa (.im (cW x))) (v2:=aa (.im (.str h))) (v3:=aa (.im (.int bK))) hs hb.qu zT 0 [h] I (by show 17-0<100000;decide)
  refine⟨f',?_,λy=>⟨λm=>⟨hs,J.so y m⟩,λm=>?_⟩,λy hy=>?_,λC=>?_⟩
  .have:=len_sub J.nd J.sub;have:=hb.qu;rw[dW,bJ] at *;lia
  .obtain⟨_,r,hr⟩:=m
   exact apq (λp hp m y hw=>by
    obtain⟨i,hi,e⟩:=vB hp
    exact J.cl i p hi (by rw[jb hi,e]) m y hw) hr J.hd
  .rcases bW.mp (J.sub y hy) with e|e
   .exact .inl e
   .obtain⟨r,hr,rfl⟩:=dD.mp e
    exact .inr (hb.leaves r hr).taker
  .have lt:=aeu (C:=C) hb z a1 b1 n bK;rw[iR hs] at ni
   obtain⟨e',e1,e2⟩:=run C _ aj (.inl rfl)
   refine gP [aa (.im (cW x)),aa (.im (fX z a1 b1 n)),aa (.im (.str h)),aa (.im (.int bK)),aj,aj,aj,aj] rfl rfl ?_ rfl rfl;simp only[nO,dN,uv,Int.natCast_zero] at e1;simp_arith[Od,lt,nJ,mL,qY,vo,ct,ni,ud,e1,e2]
theorem aew(hb:nF zs x)(z a1 b1:Str)(n:Int)(s:jH)(h:oU):
  Ji [.im (cW x),.im (fX z a1 b1 n),.im (cQ s),.im (dg h)] C=aa (.im (.bool (oZ x z a1 b1 n s h)),C):=by
 have rk:=ami (C:=C) hb h.1 s.2 h.2.2
 obtain⟨l,_,hm,_,e⟩:=aev hb z a1 b1 h.1 n h.2.2
 have e:=e C;by_cases c:Ik x.rk h.1 (up x.ps s.2) h.2.2<s.1
 .rw[Pg λp=>by have:=p.1;lia];refine gP [aa (.im (cW x)),aa (.im (fX z a1 b1 n)),aa (.im (cQ s)),aa (.im (dg h))] rfl rfl ?_ rfl rfl;simp_arith[O8,cQ,dg,rk,c]
 .have hd:decide (h.2.1∈l)=oZ x z a1 b1 n s h:=by
   by_cases q:h.2.1∈l
   .rw[gr q,ae7 ⟨az,(hm _).mp q⟩]
   .rw[iR q,Pg λp=>q ((hm _).mpr p.2)]
  refine gP [aa (.im (cW x)),aa (.im (fX z a1 b1 n)),aa (.im (cQ s)),aa (.im (dg h))] rfl rfl ?_ rfl rfl;simp_arith[O8,cQ,dg,rk,c,e,hd]
def yu(z:Str)(s:jH):jH:=(s.1,if s.2=bz "" then z else s.2)
def Ph(rs:List jr)(z:Str)(n:Int)(o:Str)(ss:List jH):Prop:=((∀r∈rs,r.1=o->n<r.2.1)/\ss=[])\/∃r∈rs,r.1=o/\r.2.1<=n/\(∀q∈rs,q.1=o->q.2.1<=n->q.2.1<=r.2.1)/\ss=r.2.2.map (yu z)
def Pj(rs:List jr)(z:Str)(n:Int):List Str->List jH->Prop
 |[],ss=>ss=[]
 |o::os,ss=>((∃r∈rs,r.1=o)/\Ph rs z n o ss)\/((∀r∈rs,r.1≠o)/\Pj rs z n os ss)
theorem aex(ne:x.rs≠[])(pP:x.rs.length<=10)(o:Str)(v1 v2 v4 v5 v6:oVl):cB 4 (gU (QL (aG (aJ bf (aH 0) (cS "rules")))) .one Td Te [3]) [aa (.im (cW x)),v1,v2,aa (.im (.str o)),v4,v5,v6] C=aa (.nx,[aa (.im (cW x)),v1,v2,aa (.im (.str o)),aa (.ow (.list (((x.rs.filter λr=>decide (r.1=o)).map (·.2.1)).map .int))),v5,v6],C):=by
 have it:J7 (.dict (eU x.rs))=aa (x.rs.map λr=>jK r.1 r.2.1):=by
  have:J7 (.dict (eU x.rs))=aa ((eU x.rs).map (·.1)):=bG ⟨by unfold eU;rw[Ne,ahx];exact ne,by rw[Nu];rfl⟩;rw[this];unfold eU;rw[fD];rfl
 have t:=pD (T:=.one) (ft:=Td) (fe:=Te) (fs:=[aa (.im (.str o))]) (C:=C) (λr:jr=>jK r.1 r.2.1) (λr=>decide (r.1=o)) (λr=>.int r.2.1) (l:=x.rs) λr _=>by
  refine⟨[jK r.1 r.2.1],rfl,?_,λ_=>⟨.im (.int r.2.1),_,rfl,rfl⟩⟩
  simp_arith[eG,jn,iU,jK]
 obtain⟨l,hl⟩:∃l,l=x.rs.filter λr=>decide (r.1=o):=⟨_,rfl⟩
 have ll:l.length<=10:=by rw[hl];exact mq (ug _ _) pP
 rw[<-hl] at t⊢;have q:(l.length<=1000000)=True:=eqT;have e:l.map (λr=>lD r.2.1)=(l.map (·.2.1)).map .int:=by rw[fD];rfl
 rw[e] at t;simp_arith[NK,QL,it,t,q]
theorem amk(ss:List jH):lJ (.many 2) gF Lx [aa (.im (.str z))] (ss.map cQ) C=aa ((ss.map (yu z)).map cQ,C):=by
 have t:=pD (T:=.many 2) (ft:=gF) (fe:=Lx) (fs:=[aa (.im (.str z))]) (C:=C) cQ (λ_=>aq) (λs=>cQ (yu z s)) (l:=ss) λs _=>by
  refine⟨[.int s.1,.str s.2],rfl,rfl,λ_=>⟨.im (cQ (yu z s)),[aa (.im (.int s.1)),aa (.im (.str s.2)),aa (.im (.str z))],?_,rfl⟩⟩
  unfold yu cQ;by_cases c:s.2=bz ""
  .rw[bG c];have c':=eq_true c;simp_arith[eG,jn,iU,xY,c']
  .rw[bH c];have c':=eq_false c;simp_arith[eG,jn,iU,xY,c']
 rw[GF.mpr λ_ _=>rfl] at t;rw[fD];exact t
abbrev vq(x:j0)(z:Str)(n:Int)(o:Str)(v4 v5 v6:oVl):En:=[aa (.im (cW x)),aa (.im (.str z)),aa (.im (.int n)),aa (.im (.str o)),v4,v5,v6]
theorem an0(hb:nF zs x)(z:Str)(n:Int)(o:Str)(he:∃r∈x.rs,r.1=o):∃ss,Ph x.rs z n o ss/\∀(C:Ce)(v4 v5 v6:oVl),∃e',vN (vq x z n o v4 v5 v6) C=aa (.rt (.ow (.list (ss.map cQ))),e',C):=by
 obtain⟨sm,hsm⟩:∃sm,sm=(x.rs.filter λr=>decide (r.1=o)).map (·.2.1):=⟨_,rfl⟩
 have QT:∀y,y∈sm↔∃r∈x.rs,r.1=o/\r.2.1=y:=λy=>by
  rw[hsm,dD];constructor
  .rintro⟨r,h1,h2⟩
   obtain⟨h3,h4⟩:=lB.mp h1
   exact⟨r,h3,of_decide_eq_true h4,h2⟩
  .rintro⟨r,h1,h2,h3⟩
   exact⟨r,lB.mpr ⟨h1,gr h2⟩,h3⟩
 have pP:=hb.pP;have sml:sm.length<=10:=by rw[hsm,bJ];exact mq (ug _ _) pP
 have sne:(sm.map lD).isEmpty=aM:=by
  obtain⟨r,h1,h2⟩:=he
  have:=(QT r.2.1).mpr ⟨r,h1,h2,rfl⟩;cases sm with
  |nil=>cases this
  |cons _ _=>rfl
 have ne1:=Yp (Wi sm) aR;rw[sne] at ne1
 obtain⟨fs,hfs⟩:∃fs,fs=sm.filter λy=>decide (y<=n):=⟨_,rfl⟩
 have fsl:fs.length<=10:=by rw[hfs];exact mq (ug _ _) sml
 have t5:∀C:Ce,lJ .one Ly Lz [aa (.im (.int n))] (sm.map .int) C=aa (fs.map .int,C):=λC=>by
  rw[hfs];refine pD (T:=.one) (ft:=Ly) (fe:=Lz) (fs:=[aa (.im (.int n))]) (C:=C) lD (λy=>decide (y<=n)) lD (l:=sm) λy _=>⟨[.int y],rfl,?_,λ_=>⟨.im (.int y),_,rfl,rfl⟩⟩
  simp_arith[eG,jn,iU]
 have q5:(fs.length<=1000000)=True:=eqT;have ne2:=Yp (Wi fs) aR;have s5:∀(C:Ce)(v5 v6:oVl),cB 5 (gU (iB (aH 4)) .one Ly Lz [2]) (vq x z n o (aa (.ow (.list (sm.map .int)))) v5 v6) C=aa (.nx,(vq x z n o (aa (.ow (.list (sm.map .int)))) (aa (.ow (.list (fs.map .int)))) v6),C):=λC v5 v6=>by
  simp_arith[t5,q5]
 have fin:∀(ss:List jH),Ph x.rs z n o (ss.map (yu z))->ss.length<=6->(∀(C:Ce)(v6:oVl),cB 6 (yE (dB (aJ oh (aH 5) (aG (dR aX)))) (aJ bf (aG (aJ bf (aH 0) (cS "rules"))) (aG (jd (aB (aU 3) (aB (cM wG (cF (aH 5) cL)) aX))))) (jd aX)) (vq x z n o (aa (.ow (.list (sm.map .int)))) (aa (.ow (.list (fs.map .int)))) v6) C=aa (.nx,(vq x z n o (aa (.ow (.list (sm.map .int)))) (aa (.ow (.list (fs.map .int)))) (aa (.im (.tuple (ss.map cQ))))),C))->
   ∃ss,Ph x.rs z n o ss/\∀(C:Ce)(v4 v5 v6:oVl),∃e',vN (vq x z n o v4 v5 v6) C=aa (.rt (.ow (.list (ss.map cQ))),e',C):=λss ho sl s6=>by
  refine⟨ss.map (yu z),ho,λC v4 v5 v6=>⟨(vq x z n o (aa (.ow (.list (sm.map .int)))) (aa (.ow (.list (fs.map .int)))) (aa (.im (.tuple (ss.map cQ))))),?_⟩⟩
  have s4:=aex (C:=C) hb.r1 pP o (aa (.im (.str z))) (aa (.im (.int n))) v4 v5 v6;rw[<-hsm] at s4;have c:=amk (C:=C) (z:=z) ss;have q:(ss.length<=1000000)=True:=eqT;have nl:dY ((ss.map (yu z)).map cQ)=aq:=by
   clear c s6 ho sl q;induction ss with
   |nil=>rfl
   |cons r l ih=>show(aq&&dY _)=aq;rw[ih];rfl
  have s7:gb (gU (wY (aH 6)) (.many 2) gF Lx [1]) (vq x z n o (aa (.ow (.list (sm.map .int)))) (aa (.ow (.list (fs.map .int)))) (aa (.im (.tuple (ss.map cQ))))) C=aa (.rt (.ow (.list ((ss.map (yu z)).map cQ))),(vq x z n o (aa (.ow (.list (sm.map .int)))) (aa (.ow (.list (fs.map .int)))) (aa (.im (.tuple (ss.map cQ))))),C):=by
   simp_arith[c,q,nl]
  have tt:dB (aJ oh (aH 4) (aG (dR aX))) (vq x z n o (aa (.ow (.list (sm.map .int)))) v5 v6) C=aa (aq,C):=by
   simp_arith[ne1]
  unfold vN
  refine(oR s4).trans ?_
  unfold kZ;simp only[tt]
  exact((oR (s5 C v5 v6)).trans ((oR (s6 C v6)).trans s7))
 by_cases c:fs=[]
 .refine fin [] (.inl ⟨λr hr ho=>?_,rfl⟩) (lC _) λC v6=>?_
  .apply Q8;intro hn;have:r.2.1∈fs:=by rw[hfs];exact lB.mpr ⟨(QT _).mpr ⟨r,hr,ho,rfl⟩,gr az⟩
   rw[c] at this;cases this
  .rw[c];simp_arith[nn0]
 .obtain⟨m1,m2⟩:=anK c
  obtain⟨m3,m4⟩:=lB.mp (by rw[hfs] at m1;exact m1)
  obtain⟨r,r1,r2,r3⟩:=(QT _).mp m3
  rw[<-hfs] at r3;have mx:wG [.list (fs.map .int)]=aa (.im (.int (maxD 0 fs))):=by
   cases fs with
   |nil=>exact absurd rfl c
   |cons y l=>exact Ug y l
  have ix:=afn r1 hb.unlike;rw[r2,r3] at ix;unfold jK at ix;have e0:(fs.map lD).isEmpty=aM:=by
   cases fs with
   |nil=>exact absurd rfl c
   |cons y l=>rfl
  rw[e0] at ne2;refine fin r.2.2 (.inr ⟨r,r1,r2,by rw[r3];rw[<-hfs] at m4;exact of_decide_eq_true m4,λq hq ho hn=>?_,rfl⟩) (hb.rules r r1).many λC v6=>?_
  .rw[r3];exact m2 _ (by rw[hfs];exact lB.mpr ⟨(QT _).mpr ⟨q,hq,ho,rfl⟩,gr hn⟩)
  .simp_arith[ne2,NK,mx,ix];rfl
theorem an1(hb:nF zs x)(o:Str)(he:∀r∈x.rs,r.1≠o)(v1 v2 v4 v5 v6:oVl):vN [aa (.im (cW x)),v1,v2,aa (.im (.str o)),v4,v5,v6] C=aa (.nx,[aa (.im (cW x)),v1,v2,aa (.im (.str o)),aa (.ow (.list [])),v5,v6],C):=by
 have s4:=aex (C:=C) hb.r1 hb.pP o v1 v2 v4 v5 v6;have e:(x.rs.filter λr=>decide (r.1=o))=[]:=List.filter_eq_nil_iff.mpr λr hr=>by simpa using he r hr
 rw[e] at s4;unfold vN
 refine(oR s4).trans ?_
 have tt:dB (aJ oh (aH 4) (aG (dR aX))) [aa (.im (cW x)),v1,v2,aa (.im (.str o)),aa (.ow (.list (([]:List jr).map (·.2.1) |>.map lD))),v5,v6] C=aa (aM,C):=by
  simp_arith[nn0]
 unfold kZ;simp only[tt];rfl
theorem aci(hb:nF zs x)(z:Str)(n:Int):∀os:List Str,∃ss,Pj x.rs z n os ss/\∀(C:Ce)(v3 v4 v5 v6:oVl),(∃e',jY (eZ 3) vN (os.map .str) [aa (.im (cW x)),aa (.im (.str z)),aa (.im (.int n)),v3,v4,v5,v6] C=aa (.rt (.ow (.list (ss.map cQ))),e',C))\/(ss=[]/\∃e',jY (eZ 3) vN (os.map .str) [aa (.im (cW x)),aa (.im (.str z)),aa (.im (.int n)),v3,v4,v5,v6] C=aa (.nx,e',C))
 |[]=>⟨[],rfl,λC v3 v4 v5 v6=>.inr ⟨rfl,_,rfl⟩⟩
 |o::os=>by
  by_cases c:∃r∈x.rs,r.1=o
  .obtain⟨ss,ho,run⟩:=an0 hb z n o c
   refine⟨ss,.inl ⟨c,ho⟩,λC v3 v4 v5 v6=>.inl ?_⟩
   obtain⟨e',e⟩:=run C v4 v5 v6
   refine⟨e',?_⟩
   rw[dN,jY];simp only[eZ,Ax,Ay,e]
  .have c':∀r∈x.rs,r.1≠o:=λr hr e=>c ⟨r,hr,e⟩
   obtain⟨ss,ho,run⟩:=aci hb z n os
   refine⟨ss,.inr ⟨c',ho⟩,λC v3 v4 v5 v6=>?_⟩
   have e:=an1 (C:=C) hb o c' (aa (.im (.str z))) (aa (.im (.int n))) v4 v5 v6;have st:jY (eZ 3) vN ((o::os).map .str) [aa (.im (cW x)),aa (.im (.str z)),aa (.im (.int n)),v3,v4,v5,v6] C=jY (eZ 3) vN (os.map .str) (vq x z n o (aa (.ow (.list []))) v5 v6) C:=by
    rw[dN,jY];simp only[eZ,Ax,Ay,e]
   rw[st];exact run C _ _ _ _
theorem an2(hb:nF zs x)(z:Str)(n:Int):∃ss,Pj x.rs z n (up x.ps z) ss/\∀C:Ce,Io [.im (cW x),.im (.str z),.im (.int n)] C=aa (.ow (.list (ss.map cQ)),C):=by
 obtain⟨ss,ho,run⟩:=aci hb z n (up x.ps z)
 refine⟨ss,ho,λC=>?_⟩
 have p:qI [.im (cW x),.im (.str z)] C=aa (.ow (.list ((up x.ps z).map .str)),C):=Oe (C:=C) hb.names hb.parts (Vc x) hb.p8 z;refine gP [aa (.im (cW x)),aa (.im (.str z)),aa (.im (.int n)),aj,aj,aj,aj] rfl rfl ?_ rfl rfl;rcases run C aj aj aj aj with⟨e',e⟩|⟨rfl,e',e⟩
 .simp_arith[Oa,jJ,p,e]
 .simp_arith[Oa,jJ,p,e]
theorem an3(hb:nF zs x)(h:Bl L C b (j+2)):∃(s:Int)(C':Ce),uL [.ce b,.im (cW x)] C=aa (.im (.int s),C')/\0<=s/\s<=1000000000/\Bl L C' b j:=Pb (anI x) hb.ss6 hb.ssb h
theorem aml(hb:nF zs x)(h:Bl L C b (j+5)):
  ∃(z a1 b1:Str)(n:Int)(C':Ce),H9 [.ce b,.im (cW x)] C=aa (.im (fX z a1 b1 n),C')/\z∈x.ps.map (·.1)/\a1∈x.pp++[bz "nobody"]/\b1∈x.pp++[bz "nobody"]/\0<=n/\n<=1000000000/\Bl L C' b j:=by
 refine hide λGG gg=>?_
 have p1:=hb.p1;have p8:=hb.p8;have CW:=hb.CW;have so:=zA x.ps az
 obtain⟨sp,hsp⟩:∃sp,sp=mG strLt (x.ps.map (·.1)):=⟨_,rfl⟩
 have lA:sp.Perm (x.ps.map (·.1)):=by rw[hsp];exact rE _
 have Aq:sp.length=x.ps.length:=by rw[lA.length_eq,bJ]
 rw[<-hsp] at so;have mu:zP (.list [.str x.mn]) (.int 3)=aa (.ow (.list [.str x.mn,.str x.mn,.str x.mn])):=rfl
 obtain⟨k1,C1,e1,a1,b1,iJ⟩:=iH (m:=(sp.length:Int)+3) (k:=j+4) h az az
 have ad:bU (.list (sp.map .str)) (.list [.str x.mn,.str x.mn,.str x.mn])=aa (.ow (.list ((sp++[x.mn,x.mn,x.mn]).map .str))):=by
  rw[add_l (by rw[bJ];show _+3<=_;lia),iC];rfl
 obtain⟨z,mz,_,iz⟩:=pF (zs:=sp++[x.mn,x.mn,x.mn]) (k:=k1) a1 (by rw[fO];show k1<((sp.length+3:Nat):Int);lia)
 have zo:z∈x.ps.map (·.1):=by
  rcases cY.mp mz with m|m
  .exact lA.mem_iff.mp m
  .have:z=x.mn:=by simpa using m
   rw[this];exact hb.main
 obtain⟨al,hal⟩:∃al,al=x.pp++[bz "nobody"]:=⟨_,rfl⟩
 have arq:al.length=x.pp.length+1:=by rw[hal,fO];rfl
 have Zg:bU (.list (x.pp.map .str)) (.list [.str (bz "nobody")])=aa (.ow (.list (al.map .str))):=by
  rw[add_l (by rw[bJ];show _+1<=_;lia),hal,iC];rfl
 obtain⟨ys,C2,e2,hB2,hl2,hr2⟩:=Mi (T:=.one) (fe:=abb) (fs:=[aa (.im (cW x)),aa (.ce b)]) (λi C1=>Bl L C1 b (j+2+(2-i))) (λi y=>∃s:Str,y=.str s/\s∈al) (aK:=gf 0 2) (C:=C1) (k:=0) iJ (λi d C3 hd hB=>by
  obtain⟨rfl,hi⟩:=tK hd
  rw[zc] at hB⊢;rw[Xf (j+2) (by lia:i<2)] at hB
  obtain⟨k,C4,e,a,b',pQ⟩:=iH (m:=(x.pp.length:Int)+1) hB az az
  obtain⟨s,ms,_,is⟩:=pF (zs:=al) (k:=k) a az
  refine⟨_,.im (.str s),[aa (.im (.int (0+i))),aa (.im (cW x)),aa (.ce b)],C4,.str s,rfl,?_,rfl,⟨s,rfl,ms⟩,pQ⟩
  simp_arith[eG,jn,iU,Vb,Zg,e,is])
 rw[vX] at hB2 hl2
 obtain⟨l,rfl,hl⟩:=Wg (D:=iD) (R:=λ_ s=>s∈al) (k:=0) (ys:=ys) λi y hy=>hr2 i y hy
 rw[bJ] at hl2
 obtain⟨s1,s2,rfl⟩:∃s1 s2,l=[s1,s2]:=by
  match l,hl2 with
  |[s1,s2],_=>exact⟨s1,s2,rfl⟩
 have m1:=hl 0 s1 rfl;have m2:=hl 1 s2 rfl
 obtain⟨n,C5,e5,n0,n1,Dl⟩:=an3 (j:=j) hb hB2
 rw[hal] at m1 m2;have nl2:dY [iD s1,.str s2]=aq:=rfl;refine gg ⟨z,s1,s2,n,C5,gP [aa (.ce b),aa (.im (cW x)),aj,aj,aj] rfl rfl ?_ rfl (h.eq Dl),zo,m1,m2,n0,n1,Dl⟩;simp_arith[Vj,NB,so,api,mu,e1,ad,iz,jM,yH (m:=2) az az,show Int.toNat 2=2 from rfl,e2,nl2,e5]
structure Fg(zs:List Str)(x:j0)(h:oU):Prop where
 holder:h.1∈x.pp
 signer:h.2.1∈zs
 bK:0<=h.2.2/\h.2.2<=99980
theorem an4(hb:nF zs x)(k:Fg zs x h):jN 1 (dg h):=tR λd hd=>by
 simp only[bW,iT,or_false] at hd;rcases hd with rfl|rfl|rfl
 .exact Wh (hb.names.2 _ (hb.su _ k.holder))
 .exact Wh (hb.names.2 _ k.signer)
 .exact tQ _
theorem amm{hs:List oU}(hb:nF zs x)(k:∀h∈hs,Fg zs x h):jN 2 (.list (hs.map dg)):=O6 λd hd=>by
 obtain⟨h,hm,rfl⟩:=dD.mp hd
 exact an4 hb (k h hm)
theorem adg:∀hs:List oU,dY (hs.map dg)=aq
 |[]=>rfl
 |h::hs=>by show(aq&&dY (hs.map dg))=aq;rw[adg hs];rfl
def Fi(h s:Str)(d:oU):Bool:=decide (d.1=h)||decide (d.2.1=s)
abbrev nM(b:Nat)(x:j0)(z a1 b1:Str)(n m:Int)(hs:List oU)(v5 v6 v7 v8 v9 v10:oVl):En:=[aa (.ce b),aa (.im (cW x)),aa (.im (fX z a1 b1 n)),aa (.im (.int m)),aa (.ow (.list (hs.map dg))),v5,v6,v7,v8,v9,v10]
theorem an5(hb:nF zs x)(m10:m<=10)(hl:(hs.length:Int)<=m)(hk:∀h∈hs,Fg zs x h)(n1:(hs.map (·.1)).Nodup)(n2:(hs.map (·.2.1)).Nodup)(h:Bl L C b (j+4)):
  ∃(hs':List oU)(e':En)(C':Ce)(w6 w7 w8 w9 w10:oVl),Lg (nM b x z a1 b1 n m hs v5 v6 v7 v8 v9 v10) C=aa (.nx,e',C')/\e'=(nM b x z a1 b1 n m hs' v5 w6 w7 w8 w9 w10)/\(hs'.length:Int)<=m/\(∀h∈hs',Fg zs x h)/\(hs'.map (·.1)).Nodup/\(hs'.map (·.2.1)).Nodup/\Bl L C' b j:=by
 refine hide λGG gg=>?_
 have Ao:=hb.Ao;have CW:=hb.CW
 obtain⟨k1,C1,e1,a1',b1',iJ⟩:=iH (m:=(x.pp.length:Int)) (k:=j+3) h az az
 obtain⟨ho,mh,_,ih⟩:=pF (zs:=x.pp) (k:=k1) a1' az
 have s6:cB 6 (aJ bf (aG (aJ bf (aH 1) (cS "people"))) (aG (bL cN (aB (aU 0) (aB (cM jc (cF (aG (aJ bf (aH 1) (cS "people"))) cL)) aX))))) (nM b x z a1 b1 n m hs v5 v6 v7 v8 v9 v10) C=aa (.nx,(nM b x z a1 b1 n m hs v5 (aa (.im (.str ho))) v7 v8 v9 v10),C1):=by
  simp_arith[Vb,e1,ih]
 obtain⟨k2,C2,e2,a2,b2,hB2⟩:=iH (m:=21) iJ aR aR
 have m1:jX (.int k2) (.int x.u)=aa (.im (.int (k2*x.u))):=mul_eq (.inl az);have dy:0<=k2*x.u/\k2*x.u<=99980:=⟨aiw a2 hb.u0,by
  have:=aix (show k2<=20 by lia) hb.u1 hb.u0 aR;lia⟩
 generalize k2*x.u=bK at m1 dy;have s7:cB 7 (aJ jX (aG (bL cN (aB (aU 0) (aB (bM (.int 21)) aX)))) (aG (aJ bf (aH 1) (cS "unit")))) (nM b x z a1 b1 n m hs v5 (aa (.im (.str ho))) v7 v8 v9 v10) C1=aa (.nx,(nM b x z a1 b1 n m hs v5 (aa (.im (.str ho))) (aa (.im (.int bK))) v8 v9 v10),C2):=by
  simp_arith[aph,e2,m1]
 obtain⟨l,ll,lm,lz,ec⟩:=aev hb z a1 b1 ho n bK
 obtain⟨k3,C3,e3,a3,b3,hB3⟩:=iH (m:=(x.pp.length:Int)) hB2 az az
 obtain⟨an,ma,_,ia⟩:=pF (zs:=x.pp) (k:=k3) a3 az
 obtain⟨al,hal⟩:∃al,al=l++[ho,an]:=⟨_,rfl⟩
 have arq:al.length=l.length+2:=by rw[hal,fO];rfl
 have alz:∀y∈al,y∈zs:=λy hy=>by
  rw[hal] at hy;rcases cY.mp hy with hy|hy
  .rcases lz y hy with e|e
   .rw[e];exact hb.su _ mh
   .exact e
  .simp only[bW,iT,or_false] at hy;rcases hy with e|e
   .rw[e];exact hb.su _ mh
   .rw[e];exact hb.su _ ma
 have ad:bU (.list (l.map .str)) (.list [.str ho,.str an])=aa (.ow (.list (al.map .str))):=by
  rw[add_l (by rw[bJ];show _+2<=_;lia),hal,iC];rfl
 have s8:cB 8 (aJ bU (aG (bL BX (aB (aU 1) (aB (aU 2) (aB (aU 6) (aB (aU 7) aX)))))) (aG (dR (aB (aU 6) (aB (aJ bf (aG (aJ bf (aH 1) (cS "people"))) (aG (bL cN (aB (aU 0) (aB (cM jc (cF (aG (aJ bf (aH 1) (cS "people"))) cL)) aX))))) aX))))) (nM b x z a1 b1 n m hs v5 (aa (.im (.str ho))) (aa (.im (.int bK))) v8 v9 v10) C2=aa (.nx,(nM b x z a1 b1 n m hs v5 (aa (.im (.str ho))) (aa (.im (.int bK))) (aa (.ow (.list (al.map .str)))) v9 v10),C3):=by
  simp_arith[ec,Vb,e3,ia,ad]
 obtain⟨k4,C4,e4,a4,b4,pQ⟩:=iH (m:=(al.length:Int)) hB3 az az
 obtain⟨sg,mg,_,ig⟩:=pF (zs:=al) (k:=k4) a4 az
 have s9:cB 9 (aJ bf (aH 8) (aG (bL cN (aB (aU 0) (aB (cM jc (cF (aH 8) cL)) aX))))) (nM b x z a1 b1 n m hs v5 (aa (.im (.str ho))) (aa (.im (.int bK))) (aa (.ow (.list (al.map .str)))) v9 v10) C3=aa (.nx,(nM b x z a1 b1 n m hs v5 (aa (.im (.str ho))) (aa (.im (.int bK))) (aa (.ow (.list (al.map .str)))) (aa (.im (.str sg))) v10),C4):=by
  simp_arith[e4,ig]
 have t:=pD (T:=.one) (ft:=Sq) (fe:=Ss) (fs:=[aa (.im (.str ho)),aa (.im (.str sg))]) (C:=C4) dg (Fi ho sg) dg (l:=hs) λh _=>by
  refine⟨[dg h],rfl,?_,λ_=>⟨.im (dg h),_,rfl,rfl⟩⟩
  unfold Fi dg;cases c1:decide (h.1=ho)<;>simp_arith[eG,jn,iU,c1]
 obtain⟨tk,htk⟩:∃tk,tk=hs.filter (Fi ho sg):=⟨_,rfl⟩
 have tkl:tk.length<=hs.length:=by rw[htk];exact ug _ _
 rw[<-htk] at t;have q10:(tk.length<=1000000)=True:=eqT;have nlt:=adg tk;have Zj:cB 10 (gU (iB (aH 4)) .one Sq Ss [6,9]) (nM b x z a1 b1 n m hs v5 (aa (.im (.str ho))) (aa (.im (.int bK))) (aa (.ow (.list (al.map .str)))) (aa (.im (.str sg))) v10) C4=aa (.nx,(nM b x z a1 b1 n m hs v5 (aa (.im (.str ho))) (aa (.im (.int bK))) (aa (.ow (.list (al.map .str)))) (aa (.im (.str sg))) (aa (.ow (.list (tk.map dg))))),C4):=by
  simp_arith[t,q10,nlt]
 have GD:=enil (amm hb (hs:=tk) λh hm=>hk h (by rw[htk] at hm;exact(lB.mp hm).1)) aR;have all:∀(hs':List oU),kZ (lH (dB (aJ jl (aH 10) (aG (dR aX)))) (dB (aJ uY (aG (cM jc (cF (aH 4) cL))) (aH 3)))) (ou 4 (jd (aB (aU 6) (aB (aU 9) (aB (aU 7) aX))))) mR (nM b x z a1 b1 n m hs v5 (aa (.im (.str ho))) (aa (.im (.int bK))) (aa (.ow (.list (al.map .str)))) (aa (.im (.str sg))) (aa (.ow (.list (tk.map dg))))) C4=aa (.nx,(nM b x z a1 b1 n m hs' v5 (aa (.im (.str ho))) (aa (.im (.int bK))) (aa (.ow (.list (al.map .str)))) (aa (.im (.str sg))) (aa (.ow (.list (tk.map dg))))),C4)->
   Lg (nM b x z a1 b1 n m hs v5 v6 v7 v8 v9 v10) C=aa (.nx,(nM b x z a1 b1 n m hs' v5 (aa (.im (.str ho))) (aa (.im (.int bK))) (aa (.ow (.list (al.map .str)))) (aa (.im (.str sg))) (aa (.ow (.list (tk.map dg))))),C4):=λhs' h11=>
  (oR s6).trans ((oR s7).trans ((oR s8).trans ((oR s9).trans ((oR Zj).trans h11))))
 by_cases c:tk=[]/\(hs.length:Int)<m
 .have c2:=eq_true c.2;have Ke:(tk.map dg).isEmpty=aq:=by rw[c.1];rfl
  rw[Ke] at GD;have nt:∀d∈hs,d.1≠ho/\d.2.1≠sg:=λd hd=>by
   have:Fi ho sg d=aM:=by
    cases hc:Fi ho sg d with
    |false=>rfl
    |true=>
     have:d∈tk:=by rw[htk];exact lB.mpr ⟨hd,hc⟩
     rw[c.1] at this;cases this
   unfold Fi at this;simpa using this
  have la:(hs.length<1000000)=True:=eqT;refine gg ⟨hs++[(ho,sg,bK)],_,C4,_,_,_,_,_,all (hs++[(ho,sg,bK)]) ?_,rfl,by rw[fO];show((hs.length+1:Nat):Int)<=m;lia,λd hd=>?_,?_,?_,pQ⟩
  .simp_arith[nM,GD,c2,ou,wJ,la,iC];rfl
  .rcases cY.mp hd with hd|hd
   .exact hk d hd
   .rw[gk.mp hd];exact⟨mh,alz _ mg,dy⟩
  .rw[iC,jF]
   refine⟨n1,ie.mpr ⟨iT,lO⟩,λa ha b hb e=>?_⟩
   obtain⟨d,hd,rfl⟩:=dD.mp ha
   exact(nt d hd).1 (e.trans (gk.mp hb))
  .rw[iC,jF]
   refine⟨n2,ie.mpr ⟨iT,lO⟩,λa ha b hb e=>?_⟩
   obtain⟨d,hd,rfl⟩:=dD.mp ha
   exact(nt d hd).2 (e.trans (gk.mp hb))
 .refine gg ⟨hs,_,C4,_,_,_,_,_,all hs ?_,rfl,hl,hk,n1,n2,pQ⟩;by_cases c1:tk=[]
  .have c2:((hs.length:Int)<m)=False:=eq_false λq=>c ⟨c1,q⟩
   have Ke:(tk.map dg).isEmpty=aq:=by rw[c1];rfl
   rw[Ke] at GD;simp_arith[GD,c2]
  .have Ke:(tk.map dg).isEmpty=aM:=by
    cases tk with
    |nil=>exact absurd rfl c1
    |cons _ _=>rfl
   rw[Ke] at GD;simp_arith[GD]
theorem amn(hb:nF zs x)(m0:0<=m)(m10:m<=10)(h:Bl L C b (j+80)):
  ∃(hs:List oU)(C':Ce),Ia [.ce b,.im (cW x),.im (fX z a1 b1 n),.im (.int m)] C=aa (.ow (.list (hs.map dg)),C')/\(hs.length:Int)<=m/\(∀h∈hs,Fg zs x h)/\(hs.map (·.1)).Nodup/\(hs.map (·.2.1)).Nodup/\Bl L C' b j:=by
 refine hide λGG gg=>?_
 obtain⟨aV,C',e,hs,v5,v6,v7,v8,v9,v10,he,hl,hk,n1,n2,hB⟩:=Hr (g:=eZ 5) (body:=Lg) (aK:=gf 0 (2*m).toNat) (ao:=[aa (.ce b),aa (.im (cW x)),aa (.im (fX z a1 b1 n)),aa (.im (.int m)),aa (.ow (.list [])),aj,aj,aj,aj,aj,aj]) (C:=C)
  (λi ao C1=>∃(hs:List oU)(v5 v6 v7 v8 v9 v10:oVl),ao=(nM b x z a1 b1 n m hs v5 v6 v7 v8 v9 v10)/\(hs.length:Int)<=m/\(∀h∈hs,Fg zs x h)/\(hs.map (·.1)).Nodup/\(hs.map (·.2.1)).Nodup/\Bl L C1 b (j+4*(20-i)))
  ⟨[],aj,aj,aj,aj,aj,aj,rfl,m0,(λ_ m=>nomatch m),lO,lO,h⟩ (λi d ao C1 hd hI=>by
   obtain⟨hs,v5,v6,v7,v8,v9,v10,rfl,hl,hk,n1,n2,hB⟩:=hI
   obtain⟨rfl,hi⟩:=tK hd
   rw[FP j 4 (by lia:i<20)] at hB
   obtain⟨hs',e',C2,w6,w7,w8,w9,w10,e,rfl,q1,q2,q3,q4,hB2⟩:=an5 (z:=z) (a1:=a1) (b1:=b1) (n:=n) (v5:=aa (.im (.int (0+(i:Int))))) (v6:=v6) (v7:=v7) (v8:=v8) (v9:=v9) (v10:=v10) hb m10 hl hk n1 n2 hB
   exact⟨_,.nx,_,C2,rfl,e,.inl rfl,hs',_,w6,w7,w8,w9,w10,rfl,q1,q2,q3,q4,hB2⟩)
 subst he;have mu:jX (.int 2) (.int m)=aa (.im (.int (2*m))):=mul_eq (.inl aR);refine gg ⟨hs,C',gP [aa (.ce b),aa (.im (cW x)),aa (.im (fX z a1 b1 n)),aa (.im (.int m)),aj,aj,aj,aj,aj,aj,aj] rfl rfl ?_ rfl (h.eq hB),hl,hk,n1,n2,hB.mono (Ba _ _)⟩;simp_arith[Vk,mu,jJ,jM,yH (m:=2*m) az az,e]
theorem akT(n:Nat)(a:Bool):zG (n+1) [.im (.bool a),.im (.bool a)] C=aa (.im (.bool aq),C):=by
 refine aqh (k:=2) (n:=2) (en:=[aa (.im (.bool a)),aa (.im (.bool a))]) (e1:=[aa (.im (.bool a)),aa (.im (.bool a))]) rfl rfl ?_ rfl rfl;cases a<;>simp_arith[Ws,qQ,PB,Gf,Pu,isNone,uQ,Px]
theorem an6{α:Type}{f:α->aD}{l:List α}(h:l≠[])(hl:l.length<=1000):∃s∈l,fL (l.map f) (-1)=aa (f s):=by
 have hp:0<l.length:=Kl.mpr h;have hk:l.length-1<l.length:=az
 refine⟨l[l.length-1],xF hk,?_⟩
 unfold fL pN;rw[bH aR,bG (by rw[bJ];lia)];have e:(-1+((l.map f).length:Int)).toNat=l.length-1:=by rw[bJ];lia
 show(l.map f)[_]?=_
 rw[e,jw,jb hk];rfl
section
variable{zs:List Str}{x:j0}{ht:uK}(hb:nF zs x)(hG:uA zs x.ps ht)(hr:ht.ranks=x.rk)(hl:ht.leaves=x.lv){z a1 b1:Str}{n:Int}{b:Nat}
abbrev gh(b:Nat)(x:j0)(ht:uK)(z a1 b1:Str)(n:Int)(v4 v5 v6 v7 v8 v9 v10:oVl):En:=[aa (.ce b),aa (.im (cW x)),aa (.im (jW ht)),aa (.im (fX z a1 b1 n)),v4,v5,v6,v7,v8,v9,v10]
include hb hG hr hl
theorem acj:∀(ss:List jH)(v8 v9 v10:oVl),∃w8 w9,jY (eZ 8) Lj (ss.map cQ) (gh b x ht z a1 b1 n v4 v5 v6 (aa (.im (dg h))) v8 v9 v10) C=aa (.nx,gh b x ht z a1 b1 n v4 v5 v6 (aa (.im (dg h))) w8 w9 v10,C)
 |[],v8,v9,v10=>⟨v8,v9,rfl⟩
 |s::ss,v8,v9,v10=>by
  obtain⟨w8,w9,e⟩:=acj (C:=C) (h:=h) (v4:=v4) (v5:=v5) (v6:=v6) ss (aa (.im (cQ s))) (aa (.im (.bool (oZ x z a1 b1 n s h)))) v10
  refine⟨w8,w9,?_⟩
  have m1:=aew (C:=C) hb z a1 b1 n s h;have m2:=abF (C:=C) hb.names hb.parts hG hr hl z a1 b1 n s h;have sb:=akT (C:=C) 2 (oZ x z a1 b1 n s h);have q:Lj (gh b x ht z a1 b1 n v4 v5 v6 (aa (.im (dg h))) (aa (.im (cQ s))) v9 v10) C=aa (.nx,gh b x ht z a1 b1 n v4 v5 v6 (aa (.im (dg h))) (aa (.im (cQ s))) (aa (.im (.bool (oZ x z a1 b1 n s h)))) v10,C):=by
   simp only[gh];simp_arith[Lj,m1,m2,sb]
  rw[dN,jY,<-e];simp only[gh,eZ,Ax,Ay] at q⊢;simp only[q]
theorem ack{ss:List jH}:∀(hs:List oU)(v5:Vl)(v7 v8 v9 v10:oVl),(v5=.ow (.list (ss.map cQ))\/v5=.im (.list (ss.map cQ)))->∃w5 w7 w8 w9,(w5=.ow (.list (ss.map cQ))\/w5=.im (.list (ss.map cQ)))/\jY (eZ 7) Hg (hs.map dg) (gh b x ht z a1 b1 n v4 (aa v5) v6 v7 v8 v9 v10) C=aa (.nx,gh b x ht z a1 b1 n v4 (aa w5) v6 w7 w8 w9 v10,C)
 |[],v5,v7,v8,v9,v10,hv=>⟨v5,v7,v8,v9,hv,rfl⟩
 |h::hs,v5,v7,v8,v9,v10,hv=>by
  obtain⟨u8,u9,e1⟩:=acj (C:=C) hb hG hr hl (z:=z) (a1:=a1) (b1:=b1) (n:=n) (b:=b) (h:=h) (v4:=v4) (v5:=aa (.im (.list (ss.map cQ)))) (v6:=v6) ss v8 v9 v10
  obtain⟨w5,w7,w8,w9,hw,e2⟩:=ack (C:=C) (v4:=v4) (v6:=v6) (ss:=ss) hs (.im (.list (ss.map cQ))) (aa (.im (dg h))) u8 u9 v10 (.inr rfl)
  refine⟨w5,w7,w8,w9,hw,?_⟩
  have q:Hg (gh b x ht z a1 b1 n v4 (aa v5) v6 (aa (.im (dg h))) v8 v9 v10) C=aa (.nx,gh b x ht z a1 b1 n v4 (aa (.im (.list (ss.map cQ)))) v6 (aa (.im (dg h))) u8 u9 v10,C):=by
   simp only[gh] at e1⊢;rcases hv with rfl|rfl<;>simp_arith[Hg,jJ,e1]
  rw[dN,jY,<-e2];simp only[gh,eZ,Ax,Ay] at q⊢;simp only[q]
theorem apr{ss:List jH}(hs:List oU)(is:fL (ss.map cQ) (-1)=aa (cQ s)):lJ .one gF Li [aa (.im (jW ht)),aa (.im (fX z a1 b1 n)),aa (.im (.list (ss.map cQ)))] (hs.map dg) C=aa ((hs.map (oZ x z a1 b1 n s)).map .bool,C):=by
 have t:=pD (T:=.one) (ft:=gF) (fe:=Li) (fs:=[aa (.im (jW ht)),aa (.im (fX z a1 b1 n)),aa (.im (.list (ss.map cQ)))]) (C:=C) dg (λ_=>aq) (λh=>.bool (oZ x z a1 b1 n s h)) (l:=hs) λh _=>by
  have m2:=abF (C:=C) hb.names hb.parts hG hr hl z a1 b1 n s h
  refine⟨[dg h],rfl,rfl,λ_=>⟨.im (.bool (oZ x z a1 b1 n s h)),[aa (.im (dg h)),aa (.im (jW ht)),aa (.im (fX z a1 b1 n)),aa (.im (.list (ss.map cQ)))],?_,rfl⟩⟩
  simp_arith[eG,jn,iU,is,m2]
 rw[GF.mpr λ_ _=>rfl] at t;rw[fD];exact t
omit hG hr hl in
theorem aqv{ss:List jH}(hs:List oU)(is:fL (ss.map cQ) (-1)=aa (cQ s)):lJ .one gF Lh [aa (.im (cW x)),aa (.im (fX z a1 b1 n)),aa (.im (.list (ss.map cQ)))] (hs.map dg) C=aa ((hs.map (oZ x z a1 b1 n s)).map .bool,C):=by
 have t:=pD (T:=.one) (ft:=gF) (fe:=Lh) (fs:=[aa (.im (cW x)),aa (.im (fX z a1 b1 n)),aa (.im (.list (ss.map cQ)))]) (C:=C) dg (λ_=>aq) (λh=>.bool (oZ x z a1 b1 n s h)) (l:=hs) λh _=>by
  have m2:=aew (C:=C) hb z a1 b1 n s h
  refine⟨[dg h],rfl,rfl,λ_=>⟨.im (.bool (oZ x z a1 b1 n s h)),[aa (.im (dg h)),aa (.im (cW x)),aa (.im (fX z a1 b1 n)),aa (.im (.list (ss.map cQ)))],?_,rfl⟩⟩
  simp_arith[eG,jn,iU,is,m2]
 rw[GF.mpr λ_ _=>rfl] at t;rw[fD];exact t
end
theorem ajT{C:Ce}{b L j:Nat}{x:j0}{ht:uK}{z a1 b1:Str}{n:Int}{ss:List jH}(hb:nF zs x)(hl:ss.length<=100)(h:Bl L C b (j+6)):
  ∃(ss':List jH)(w6:oVl)(C':Ce),jY (eZ 6) Ec (gf 0 3) (gh b x ht z a1 b1 n v4 (aa (.ow (.list (ss.map cQ)))) aj v7 v8 v9 v10) C=aa (.nx,gh b x ht z a1 b1 n v4 (aa (.ow (.list (ss'.map cQ)))) w6 v7 v8 v9 v10,C')/\ss'.length=ss.length+3/\Bl L C' b j:=by
 obtain⟨aV,C',e,ss',w6,he,hl',hB⟩:=Hr (g:=eZ 6) (body:=Ec) (aK:=gf 0 3) (ao:=gh b x ht z a1 b1 n v4 (aa (.ow (.list (ss.map cQ)))) aj v7 v8 v9 v10) (C:=C)
  (λi ao C1=>∃(ss':List jH)(w6:oVl),ao=gh b x ht z a1 b1 n v4 (aa (.ow (.list (ss'.map cQ)))) w6 v7 v8 v9 v10/\ss'.length=ss.length+i/\Bl L C1 b (j+2*(3-i)))
  ⟨ss,aj,rfl,rfl,h⟩ (λi d ao C1 hd hI=>by
   obtain⟨ss',w6,rfl,hl',hB⟩:=hI
   obtain⟨rfl,hi⟩:=tK hd
   have p1:=hb.p1;have p8:=hb.p8;rw[FP j 2 (by lia:i<3)] at hB
   obtain⟨k1,C2,e1,a1,b1,iJ⟩:=iH (m:=4) hB aR aR
   obtain⟨q,iq,q1,q9⟩:=afr a1 b1
   obtain⟨k2,C3,e2,a2,b2,hB2⟩:=iH (m:=(x.ps.length:Int)) iJ az az
   have so:=zA x.ps az;have ln:=Wf x.ps
   obtain⟨sp,hsp⟩:∃sp,sp=mG strLt (x.ps.map (·.1)):=⟨_,rfl⟩
   have lA:sp.Perm (x.ps.map (·.1)):=by rw[hsp];exact rE _
   have Aq:sp.length=x.ps.length:=by rw[lA.length_eq,bJ]
   rw[<-hsp] at so
   obtain⟨pt,mp,_,ip⟩:=pF (zs:=sp) (k:=k2) a2 az
   have g:(ss'.length<1000000)=True:=eqT
   refine⟨_,.nx,gh b x ht z _ _ n v4 (aa (.ow (.list ((ss'++[(q,pt)]).map cQ)))) (aa (.im (.int (0+i)))) v7 v8 v9 v10,C3,rfl,?_,.inl rfl,ss'++[(q,pt)],_,rfl,by rw[fO,hl'];rfl,hB2⟩
   simp only[gh];simp_arith[Ec,e1,iq,NB,so,ln,e2,ip,ou,wJ,g,iC];rfl)
 rw[vX] at hl' hB;subst he
 exact⟨ss',w6,C',e,hl',hB.mono (Ba _ _)⟩
theorem adh(h6:∀r∈rs,r.2.2.length<=6):∀{os:List Str}{ss:List jH},Pj rs z n os ss->ss.length<=6
 |[],ss,h=>by rw[show ss=[] from h];exact lC _
 |o::os,ss,h=>by
  rcases h with⟨_,h⟩|⟨_,h⟩
  .rcases h with⟨_,rfl⟩|⟨r,hr,_,_,_,rfl⟩
   .exact lC _
   .rw[bJ];exact h6 r hr
  .exact adh h6 h
theorem amo(l:List Bool):jN 1 (.list (l.map .bool)):=O6 λd hd=>by
 obtain⟨i,_,rfl⟩:=dD.mp hd
 exact anJ i
theorem adi:∀l:List Bool,dY (l.map ajf)=aq
 |[]=>rfl
 |_::l=>by show(aq&&dY (l.map ajf))=aq;rw[adi l];rfl
theorem adk(hb:nF zs x)(h:Bl L C b (j+91)):∃C',Ib [.ce b,.im (cW x)] C=aa (.im (.bool aq),C')/\Bl L C' b j:=by
 refine hide λGG gg=>?_
 obtain⟨ht,hG,hr,hl,_,eh⟩:=amc hb
 obtain⟨z,a1,b1,n,C1,e1,zo,_,_,n0,n1,iJ⟩:=aml (j:=j+86) hb h
 have s1:qm [2,3] (mU (bL BJ (aB (aU 1) aX)) (mU (bL H9 (aB (aU 0) (aB (aU 1) aX))) aX)) [aa (.ce b),aa (.im (cW x)),aj,aj,aj,aj,aj,aj,aj,aj,aj] C=aa (.nx,gh b x ht z a1 b1 n aj aj aj aj aj aj aj,C1):=by
  simp only[gh];have e1':=e1;simp_arith[eh,e1]
 obtain⟨hs,C2,e2,hl2,hk,_,_,hB2⟩:=amn (z:=z) (a1:=a1) (b1:=b1) (n:=n) (m:=10) (j:=j+6) hb aR aR iJ
 have s2:cB 4 (bL Ia (aB (aU 0) (aB (aU 1) (aB (aU 3) (aB (bM (.int 10)) aX))))) (gh b x ht z a1 b1 n aj aj aj aj aj aj aj) C1=aa (.nx,gh b x ht z a1 b1 n (aa (.ow (.list (hs.map dg)))) aj aj aj aj aj aj,C2):=by
  simp only[gh];simp_arith[e2]
 obtain⟨ss,ho,eo⟩:=an2 hb z n
 have s6:=adh (λr hr=>(hb.rules r hr).many) ho;have s3:cB 5 (bL Io (aB (aU 1) (aB (aJ bf (aH 3) (cI 0)) (aB (aJ bf (aH 3) (cI 1)) aX)))) (gh b x ht z a1 b1 n (aa (.ow (.list (hs.map dg)))) aj aj aj aj aj aj) C2=aa (.nx,gh b x ht z a1 b1 n (aa (.ow (.list (hs.map dg)))) (aa (.ow (.list (ss.map cQ)))) aj aj aj aj aj,C2):=by
  simp only[gh];simp_arith[eo]
 obtain⟨ss',w6,C3,e4,l4,hB3⟩:=ajT (j:=j) (ht:=ht) (z:=z) (a1:=a1) (b1:=b1) (n:=n) (v4:=aa (.ow (.list (hs.map dg)))) (v7:=aj) (v8:=aj) (v9:=aj) (v10:=aj) (ss:=ss) hb az hB2
 have s4:jJ (jM (cI 3)) (eZ 6) Ec (gh b x ht z a1 b1 n (aa (.ow (.list (hs.map dg)))) (aa (.ow (.list (ss.map cQ)))) aj aj aj aj aj) C2=aa (.nx,gh b x ht z a1 b1 n (aa (.ow (.list (hs.map dg)))) (aa (.ow (.list (ss'.map cQ)))) w6 aj aj aj aj,C3):=by
  have e4:jY (eZ 6) Ec (gf 0 (Int.toNat 3)) _ _=_:=e4;unfold jJ;simp_arith[jM,yH (m:=3) az az,e4]
 obtain⟨w5,w7,w8,w9,hw,e5⟩:=ack (C:=C3) hb hG hr hl (z:=z) (a1:=a1) (b1:=b1) (n:=n) (b:=b) (v4:=aa (.im (.list (hs.map dg)))) (v6:=w6) (ss:=ss') hs (.ow (.list (ss'.map cQ))) aj aj aj aj (.inl rfl)
 have s5:jJ (iV (aU 4)) (eZ 7) Hg (gh b x ht z a1 b1 n (aa (.ow (.list (hs.map dg)))) (aa (.ow (.list (ss'.map cQ)))) w6 aj aj aj aj) C3=aa (.nx,gh b x ht z a1 b1 n (aa (.im (.list (hs.map dg)))) (aa w5) w6 w7 w8 w9 aj,C3):=by
  simp only[gh] at e5⊢;simp_arith[jJ,e5]
 obtain⟨s,_,is⟩:=an6 (f:=cQ) (l:=ss') (λe=>by rw[e] at l4;simp at l4) az
 have c1:=apr (C:=C3) hb hG hr hl (z:=z) (a1:=a1) (b1:=b1) (n:=n) hs is;have c2:=aqv (C:=C3) hb (z:=z) (a1:=a1) (b1:=b1) (n:=n) hs is
 obtain⟨bs,hbs⟩:∃bs,bs=hs.map (oZ x z a1 b1 n s):=⟨_,rfl⟩
 rw[<-hbs] at c1 c2;have bl:bs.length<=10:=by rw[hbs,bJ];lia
 have q:(bs.length<=1000000)=True:=eqT;have nl:=adi bs;have s6:cB 10 (gU (iB (aH 4)) .one gF Li [2,3,5]) (gh b x ht z a1 b1 n (aa (.im (.list (hs.map dg)))) (aa w5) w6 w7 w8 w9 aj) C3=aa (.nx,gh b x ht z a1 b1 n (aa (.im (.list (hs.map dg)))) (aa w5) w6 w7 w8 w9 (aa (.ow (.list (bs.map .bool)))),C3):=by
  simp only[gh];rcases hw with rfl|rfl<;>simp_arith[c1,q,nl]
 have s7:cB 9 (gU (iB (aH 4)) .one gF Lh [1,3,5]) (gh b x ht z a1 b1 n (aa (.im (.list (hs.map dg)))) (aa w5) w6 w7 w8 w9 (aa (.ow (.list (bs.map .bool))))) C3=aa (.nx,gh b x ht z a1 b1 n (aa (.im (.list (hs.map dg)))) (aa w5) w6 w7 w8 (aa (.ow (.list (bs.map .bool)))) (aa (.ow (.list (bs.map .bool)))),C3):=by
  simp only[gh];rcases hw with rfl|rfl<;>simp_arith[c2,q,nl]
 have eq1:=acd (amo bs) aR rfl;have eq2:=acd (alQ hb.names.2 hb.parts hG) aR rfl;have s8:gb (uQ (aJ jl (aH 10) (aH 9)) (aJ jl (aH 2) (aG (bL BJ (aB (aU 1) aX))))) (gh b x ht z a1 b1 n (aa (.im (.list (hs.map dg)))) (aa w5) w6 w7 w8 (aa (.ow (.list (bs.map .bool)))) (aa (.ow (.list (bs.map .bool))))) C3=aa (.rt (.im (.bool aq)),gh b x ht z a1 b1 n (aa (.im (.list (hs.map dg)))) (aa w5) w6 w7 w8 (aa (.ow (.list (bs.map .bool)))) (aa (.ow (.list (bs.map .bool)))),C3):=by
  simp only[gh];simp_arith[uQ,eq1,eh,eq2]
 refine gg ⟨C3,gP [aa (.ce b),aa (.im (cW x)),aj,aj,aj,aj,aj,aj,aj,aj,aj] rfl rfl ?_ rfl (h.eq hB3),hB3⟩;have fin:Vm [aa (.ce b),aa (.im (cW x)),aj,aj,aj,aj,aj,aj,aj,aj,aj] C=aa (.rt (.im (.bool aq)),gh b x ht z a1 b1 n (aa (.im (.list (hs.map dg)))) (aa w5) w6 w7 w8 (aa (.ow (.list (bs.map .bool)))) (aa (.ow (.list (bs.map .bool)))),C3):=
  (oR s1).trans ((oR s2).trans ((oR s3).trans ((oR s4).trans ((oR s5).trans ((oR s6).trans ((oR s7).trans s8))))))
 rw[fin];rfl
theorem amq(ns:List Int)(h:ns.length<=63):∃C',FZ [.sc ns] []=aa (.im (.bool aq),C'):=by
 obtain⟨m,hm,m1,m2⟩:∃m:Int,(1+if(ns.length:Int)<4 then(ns.length:Int) else 4)=m/\0<=m/\m<=5:=⟨_,rfl,by split<;>lia,by split<;>lia⟩
 obtain⟨aV,C',e,he⟩:=Hr (g:=eZ 1) (body:=Vn) (aK:=gf 0 m.toNat) (ao:=[aa (.sc ns),aj,aj,aj]) (C:=[])
  (λi ao C1=>∃v1 v2 v3,ao=[aa (.sc ns),v1,v2,v3]) ⟨_,_,_,rfl⟩ (λi d ao C1 hd hI=>by
   obtain⟨v1,v2,v3,rfl⟩:=hI
   obtain⟨rfl,hi⟩:=tK hd
   refine hide λGG gg=>?_
   obtain⟨x,y,hb,x0⟩:=anQ (C:=C1) (ns:=ns) (k:=0+(i:Int)) az az
   have hB:=ao7 (y:=y) C1 x0
   obtain⟨t,C2,e2,t0,t1,hB2⟩:=iH (m:=6) (k:=799999) hB aR aR
   obtain⟨zs,bx,C3,e3,ok,_,hB3⟩:=amb (g:=(t==0)) (j:=799499) hB2
   obtain⟨C4,e4,pQ⟩:=adk (j:=799408) ok hB3
   obtain⟨C5,e5,Dl⟩:=adk (j:=799317) ok pQ
   refine gg ⟨_,.nx,[aa (.sc ns),aa (.im (.int (0+(i:Int)))),aa (.ce C1.length),aa (.im (cW bx))],C5,rfl,?_,.inl rfl,_,_,_,rfl⟩;simp_arith[Vn,Jz,hb,intsOf,e2,e3,e4,e5])
 refine⟨C'.take 0,?_⟩
 unfold FZ fN;rw[bG (show[Vl.sc ns].length=1 from rfl),show([Vl.sc ns].map aa++fP (4-[Vl.sc ns].length) aj)=[aa (.sc ns),aj,aj,aj] from rfl];simp_arith[XQ,jJ,jM,zU,Cm,hm,yH (m:=m) az az,e,Fx]
theorem all_mk{l:aaf}{w:c7}{h:cg}{fa:aC}(X:K.In h)(G:h.Ns jz mg)(hfa:mg "law"=aa (.ref fa))
  (d0:gR K "parts_over" K4)
  (d1:gR K "row_of" Vd)
  (d2:gR K "is_side" T6)
  (d3:gR K "ways_on" Ml)
  (d4:gR K "first_row" R7)
  (d5:gR K "nearer_way" K5)
  (d6:gR K "steps_to" Ls)
  (d7:gR K "rank_of" Mm)
  (d8:gR K "may_fill" S7)
  (d9:gR K "_law_mix" Xk)
  (d10:gR K "_law_left" Wj)
  (d11:gR K "_law_pick" Wk)
  (d12:gR K "_law_same" Im)
  (d13:gR K "_law_names" Ek)
  (d14:gR K "_law_days" Wl)
  (d15:gR K "_law_sum" Xl)
  (d16:gR K "_law_leaf" Wm)
  (d17:gR K "_law_seats" Ve)
  (d18:gR K "_law_drawn" MN)
  (d19:gR K "_law_house" HR)
  (d20:gR K "_law_over" Wn)
  (d21:gR K "_law_rank" NP)
  (d22:gR K "_law_owed" Eu)
  (d23:gR K "_law_lets" NQ)
  (d24:gR K "_law_come" Wo)
  (d25:gR K "_law_paper" MP)
  (d26:gR K "_law_hands" MT)
  (d27:gR K "_law_may" Xm)
  (d28:gR K "_law_right" HW)
  (d29:gR K "law" XJ)
  (PX:qz K jz "abs"=aa aj)
  (XM:qz K jz "all"=aa aj)
  (Jf:qz K jz "bool"=aa aj)
  (wN:qz K jz "int"=aa aj)
  (qC:qz K jz "isinstance"=aa aj)
  (lK:qz K jz "len"=aa aj)
  (Jg:qz K jz "list"=aa aj)
  (CN:qz K jz "max"=aa aj)
  (Jr:qz K jz "min"=aa aj)
  (p7:qz K jz "range"=aa aj)
  (qF:qz K jz "sorted"=aa aj)
  (Js:qz K jz "str"=aa aj)
  (vY:qz K jz "tuple"=aa aj)
  (XN:qz K jz "zip"=aa aj)
  :∃fd:vR,(∀(s:bh)(v:aN),Em s fd ⟨[v],[]⟩ [("_law_script",v)])/\∀base:cg,K.In base->base.Ns jz mg->fK l.prog w K mg base fU 6 fa fd ["_law_script"] (spT K FZ):=by
 have T:Txt K mg:=⟨rB X G PX,rB X G XM,rB X G Jf,rB X G wN,rB X G qC,rB X G lK,rB X G Jg,rB X G CN,rB X G Jr,rB X G p7,rB X G qF,rB X G Js,rB X G vY,rB X G XN⟩
 refine d29.law X G hfa (λbase f fd F=>?_) (λ_ _ _ _ _ _=>(cC λ_=>(ju rfl)));have DQ:=d0.has X G (λf fd F=>aiJ (P:=l.prog) (w:=w) (base:=base) F T) (λ_ _ _ _ _ _=>(cC λ_=>(cC λ_=>(ju rfl))));have zp:=d2.has X G (λf fd F=>ajP (P:=l.prog) (w:=w) (base:=base) F T) (λ_ _ _ _ _ _=>(cC λ_=>(cC λ_=>(ju rfl))));have Ub:=d3.has X G (λf fd F=>ajQ (P:=l.prog) (w:=w) (base:=base) F T DQ zp) (λ_ _ _ _ _ _=>(cC λ_=>(cC λ_=>(cC λ_=>(ju rfl)))));have RV:=d5.has X G (λf fd F=>aiK (P:=l.prog) (w:=w) (base:=base) F T) (λ_ _ _ _ _ _=>(cC λ_=>(cC λ_=>(cC λ_=>(ju rfl)))));have Th:=d6.has X G (λf fd F=>ajc (P:=l.prog) (w:=w) (base:=base) F T) (λ_ _ _ _ _ _=>(cC λ_=>(cC λ_=>(ju rfl))));have Su:=d4.has X G (λf fd F=>ai0 (P:=l.prog) (w:=w) (base:=base) F T RV Th) (λ_ _ _ _ _ _=>(cC λ_=>(cC λ_=>(cC λ_=>(ju rfl)))));have Vo:=d1.has X G (λf fd F=>akE (P:=l.prog) (w:=w) (base:=base) F T zp Ub Su) (λ_ _ _ _ _ _=>(cC λ_=>(cC λ_=>(cC λ_=>(cC λ_=>(cC λ_=>(ju rfl)))))));have Uc:=d7.has X G (λf fd F=>ajR (P:=l.prog) (w:=w) (base:=base) F T DQ) (λ_ _ _ _ _ _=>(cC λ_=>(cC λ_=>(cC λ_=>(cC λ_=>(ju rfl))))));have LK:=d8.has X G (λf fd F=>ajd (P:=l.prog) (w:=w) (base:=base) F T Vo Uc) (λ_ _ _ _ _ _=>(cC λ_=>(cC λ_=>(cC λ_=>(cC λ_=>(ju rfl))))));have O9:=d9.has X G (λf fd F=>anN (P:=l.prog) (w:=w) (base:=base) F T) (λ_ _ _ _ _ _=>(cC λ_=>(cC λ_=>(ju rfl))));have WK:=d10.has X G (λf fd F=>alS (P:=l.prog) (w:=w) (base:=base) F T) (λ_ _ _ _ _ _=>(cC λ_=>(cC λ_=>(ju rfl))));have dw:=d11.has X G (λf fd F=>alT (P:=l.prog) (w:=w) (base:=base) F T O9) (λ_ _ _ _ _ _=>(cC λ_=>(cC λ_=>(ju rfl))));have Ip:=d12.arc X G (λf fd hm hk hb F=>ace (P:=l.prog) (w:=w) (base:=base) hm hk hb F T 3) (λ_ _ _ _ _ _=>(cC λ_=>(cC λ_=>(ju rfl))));have Vp:=d13.has X G (λf fd F=>akF (P:=l.prog) (w:=w) (base:=base) F T dw) (λ_ _ _ _ _ _=>(cC λ_=>(cC λ_=>(ju rfl))));have Ew:=d14.has X G (λf fd F=>alV (P:=l.prog) (w:=w) (base:=base) F T dw) (λ_ _ _ _ _ _=>(cC λ_=>(cC λ_=>(ju rfl))));have wH:=d15.has X G (λf fd F=>anO (P:=l.prog) (w:=w) (base:=base) F T dw) (λ_ _ _ _ _ _=>(cC λ_=>(cC λ_=>(ju rfl))));have Wx:=d16.has X G (λf fd F=>alW (P:=l.prog) (w:=w) (base:=base) F T dw Ew wH) (λ_ _ _ _ _ _=>(cC λ_=>(cC λ_=>(cC λ_=>(ju rfl)))));have Vq:=d17.has X G (λf fd F=>akG (P:=l.prog) (w:=w) (base:=base) F T dw) (λ_ _ _ _ _ _=>(cC λ_=>(cC λ_=>(cC λ_=>(ju rfl)))));have tO:=d20.has X G (λf fd F=>alX (P:=l.prog) (w:=w) (base:=base) F T) (λ_ _ _ _ _ _=>(cC λ_=>(cC λ_=>(ju rfl))));have Vt:=d18.has X G (λf fd F=>akH (P:=l.prog) (w:=w) (base:=base) F T dw Vp Ew wH Wx Vq tO) (λ_ _ _ _ _ _=>(cC λ_=>(cC λ_=>(ju rfl))));have M8:=d19.has X G (λf fd F=>akI (P:=l.prog) (w:=w) (base:=base) F T) (λ_ _ _ _ _ _=>(cC λ_=>(ju rfl)));have Wz:=d21.has X G (λf fd F=>alY (P:=l.prog) (w:=w) (base:=base) F T tO) (λ_ _ _ _ _ _=>(cC λ_=>(cC λ_=>(cC λ_=>(cC λ_=>(ju rfl))))));have WD:=d22.has X G (λf fd F=>alZ (P:=l.prog) (w:=w) (base:=base) F T tO) (λ_ _ _ _ _ _=>(cC λ_=>(cC λ_=>(cC λ_=>(ju rfl)))));have Wy:=d23.has X G (λf fd F=>al0 (P:=l.prog) (w:=w) (base:=base) F T tO) (λ_ _ _ _ _ _=>(cC λ_=>(cC λ_=>(cC λ_=>(ju rfl)))));have Ex:=d24.has X G (λf fd F=>al1 (P:=l.prog) (w:=w) (base:=base) F T Wy) (λ_ _ _ _ _ _=>(cC λ_=>(cC λ_=>(cC λ_=>(cC λ_=>(ju rfl))))));have Vr:=d25.has X G (λf fd F=>akJ (P:=l.prog) (w:=w) (base:=base) F T dw wH) (λ_ _ _ _ _ _=>(cC λ_=>(cC λ_=>(ju rfl))));have Vs:=d26.has X G (λf fd F=>akK (P:=l.prog) (w:=w) (base:=base) F T dw Ex) (λ_ _ _ _ _ _=>(cC λ_=>(cC λ_=>(cC λ_=>(cC λ_=>(ju rfl))))));have Pa:=d27.has X G (λf fd F=>anP (P:=l.prog) (w:=w) (base:=base) F T Wz Ex) (λ_ _ _ _ _ _=>(cC λ_=>(cC λ_=>(cC λ_=>(cC λ_=>(ju rfl))))));have M9:=d28.has X G (λf fd F=>akL (P:=l.prog) (w:=w) (base:=base) F T LK dw Ip M8 WD Vr Vs Pa) (λ_ _ _ _ _ _=>(cC λ_=>(cC λ_=>(ju rfl))));exact apj F T WK dw Vt M9
theorem walk{l:aaf}{q:fj}{loose:List Str}{d:DefRec}{K:Params->aZ}(hn:l.most=aa 63)(hdf:d.params.defaults=[])
  (hY:∀(w:c7)(h:cg),YP w h->(K w.params).In h)
  (F:∀(w:c7)(mg:Str->Option aN)(fa:aC)(h:cg),(K w.params).In h->h.Ns jz mg->mg d.name=aa (.ref fa)->
   ∃fd:vR,(∀(s:bh)(u:aN),Em s fd ⟨[u],[]⟩ [("_law_script",u)])/\∀base:cg,(K w.params).In base->base.Ns jz mg->fK l.prog w (K w.params) mg base fU 6 fa fd ["_law_script"] (spT (K w.params) FZ)):
  aiA q loose XP YP l.row.toRowW d [] (λf vs=>abm f vs):=
 L2.amG (n:=63) (k:=6) (x:="_law_script") (CX:=λ_=>fU) (sp:=λw=>spT (K w.params) FZ) hn aR hdf ⟨rfl,aR,aR,rfl⟩ hY F (λ_ _ a ns hl _ hS=>let ⟨_,h⟩:=amq ns hl;aoU hS h) λ_ _ _ _ _ z=>z
end Ze
namespace PySem.W.Fast
def tw11125937203178060205:=0
def tw11237745454711285227:=0
def tw11484572011715763862:=0
def tw11673901906590852525:=0
def tw11767385943991068750:=0
def tw11818181517649509973:=0
def tw12048559176824229287:=0
def tw12081253089386421125:=0
def tw12101842988046755809:=0
def tw12221006700983287528:=0
def tw1232495147783320613:=0
def tw12515011500765970766:=0
def tw12585974328238906151:=0
def tw1295138289984980231:=0
def tw12996275016755229295:=0
def tw1318464933023782147:=0
def tw13359199620754769977:=0
def tw1368976428120037494:=0
def tw13899354079187789861:=0
def tw14004874885447820984:=0
def tw1419108993503911855:=0
def tw1422746026789252927:=0
def tw14368007789878922124:=0
def tw14407984837921114177:=0
def tw15487573128448201380:=0
def tw15616098672140562391:=0
def tw15948388505149430453:=0
def tw164374550958514830:=0
def tw1701369362457523461:=0
def tw17385862224866728438:=0
def tw17611724328989579630:=0
def tw17789005919146087253:=0
def tw17813223822540250939:=0
def tw17965637413237063048:=0
def tw18182571611760097744:=0
def tw18189526947770099202:=0
def tw18376934161156781927:=0
def tw2038372410883368331:=0
def tw2095514905329700924:=0
def tw2479603646031569837:=0
def tw2495978753330693720:=0
def tw2525785310829978107:=0
def tw3067688326237985387:=0
def tw3269647670462175184:=0
def tw3456220572734163126:=0
def tw3577258618168726891:=0
def tw3687714183893319201:=0
def tw3805609789225919313:=0
def tw3968019641977195835:=0
def tw4127943900064353100:=0
def tw4819981118812419644:=0
def tw4918155320272175407:=0
def tw5632507825682409727:=0
def tw5673572070369120576:=0
def tw5692214729931897498:=0
def tw5703761566333873379:=0
def tw579947292675333368:=0
def tw5833732851126897309:=0
def tw6212391701171297747:=0
def tw6681589803979937582:=0
def tw7076597331516716650:=0
def tw7210718546138025296:=0
def tw7583730465099088264:=0
def tw765160019375063929:=0
def tw800506841539788905:=0
def tw8685830657605057785:=0
def tw8861066958542722338:=0
def tw8861991345063860909:=0
def tw9034843247359039935:=0
def tw9320502094981260705:=0
def tw951605289954445671:=0
end PySem.W.Fast
open PySem PySem.W PyProof.Rows
set_option maxRecDepth 100000 in
set_option maxHeartbeats 0 in
theorem PySem.Challenge.cw_rankseals_k25_who_may_fill_holds : PySem.Challenge.rw_rankseals_k25_who_may_fill.Holds := by
 w_on;o_law;k_head;(case hw=>w_witness2)
 k_fill
 refine Ze.walk (l:=PySem.Challenge.rw_rankseals_k25_who_may_fill) rfl rfl (λw h Y=>PySem.W.kIn_of Y) ?F
 case F=>
  intro w mg fa h KX G hmg
  refine' Ze.all_mk KX G hmg ?_ ?_ ?_ ?_ ?_ ?_ ?_ ?_ ?_ ?_ ?_ ?_ ?_ ?_ ?_ ?_ ?_ ?_ ?_ ?_ ?_ ?_ ?_ ?_ ?_ ?_ ?_ ?_ ?_ ?_ ?_ ?_ ?_ ?_ ?_ ?_ ?_ ?_ ?_ ?_ ?_ ?_ ?_ ?_
  all_goals try first|exact .mk (by k_is) (by k_is) (by k_is) (by k_is)|k_is
