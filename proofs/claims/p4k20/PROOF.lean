import PyProof.Rows.All
import Wide.All
import OpenK.AllK
import Wide.FinOn
import Lean
import PyProof.EqAt
import PyProof.EqKinds
import PyProof.TupleCall
import PySem.Challenge.RW_rankseals_k20_leaves_in_all_rows
set_option Elab.async false
set_option linter.all false
set_option maxRecDepth 100000
set_option maxHeartbeats 4000000
set_option autoImplicit true
open PySem.Value renaming isInt->ahq,isStrOf->YM,int->JL,str->JM,isStrOf_shape->afF,none->mX,bool->qQ,float->Zq,ref->dH,type->Ek,notImplemented->Xo
open PySem renaming World->bI,Program->bL,KeyKind->za,Addr->aq,Heap->bC,sizeLine->cu,sysModules->qR,tupleKind->Em,Within->agY,mainGlobals->iM,bootBuiltins->uv,Around->cM,Shared->aD,Scope->jO,Drawn->zL,wpAny->aR,backTo->gH,starEach->bJ,Stmt->dM,wpAny_mono->pN,wpAny_Name->ZD,wpAny_loadName_local->afy,wpAny_loadName_cell->afG,wpAny_truthy_bool->wN,wpAny_execs_nil->Om,wpAny_execs_cons->aga,swapsWith->ux,assignInOrder->DW,assignEach->rT,wpAny_assign_Name->Ih,holding->qX,standAt->uC,wpAny_bind->aG,wpAny_holding->mV,wpAny_standAt->vh,swapsWithSole->wX,swappedStores->wY,wpAny_pure->bh,wpAny_newObj_type->mQ,bindName->vq,wpAny_rule->zj,wpAny_bindName->Iv,PassesOwn->QS,wpAny_passesOwn->Aw,pyNext->nD,letOwnedTupleGo->yU,pyIter->Cd,wpAny_load->Jy,rawInt->je,wpAny_pyIter_list->XF,foldedSetIterable->vf,binaryOp->qj,compareOp->fU,behindInMarks->DX,lastMarks->QT,sizeLine_eq->iK,cLine->gj,Result->sH,FuncData->dZ,BindsTo->zu,codeAny->mC,codeAny_mono->Je,wpAny_Call_Name_kw->H9,Keyword->oh,NameKind->Bv,bindL->zM,bindC->zN,mem_of_lookup->wK,concat_meets->Y9,noFill_tuple_add->X4,seq_tuple_add->YQ,IsPart->uG,wpAny_field->Zt,getItem->xH,wpAny_sequenceKey->afY,wpAny_callSpecial?_slot->yM,wpAny_call_entry->nY,wpAny_typeOf->Jf,seqIndex?->QW,seqIndex_of->Zv,seqIndex_neg->Za,subscripted->Zw,typeIs_str->ZJ,sliceBounds->Bg,attributeBase->vm,backToKw->zq,keywordEach->zf,call_meets->ZK,valueAt->BK,atKey->xU,tupleKind_room_in1->Ia,callerA->BL,call->ZM,compEnvC->Rn,compTurn->Er,newFunctionEnv->Yw,wpAny_newFunctionEnv->Xm,lookup_relabel_local->Xn,wpAny_comprehension_free->Nu,compPost->Rp,exec_Assign_Name_used->afr,comprehension->YW,Walks->zP,PyData->au,wpAny_pyIter_zip->agg,Builtin->lA,wpAny_newList->Ea,checkCount->JF,wpAny_pyIter_slot->XH,wpAny_dictEntries->XJ,wpAny_dictEpoch->Yk,wpAny_attempt->Eb,wpAny_typeNameOfWhole_keyiter->Nk,wpAny_fieldsOf->yX,wpAny_typeNameOf_keyiter->Nv,wpAny_isOneOf_keyiter->Xl,wpAny_setField->yZ,firstArgMember->O1,wpAny_of_eq->Zz,wpAny_isInstance->X7,codeAny_builtin->wR,plainId_quiet->vo,richCompare->Eg,wpAny_loadPart'->qe,wpAny_forIn_list->agk,richCompare_meets_room->Xh,SetTable->vz,relayAll->Iw,scanBound->qU,wpAny_setState_of->DK,wpAny_storeSet_of->af3,fits_of_scanBound->XR,builtinLookup_eq_fast->afv,isSubtype_type->Yz,entryFor->Rw,argsOk->FP,setNext->EY,wpAny_setEntries_of->HW,setsByText->ZW,wpAny_askSetting->Oe,wpAny_ite_split->Oq,pickOrder->zm,wpAny_seqItems->Iz,wpAny_setEpoch_of->af4,updateSeq->Q6,wpAny_updateSeq->Ip,strKind->I9,wpAny_Call_method->af6,argBest->nC,wpAny_tryCatch->O3,wpAny_letGo->Qh,wpAny_pyIter_enum->af7
open Sum renaming inl->kZ,inr->jT
open Sum.inl renaming inj->Zo
open Sum.inr renaming inj->ahr
open PySem.SeqAt.EqAt renaming int_str->afJ,str_int->afK,same->agr,int_int->afO
open Option.some renaming inj->gP,injEq->N7
open PySem.W renaming instObj->Yi,methodObj->XD,Frag->aM,lookIn->Yv,plainGet->agb,findIn->Ay,takerIn->agq,specialIn->afU,isFn->ag0,keepIn->wU,kitOne->Az,kia_one->uq,kitx_none->afV,kitx_bool->afW,kitx_int->agc,kitx_str->agd,kitx_float->afM,kitx_list->NQ,kitx_tuple->afN,kitx_dict->NZ,kitx_own->age,cellsFrom_some->afl,fnOf->zc,codeIn->OD,OpenLaw->Yj,WalkO->agK,kitAny->OJ,kia_tup->ur,nsIn->oJ,mg_of->YZ,mg_none_of->pI
open PySem.Heap renaming lt_size->cF,SameBut->zb,get?_push_of_some->cW,get?_push_size->iH,get?_update_self->yN,get?_update_other->um,size_push->wV
open Nat renaming lt_of_lt_of_le->pG,lt_irrefl->wW,ne_of_lt->eO,le_trans->j7,le_of_lt->xj,ne_of_gt->Be,le_refl->cg,le_succ->uw,succ_le_succ->Oc,lt_trans->Jg,zero_le->m9,le_of_eq->ag5,sub_self->PK,lt_succ_of_lt->wO,not_lt->Qw,add_zero->Zd,lt_succ_self->Yb,lt_trichotomy->af5,zero_add->Jh,not_lt_zero->yV,le_of_ble_eq_true->Dy,succ_pos->Ji,not_succ_le_zero->afC,le_add_right->Ol,min_eq_left->Yt,lt_or_eq_of_le->afR,le_of_lt_succ->af8,le_succ_of_le->X3
open Array renaming append_assoc->afL,length_toList->j5,toList->agZ,getElem?_toList->Ak,getD->ahR,getElem?_eq_getElem->m8,getElem?_eq_none->Xg,getD_eq_getD_getElem?->uh,toList_push->af2,mem_of_getElem?->afx,size_append->XX,toArray_toList->afE
open List renaming range->fB,mem_filter->qb,mem_range->qP,filterMap_cons->Xp,mem_cons_self->dN,mem_cons_of_mem->fP,mem_cons->cB,mem_append->dB,mem_append_left->iW,getElem?_eq_some_iff->jH,getElem?_set_self->afk,getElem?_set_ne->wH,set_comm->Ph,mem_filterMap->NK,mem_append_right->fK,size_toArray->gG,any_eq_false->afT,append_nil->lO,nodup_cons->jD,of_mem_zip->Oo,replicate->gR,length->mq,length_take->pJ,getElem?_append_right->pF,getElem?_replicate->Xd,getElem?_append_left->p6,getElem?_map->iJ,getElem?_take_of_lt->W9,take_sublist->Ii,mem_of_getElem?->p7,length_append->gb,length_map->bw,length_replicate->Xj,length_drop->DN,map_nil->mW,map_cons->cJ,length_set->wQ,all_cons->Pj,any_cons->IW,reverse_cons->N6,find?_cons->pK,length_cons->cZ,length_nil->Ax,filter_cons->Od,lookup_cons->Ao,append_assoc->mR,map_map->dW,all_eq_true->oG,getElem_of_mem->wL,getElem?_eq_getElem->jJ,getElem_mem->yS,mem_singleton->iY,not_mem_nil->mj,getD->rY,ext_getElem->Aq,length_range->lZ,map_congr_left->u9,zip_cons_cons->Ib,mem_map->eU,ext_getElem?->XM,getElem?_eq_none->Al,getElem?_set->DG,pairwise_iff_getElem->HQ,pairwise_lt_range->Nz,pairwise_append->HR,getElem_take->af1,pairwise_cons->vd,foldl_cons->Io,nodup_append->kY,length_eq_zero_iff->afh,length_eraseIdx->afA,take_zero->agC,Sublist->Zf,nodup_nil->nZ,any_map->ag9,length_zip->Ot,getElem?_range->Xq,getElem?_eq_none_iff->W8,drop_length->agl,drop_eq_getElem_cons->afa,getElem?_mapIdx->afB,sublist_nil->agm,getElem?_take->Xw,map_id->Jq,map_fst_zip->Yc,sum_cons->agP,any_eq_true->Yd,mem_of_mem_take->wJ,map_append->gQ,find?_map->YC,isEmpty_nil->Ye,replicate_succ->Xr,getElem_map->ago,find?_eq_none->Xx,nodup_iff_pairwise_ne->W6,cons_append->jL,nil_append->jm,getElem?_drop->afQ,mem_of_mem_drop->HS,length_flatMap->afI,length_pos_of_mem->afq,mem_erase_of_ne->afD,filter_eq_self->Xu,range_succ->Ys,map_take->Y8,length_filter_le->yO,length_pos_iff->NB,getD_eq_getElem?_getD->Nq,map_drop->agV,map_const'->agz,find?_isSome->af9,set_cons_succ->Ie,set_cons_zero->Ig,filter_filter->afS
open Ne renaming symm->lg
open PySem.Calls renaming Name_function_global->ae6,spliced_nil->N5,spliced_cons->HY,callWith_builtin->afm,evalArgs_plain->afz,call_function_entry->HN
open False renaming elim->rR
open PySem.Flow renaming next->QM
open Bool renaming false_ne_true->iI,false_and->Yu,eq_iff_iff->rO,and_eq_true->jK,not_eq_true->X6,false_eq_true->pH,not_true->agO,not_false->agA,not_eq_true'->XS,true_and->agW,and_true->agX,true->ao,false->aJ
open Int renaming mul_one->Zr,toNat_natCast->yP,le_refl->Bh,emod_eq_emod_iff_emod_sub_eq_zero->aeX,emod_eq_of_lt->Oa,emod_nonneg->oH,emod_lt_of_pos->uo,ediv_nonneg->agy,zero_add->aho,le_trans->ahp,le_of_lt->Zk,ne_of_lt->Zn
open PySem.Builtin.Range renaming rangeSize->arp
open PyProof.Rows renaming callWith_type1->HJ,callWith_builtin1->W5,slot_tuple_getitem->Nj,boot_zip->art,boot_enumerate->aqQ,evalArgs_none->aqT
open PySem.EqNone renaming eq_none_none->aqU,eq_none_bool->aqV,eq_none_int->aq6,eq_none_str->aq7,eq_bool_none->aqW,eq_int_none->aq8,eq_str_none->ara,ne_none_none->aqZ,ne_none_bool->aq0,ne_none_int->arc,ne_none_str->ard,ne_bool_none->aq1,ne_int_none->arf,ne_str_none->ari
open PySem.EqMixed renaming eq_bool_str->aqX,eq_int_str->aq9,eq_str_bool->aqY,eq_str_int->arb,ne_bool_str->aq2,ne_int_str->arh,ne_str_bool->aq3,ne_str_int->arj
open True renaming intro->nj
open Option renaming isSome_iff_exists->wG,getD_none->agf,isSome_some->Dz,isSome_map->Am,map_eq_some_iff->Ai,none->oK,map_some->j6,getD_some->Ik,bind_some->jx,some_ne_none->wM,map->ZX,map_map->DR,bind_eq_some_iff->kW,map_eq_none_iff->afp,isSome_none->XC,any_some->Oz,some->aa,none->aj
open PySem.F renaming slot_tuple_add->Xf,entry_tuple_add->Xe,args_tuple_add_2->Xa,slot_list_append->Xv,slot_list_extend->afP,slot_list_pop->ags,slot_dict_get->Xk,entry_dict_get->afn,args_dict_get_3->afe,slot_dict_iter->agh,slot_dict_keyiterator_next->Nm,entry_dict_keyiterator_next->ae0,args_dict_keyiterator_next_1->aeZ,plain_proto_collect->ae2,plain_list_iadd->Nx,slot_tuple_lt->afu,entry_tuple_lt->afo,args_tuple_lt_2->afg,slot_set_iter->agw,plain_extend_loop->ae9,plainAttrs_list->Ny,type_list_append->afd,plainAttrs_dict->afi,entry_min_loop->Xi,plain_min_loop->Aj,slot_dict_items->afj
open PySem.Builtin.Slice renaming sliceAdjust->W7,slicePlaces->Nr,slicePartIndex->aqP,sliceApplied->ae7,sliceFields->aq4
open PySem.Str renaming ofString->gf
open PySem.Builtin.Tuple renaming tupleItemsOf->ae8,tupleExact->Nt,tupleCompareSizes->aeY,tupleIsExact->aqR
open PySem.Heap.IsSliceOf renaming new->aru
open PySem.Obj renaming mapSeq->nq,mapFields->YX,isFreed_of_fields->aft,data_mapFields->NP,cls_mapFields->afZ,putSet->Qz
open PySem.SeqAt renaming EqAt->JB,shaped->lN
open PySem.Builtin.List renaming listTooLong->Xb,listExtendWith->Np,listLengthHint->ae3,listSameRef->Xc
open List.Pairwise renaming nil->yQ,filterMap->arq,imp_of_mem->aro,imp->arv
open Or renaming inl->dg,inr->nF
open PySem.NameKind renaming free->qi,cell->Pk
open ForInStep renaming yield->agu
open PySem.Code renaming compLoop->DY
open PySem.Walks renaming list->ahP
open PySem.WalksT renaming zip2->ahx
open List.Perm renaming refl->yW,of_eq->agv,swap->O2,append_left->afw
open List.cons renaming inj->Bb,injEq->Yn
open PySem.Heap.SameBut renaming update->rN,refl->XQ
open PySem.Builtin.Dict renaming dictSlotNone->aq5,showsAll->afs
open PySem.Builtin.Dict_items renaming ownsTuple->ae1
open PySem.Around renaming under_plainId->wI
open PySem.AutoSeq1 renaming sub_tuple_tuple->afc
open PySem.SetTable.below renaming go->Ij
open PySem.SetTable renaming below->jM,has->ag7,slot->agM,grown->Ba
open PySem.SetTable.probe renaming go->XN
open PySem.SetTable.Met.empty renaming injEq->ark
open Prod.mk renaming injEq->agN
open PySem.pickOrder renaming go->Ze
open PySem.Builtin.Frozenset renaming slot0->ars,sizeOf->arl,oneOther->aqS,addrOf->arn
open PySem.Bind renaming checkArgs->agB
open PySem.PyData renaming int->lQ,str->eV,eqv->xq,tuple->rP,strOk->PL,canLayAll0->N8,depthAll->Ym,canLay0->YB,depth->ahb
open List.Sublist renaming refl->An,append->HX
open PySem.Builtin.Str renaming strSliceIndices->ae4
open PySem.Builtin.Builtins renaming bindParams->ae5
open Classical renaming byContradiction->afb
open PySem.StrLaws renaming seqIndex_nonneg->aqO
open Nat.succ renaming inj->Jj
open PySem.PassesOwn renaming never->mU
theorem bz{c:Prop}[i:Decidable c](h:c){α:Sort _}{t e:α}:ite c t e=t:=if_pos h
theorem bH{c:Prop}[i:Decidable c](h:¬c){α:Sort _}{t e:α}:ite c t e=e:=if_neg h
theorem gk{p:Prop}[i:Decidable p](h:p):decide p=true:=decide_eq_true h
theorem gM{p:Prop}[i:Decidable p](h:¬p):decide p=false:=decide_eq_false h
noncomputable section
namespace L2
open PySem PySem.Spec PyProof.Rows
abbrev Key:=Sum Int Str
def Cz:Key->Value->Bool
 |.inl k,v=>ahq k v
 |.inr x,v=>YM x v
def aoJ(w:bI):Key->Int
 |.inl k=>hashInt k
 |.inr x=>hashStr w x
theorem rQ:∀{k:Key}{v:Value},Cz k v=ao->(∃i t,k=kZ i/\v=JL i t)\/(∃x t,k=jT x/\v=JM x t)
 |.inl i,v,h=>by
  obtain⟨t,e⟩:=Value.isInt_shape (k:=i) (v:=v) h
  exact .inl ⟨i,t,rfl,e⟩
 |.inr x,v,h=>by
  obtain⟨t,e⟩:=afF (x:=x) (v:=v) h
  exact .inr ⟨x,t,rfl,e⟩
theorem aim(i:Int)(t:Tok):Cz (.inl i) (.int i t)=ao:=by simp[Cz,ahq]
theorem ain(x:Str)(t:Tok):Cz (.inr x) (.str x t)=ao:=by simp[Cz,YM]
theorem amd(a b:Int):decide ((kZ a:Key)=kZ b)=(a==b):=by
 by_cases e:a=b
 .subst e;simp
 .have h:¬(kZ a:Key)=kZ b:=λq=>e (Zo q)
  rw[gM h]
  exact(beq_eq_false_iff_ne.mpr e).symm
theorem ame(a b:Str):decide ((jT a:Key)=jT b)=decide (a=b):=by
 by_cases e:a=b
 .subst e;simp
 .have h:¬(jT a:Key)=jT b:=λq=>e (ahr q)
  rw[gM h,gM e]
theorem amf(a:Int)(b:Str):decide ((kZ a:Key)=jT b)=aJ:=gM (λq=>nomatch q)
theorem amg(a:Str)(b:Int):decide ((jT a:Key)=kZ b)=aJ:=gM (λq=>nomatch q)
def jy(prog:bL)(w:bI):za prog w Key where
 is:=Cz
 hash:=aoJ w
 inj:=λv a b ha hb=>by
  rcases rQ ha with⟨i,t,rfl,rfl⟩|⟨x,t,rfl,rfl⟩
  .rcases rQ hb with⟨j,u,rfl,e⟩|⟨y,u,rfl,e⟩
   .injection e with e1 _;rw[e1]
   .exact nomatch e
  .rcases rQ hb with⟨j,u,rfl,e⟩|⟨y,u,rfl,e⟩
   .exact nomatch e
   .injection e with e1 _;rw[e1]
 byValue:=λk v h=>by
  rcases rQ h with⟨i,t,rfl,rfl⟩|⟨x,t,rfl,rfl⟩<;>rfl
 pyHash:=λhv h=>by
  rcases rQ hv with⟨i,t,rfl,rfl⟩|⟨x,t,rfl,rfl⟩
  .exact wpAny_pyHash_int h
  .exact wpAny_pyHash_str h
 eqBool:=λhu hv h=>by
  rcases rQ hu with⟨i,t,rfl,rfl⟩|⟨x,t,rfl,rfl⟩
  .rcases rQ hv with⟨j,u,rfl,rfl⟩|⟨y,u,rfl,rfl⟩
   .rw[amd] at h;exact wpAny_eqBool_int h
   .rw[amf] at h;exact afJ i t y u _ _ _ _ h
  .rcases rQ hv with⟨j,u,rfl,rfl⟩|⟨y,u,rfl,rfl⟩
   .rw[amg] at h;exact afK x t j u _ _ _ _ h
   .rw[ame] at h;exact wpAny_eqBool_str h
 «strs»:=λk x t v h=>by
  rcases rQ h with⟨i,u,rfl,e⟩|⟨y,u,rfl,e⟩
  .exact nomatch e
  .injection e with e1 _
   subst e1;cases v<;>rfl
theorem ahs(prog:bL)(w:bI)(i:Int)(t:Tok):(jy prog w).is (.inl i) (.int i t)=ao:=aim i t
theorem aht(prog:bL)(w:bI)(x:Str)(t:Tok):(jy prog w).is (.inr x) (.str x t)=ao:=ain x t
inductive V where
 |non|bl (b:Bool)|int (i:Int)|str (x:Str)|qJ (b:Array UInt8)|flt (b:UInt64)|ref (a:aq)|ty (n:String)
 deriving DecidableEq
def RelV:V->Value->Prop
 |.non,u=>u=mX
 |.bl b,u=>u=qQ b
 |.int i,u=>∃t,u=JL i t
 |.str x,u=>∃t,u=JM x t
 |.qJ b,u=>∃t,u=Value.bytes b t
 |.flt b,u=>∃t,u=Zq b t
 |.ref a,u=>u=dH a
 |.ty n,u=>u=Ek n
abbrev Vals:List V->List Value->Prop:=Paired RelV
theorem Vals.length{xs:List V}{us:List Value}(r:Vals xs us):xs.length=us.length:=Paired.length r
theorem Vals.get:∀{xs:List V}{us:List Value}{i:Nat}{x:V},Vals xs us->xs[i]?=aa x->∃u,us[i]?=aa u/\RelV x u
 |_,_,_,_,.nil,e=>by simp at e
 |_,_,0,_,.cons r _,e=>by simp at e;subst e;exact⟨_,rfl,r⟩
 |_,_,i+1,x,.cons _ t,e=>by
  obtain⟨u,h1,h2⟩:=Vals.get (i:=i) (x:=x) t (by simpa using e)
  exact⟨u,by simpa using h1,h2⟩
theorem Vals.set{x:V}{u:Value}(r:RelV x u):∀{xs:List V}{us:List Value}(i:Nat),Vals xs us->Vals (xs.set i x) (us.set i u)
 |_,_,_,.nil=>.nil
 |_,_,0,.cons _ t=>.cons r t
 |_,_,i+1,.cons q t=>.cons q (Vals.set r i t)
theorem Vals.append:∀{xs ys:List V}{us ws:List Value},Vals xs us->Vals ys ws->Vals (xs++ys) (us++ws)
 |_,_,_,_,.nil,s=>s
 |_,_,_,_,.cons r t,s=>.cons r (Vals.append t s)
theorem Vals.take:∀{xs:List V}{us:List Value}(n:Nat),Vals xs us->Vals (xs.take n) (us.take n)
 |_,_,0,_=>.nil
 |_,_,_+1,.nil=>.nil
 |_,_,n+1,.cons r t=>.cons r (Vals.take n t)
theorem Vals.drop:∀{xs:List V}{us:List Value}(n:Nat),Vals xs us->Vals (xs.drop n) (us.drop n)
 |_,_,0,r=>r
 |_,_,_+1,.nil=>.nil
 |_,_,n+1,.cons _ t=>Vals.drop n t
def qC:Option V->Option Value->Prop
 |some v,some u=>RelV v u
 |none,none=>True
 |_,_=>False
def KV{κ:Type}:List (κ×V)->List (κ×Value)->Prop:=Paired λ(p:κ×V)(q:κ×Value)=>p.1=q.1/\RelV p.2 q.2
def kV:Key->V
 |.inl i=>.int i
 |.inr x=>.str x
inductive HO where
 |lst (xs:List V)
 |tup (xs:List V)
 |dK (kvs:List (Key×V))|dT (kvs:List (List Key×V))
 |set (S:Int->Bool) (n:Nat)
 |ins (C dx:aq) (fs:List (Str×V))
 |own (x:aq)
 |xd (fs:List (Str×V))
 |met (f x:aq)
 |V5 (lo hi:Int)
 |m6 (o:Obj) (u:HO)
 |Aa (ps:Array Value)
 |ext (φ:bC->Prop)
abbrev Hp:=aq->Option HO
def upd(H:Hp)(a:aq)(o:HO):Hp:=λb=>if b=a then aa o else H b
theorem dO{H:Hp}{a:aq}{o:HO}:upd H a o a=aa o:=by unfold upd;rw[bz rfl]
theorem cV{H:Hp}{a b:aq}{o:HO}(h:b≠a):upd H a o b=H b:=by unfold upd;rw[bH h]
theorem abA{H:Hp}{a:aq}{o u:HO}:upd (upd H a o) a u=upd H a u:=by
 funext b;unfold upd;split<;>rfl
theorem Va{H:Hp}{a b:aq}{o u:HO}(h:H a=aa o)(h':H b=aa u)(d:o≠u):a≠b:=by
 intro e;subst e;rw[h] at h';exact d (gP h')
theorem pM{H:Hp}{a b:aq}{o:HO}(h:H a=aa o)(h':H b=aj):a≠b:=by
 intro e;subst e;rw[h] at h';cases h'
section
variable(P:bL)(w:bI)
def fL(H:Hp)(h:bC)(a:aq):HO->Prop
 |.lst xs=>xs.length<=cu/\∃(its:List Value)(n:Nat),Vals xs its/\h.get? a=aa {cls:=.type "list",data:=.seq its.toArray n}
 |.tup xs=>xs.length<=cu/\∃its:List Value,Vals xs its/\IsTup h a its.toArray
 |.dK kvs=>kvs.length<=cu/\(a==qR)=aJ/\∃vs,KV kvs vs/\h.DictOf (jy P w) a vs
 |.dT kvs=>kvs.length<=cu/\(a==qR)=aJ/\∃xs:List (List Key×aq×Value),
   Paired (λ(p:List Key×V)(q:List Key×aq×Value)=>p.1=q.1/\H q.2.1=aa (.tup (p.1.map kV))/\RelV p.2 q.2.2) kvs xs/\
   ∃o es ep,h.get? a=aa o/\o.ExactDict/\o.data=.dict es ep/\es.toList=xs.map (entryOfKey (Em (jy P w)))/\(xs.map (·.1)).Nodup
 |.set S n=>h.SetOf (intKind P w) a S n
 |.ins C dx fs=>H dx=aa (.own a)/\fs.length<=1000/\dx≠a/\h.get? a=aa (Yi C dx)/\
   ∃mA,h.Ns1 dx mA/\(∀f,qC (fs.lookup f) (mA f))/\agY mA (fs.map (·.1))
 |.own _=>∃o,h.get? a=aa o
 |.xd fs=>∃mA,h.Ns1 a mA/\∀f,qC (fs.lookup f) (mA f)
 |.V5 lo hi=>∃t u v,h.get? a=aa {cls:=.type "range",data:=.fields #[.int lo t,.int hi u,.int 1 v]}
 |.m6 o u=>h.get? a=aa o/\fL H h a u
 |.Aa ps=>h.get? a=aa {cls:=.none,data:=.fields ps}
 |.met f x=>h.get? a=aa (XD (.ref f) (.ref x))
 |.ext φ=>φ h/\(∃o,h.get? a=aa o)/\∀h1 h2:bC,φ h1->(∀o,h1.get? a=aa o->h2.get? a=aa o)->φ h2
def iU(H:Hp)(h:bC):Prop:=∀a o,H a=aa o->fL P w H h a o
end
section
variable{P:bL}{w:bI}{H H':Hp}{h h':bC}{a:aq}{o:HO}
theorem fL.lt(x:fL P w H h a o):a<h.objs.size:=by
 cases o with
 |lst xs=>obtain⟨_,_,_,_,e⟩:=x;exact cF e
 |tup xs=>obtain⟨_,_,_,p⟩:=x;exact p.lt
 |dK kvs=>obtain⟨_,_,_,_,o,_,_,e,_⟩:=x;exact cF e
 |dT kvs=>obtain⟨_,_,_,_,o,_,_,e,_⟩:=x;exact cF e
 |set S n=>obtain⟨o,_,_,_,e,_⟩:=x;exact cF e
 |ins C dx fs=>obtain⟨_,_,_,e,_⟩:=x;exact cF e
 |own y=>obtain⟨_,e⟩:=x;exact cF e
 |xd fs=>obtain⟨_,⟨_,_,_,e,_⟩,_⟩:=x;exact cF e
 |V5 lo hi=>obtain⟨_,_,_,e⟩:=x;exact cF e
 |m6 ob u=>obtain⟨e,_⟩:=x;exact cF e
 |Aa ps=>exact cF (show h.get? a=aa _ from x)
 |met f y=>exact cF (show h.get? a=aa _ from x)
 |ext φ=>obtain⟨_,⟨_,e⟩,_⟩:=x;exact cF e
theorem Paired.Vy{α β:Type}{F G:α->β->Prop}:∀{l₁:List α}{l₂:List β},Paired F l₁ l₂->(∀a b,F a b->G a b)->Paired G l₁ l₂
 |_,_,.nil,_=>.nil
 |_,_,.cons r t,f=>.cons (f _ _ r) (Paired.Vy t f)
theorem fL.stay(x:fL P w H h a o)(k:∀b u,(b=a\/H b=aa (.own a))->h.get? b=aa u->h'.get? b=aa u)
  (ho:∀b,H b=aa (.own a)->H' b=aa (.own a))(ht:∀b xs,H b=aa (.tup xs)->H' b=aa (.tup xs)):fL P w H' h' a o:=by
 induction o with
 |lst xs=>obtain⟨z,its,n,r,e⟩:=x;exact⟨z,its,n,r,k _ _ (.inl rfl) e⟩
 |tup xs=>obtain⟨z,its,r,ob,e,c⟩:=x;exact⟨z,its,r,ob,k _ _ (.inl rfl) e,c⟩
 |dK kvs=>obtain⟨z,y,vs,r,ob,es,ep,e,c⟩:=x;exact⟨z,y,vs,r,ob,es,ep,k _ _ (.inl rfl) e,c⟩
 |dT kvs=>
  obtain⟨z,y,xs,r,ob,es,ep,e,c⟩:=x
  exact⟨z,y,xs,Paired.Vy r λp q z=>⟨z.1,ht _ _ z.2.1,z.2.2⟩,ob,es,ep,k _ _ (.inl rfl) e,c⟩
 |set S n=>obtain⟨ob,es,ep,t,e,c⟩:=x;exact⟨ob,es,ep,t,k _ _ (.inl rfl) e,c⟩
 |ins C dx fs=>
  obtain⟨d,z,ne,e,mA,⟨od,es,ep,e2,c⟩,r⟩:=x
  exact⟨ho _ d,z,ne,k _ _ (.inl rfl) e,mA,⟨od,es,ep,k _ _ (.inr d) e2,c⟩,r⟩
 |own y=>obtain⟨ob,e⟩:=x;exact⟨ob,k _ _ (.inl rfl) e⟩
 |xd fs=>obtain⟨mA,⟨od,es,ep,e,c⟩,r⟩:=x;exact⟨mA,⟨od,es,ep,k _ _ (.inl rfl) e,c⟩,r⟩
 |V5 lo hi=>obtain⟨t,u,v,e⟩:=x;exact⟨t,u,v,k _ _ (.inl rfl) e⟩
 |m6 ob u ih=>obtain⟨e,q⟩:=x;exact⟨k _ _ (.inl rfl) e,ih q⟩
 |Aa ps=>
  have e:h.get? a=aa {cls:=.none,data:=.fields ps}:=x;show h'.get? a=aa {cls:=.none,data:=.fields ps};exact k a _ (.inl rfl) e
 |met f y=>
  have e:h.get? a=aa (XD (.ref f) (.ref y)):=x;show h'.get? a=aa (XD (.ref f) (.ref y));exact k a _ (.inl rfl) e
 |ext φ=>obtain⟨p,⟨o,e⟩,st⟩:=x;exact⟨st _ _ p λo q=>k _ _ (.inl rfl) q,⟨o,k _ _ (.inl rfl) e⟩,st⟩
theorem iU.lt(x:iU P w H h)(e:H a=aa o):a<h.objs.size:=(x a o e).lt
theorem iU.fresh(x:iU P w H h)(e:h.objs.size<=a):H a=aj:=by
 cases q:H a with
 |none=>rfl
 |some u=>exact absurd (pG (x.lt q) e) (wW _)
theorem iU.kept(x:iU P w H h)(k:∀b u,h.get? b=aa u->h'.get? b=aa u):iU P w H h':=λa o e=>
 (x a o e).stay (λb u _ q=>k b u q) (λ_ q=>q) λ_ _ q=>q
theorem iU.laid(x:iU P w H h)(k:∀b u,h.get? b=aa u->h'.get? b=aa u)(hp:h.objs.size<=a)(new:fL P w (upd H a o) h' a o):iU P w (upd H a o) h':=λb u e=>by
 have hn:=x.fresh hp;by_cases hb:b=a
 .subst hb;rw[dO] at e;cases e;exact new
 .rw[cV hb] at e
  exact(x b u e).stay (λc v _ q=>k c v q) (λc q=>by rw[cV (pM q hn)];exact q) λc xs q=>by rw[cV (pM q hn)];exact q
end
def Rd(H:Hp)(a:aq)(u:HO):Prop:=H a=aa u\/∃o,H a=aa (.m6 o u)
theorem Rd.of{H:Hp}{a:aq}{u:HO}(h:H a=aa u):Rd H a u:=.inl h
theorem Rd.ok{P:bL}{w:bI}{H:Hp}{h:bC}{a:aq}{u:HO}(r:Rd H a u)(x:iU P w H h):fL P w H h a u:=by
 rcases r with r|⟨o,r⟩
 .exact x a u r
 .obtain⟨_,q⟩:=x a _ r
  exact q
def GX:Option HO->Prop
 |some (.lst _)=>True
 |some (.dK _)=>True
 |some (.dT _)=>True
 |some (.set _ _)=>True
 |some (.ins _ _ _)=>True
 |some (.ext _)=>True
 |_=>False
section
variable{P:bL}{w:bI}{H:Hp}{h h':bC}{x e:aq}{o':HO}
theorem iU.write(ok:iU P w H h)(mu:GX (H x))(he:e=x\/H e=aa (.own x))(k:∀b u,b≠e->h.get? b=aa u->h'.get? b=aa u)(heo:∃u,h'.get? e=aa u)
  (new:fL P w (upd H x o') h' x o'):iU P w (upd H x o') h':=λb u q=>by
 have adL:∀c y,H c=aa (.own y)->c≠x:=λc y r z=>by subst z;rw[r] at mu;exact mu
 have aoK:∀c xs,H c=aa (.tup xs)->c≠x:=λc xs r z=>by subst z;rw[r] at mu;exact mu
 by_cases hb:b=x
 .subst hb;rw[dO] at q;cases q;exact new
 .rw[cV hb] at q;by_cases hbe:b=e
  .have q':H b=aa (.own x):=by
    rcases he with z|z
    .exact absurd (hbe.trans z) hb
    .rw[hbe];exact z
   rw[q] at q';cases q'
   obtain⟨v,hv⟩:=heo
   exact⟨v,by rw[hbe];exact hv⟩
  .refine(ok b u q).stay (λc v hc r=>k c v ?_ r) (λc r=>by rw[cV (adL c b r)];exact r) λc xs r=>by rw[cV (aoK c xs r)];exact r
   rcases hc with rfl|hc
   .exact hbe
   .rintro rfl;rcases he with z|z
    .exact adL c b hc z
    .rw[hc] at z;cases z;exact hb rfl
end
structure Un(fs ex:List aq)(H H':Hp)(h h':bC):Prop where
 keep:∀b o,h.get? b=aa o->H b=aj->b∉fs->b∉ex->h'.get? b=aa o
 slot:∀b o,h.get? b=aa o->H b=aj->b∈fs->b∉ex->∃sl,h'.get? b=aa {o with slots:=sl}
 free:∀b o,h.get? b=aa o->H b=aj->b∉ex->H' b=aj
 there:∀b o,h.get? b=aa o->b∉ex->∃o',h'.get? b=aa o'
 tups:∀b xs,H b=aa (.tup xs)->H' b=aa (.tup xs)
 qD:∀b o u,H b=aa (.m6 o u)->H' b=aa (.m6 o u)
 rC:∀b ps,H b=aa (.Aa ps)->∃more,H' b=aa (.Aa (ps++more))
section
variable{fs fs' ex ex':List aq}{H H1 H2:Hp}{h h1 h2 h':bC}{a x e:aq}{o:HO}
theorem Un.any(u:Un fs ex H H1 h h1){b:aq}{ob:Obj}(q:h.get? b=aa ob)(n:H b=aj)(hx:b∉ex):∃sl,h1.get? b=aa {ob with slots:=sl}:=by
 by_cases hb:b∈fs
 .exact u.slot b ob q n hb hx
 .exact⟨ob.slots,u.keep b ob q n hb hx⟩
theorem Un.trans(a:Un fs ex H H1 h h1)(b:Un fs ex H1 H2 h1 h2):Un fs ex H H2 h h2 where
 keep:=λc ob q n hc hx=>b.keep c ob (a.keep c ob q n hc hx) (a.free c ob q n hx) hc hx
 slot:=λc ob q n hc hx=>by
  obtain⟨sl,e1⟩:=a.slot c ob q n hc hx
  obtain⟨sl',e2⟩:=b.slot c _ e1 (a.free c ob q n hx) hc hx
  exact⟨sl',e2⟩
 free:=λc ob q n hx=>by
  obtain⟨o',e1⟩:=a.there c ob q hx
  exact b.free c o' e1 (a.free c ob q n hx) hx
 there:=λc ob q hx=>by
  obtain⟨o',e1⟩:=a.there c ob q hx
  exact b.there c o' e1 hx
 tups:=λc xs q=>b.tups c xs (a.tups c xs q)
 qD:=λc ob xs q=>b.qD c ob xs (a.qD c ob xs q)
 rC:=λc ps q=>by
  obtain⟨m1,e1⟩:=a.rC c ps q
  obtain⟨m2,e2⟩:=b.rC c _ e1
  exact⟨m1++m2,by rw[e2,afL]⟩
theorem Un.kept(k:∀b u,h.get? b=aa u->h'.get? b=aa u):Un fs ex H H h h':=
 ⟨λb ob q _ _ _=>k b ob q,λb ob q _ _ _=>⟨ob.slots,k b ob q⟩,λ_ _ _ n _=>n,λb ob q _=>⟨ob,k b ob q⟩,λ_ _ q=>q,λ_ _ _ q=>q,λ_ ps q=>⟨#[],by rw[q];simp⟩⟩
theorem Un.refl:Un fs ex H H h h:=Un.kept λ_ _ q=>q
theorem Un.laid(k:∀b u,h.get? b=aa u->h'.get? b=aa u)(hp:h.objs.size<=a)(hn:H a=aj):Un fs ex H (upd H a o) h h' where
 keep:=λb u q _ _ _=>k b u q
 slot:=λb u q _ _ _=>⟨u.slots,k b u q⟩
 free:=λb u q n _=>by rw[cV (eO (pG (cF q) hp))];exact n
 there:=λb u q _=>⟨u,k b u q⟩
 tups:=λb xs q=>by rw[cV (pM q hn)];exact q
 qD:=λb u xs q=>by rw[cV (pM q hn)];exact q
 rC:=λb ps q=>⟨#[],by rw[cV (pM q hn),q];simp⟩
theorem Un.write(mu:GX (H x))(he:e=x\/H e=aa (.own x))(k:∀b u,b≠e->h.get? b=aa u->h'.get? b=aa u)(heo:∃u,h'.get? e=aa u):Un fs ex H (upd H x o) h h':=by
 have hx:∀b,H b=aj->b≠x:=λb n z=>by subst z;rw[n] at mu;exact mu
 have hb:∀b,H b=aj->b≠e:=λb n z=>by
  subst z;rcases he with r|r
  .exact hx b n r
  .rw[n] at r;cases r
 have hm:∀b u,H b=aa u->¬GX (aa u)->b≠x:=λb u q nm z=>by subst z;rw[q] at mu;exact nm mu
 refine⟨λb u q n _ _=>k b u (hb b n) q,λb u q n _ _=>⟨u.slots,k b u (hb b n) q⟩,λb u q n _=>by rw[cV (hx b n)];exact n,λb u q _=>?_,
  λb xs q=>by rw[cV (hm b _ q λz=>z)];exact q,λb u xs q=>by rw[cV (hm b _ q λz=>z)];exact q,λb ps q=>⟨#[],by rw[cV (hm b _ q λz=>z),q];simp⟩⟩
 by_cases hbe:b=e
 .subst hbe;exact heo
 .exact⟨u,k b u hbe q⟩
theorem Un.mono(u:Un fs ex H H1 h h1)(hs:∀b∈fs,b∈fs')(hx:∀b∈ex,b∈ex'):Un fs' ex' H H1 h h1:=
 ⟨λb ob q n hb he=>u.keep b ob q n (λz=>hb (hs b z)) λz=>he (hx b z),λ_ _ q n _ he=>u.any q n λz=>he (hx _ z),λb ob q n he=>u.free b ob q n λz=>he (hx b z),λb ob q he=>u.there b ob q λz=>he (hx b z),u.tups,u.qD,u.rC⟩
end
def Mt(h:bC)(H:Hp):List aq:=(fB h.objs.size).filter λa=>(H a).isSome
def vO(h:bC)(H:Hp):bC:=PySem.W.hideAll h (Mt h H)
theorem aio(h:bC)(H:Hp):(vO h H).objs.size=h.objs.size:=PySem.W.hideAll_size _ _
theorem ajo{h:bC}{H:Hp}{b:aq}{o:Obj}(e:h.get? b=aa o)(n:H b=aj):(vO h H).get? b=aa o:=
 PySem.W.hideAll_get _ e λhm=>by
  have q:(H b).isSome=ao:=(qb.mp hm).2;rw[n] at q;simp at q
theorem akG{h:bC}{H:Hp}{b:aq}{o:Obj}(e:(vO h H).get? b=aa o):h.get? b=aa o/\H b=aj:=by
 have e':h.get? b=aa o:=PySem.W.of_hideAll (Mt h H) e
 refine⟨e',?_⟩
 cases q:H b with
 |none=>rfl
 |some x=>
  have hm:b∈Mt h H:=qb.mpr ⟨qP.mpr (cF e'),by simp[q]⟩;have z:(vO h H).get? b=aj:=PySem.W.hideAll_none (Mt h H) hm;rw[z] at e;cases e
def akH(g h:bC)(L:aq):List (aq×Obj):=(fB h.objs.size).filterMap λa=>if a=L\/(g.get? a).isSome=ao then aj else(h.get? a).map λo=>(a,o)
def rest(g h:bC)(L d:aq):List (aq×Obj):=(akH g h L).filter λp=>decide (p.1≠d)
structure Mod(K:aM)(mg:Str->Option Value)(base:bC):Prop where
 V6:K.In base
 glob:base.Ns iM mg
 blt:∃mb,base.Ns builtinsNs mb/\∀x:Str,x≠"__name__"->mb x=uv x
 nolimit:base.NoLimit
structure Cx where
 prog:bL
 w:bI
 K:aM
 mg:Str->Option Value
 base:bC
 A:cM
 N:List Str
 s₀:aD
 H₀:Hp
 env:Env
 outer:List Env
 stack:List Env
 ex:List aq
 fn:Str->Bool
 calm:Bool
 pn:List (aq×Obj)
 xe:Value->aD->Prop
def frs(l:List Env):List aq:=l.filterMap (·.frame)
abbrev Cx.fs(X:Cx):List aq:=frs X.outer
def Mu(sc:jO)(x:Str):Prop:=sc.names.lookup x=aa .local\/sc.names.lookup x=aa .cell\/sc.names.lookup x=aa .free
def Loc(sc:jO)(x:Str):Prop:=sc.names.lookup x=aa .local\/sc.names.lookup x=aa .cell
def Look(env:Env)(h:bC)(m:Str->Option Value)(x:Str)(u:Value):Prop:=
 (env.kindOf x=aa .local/\m x=aa u)\/((env.kindOf x=aa .cell\/env.kindOf x=aa .free)/\∃c,env.cells.lookup x=aa c/\h.IsCell c (aa u))
structure Cx.Ok(X:Cx):Prop where
 mod:Mod X.K X.mg X.base
 kind:X.env.scope.kind=.function
 glob:X.env.globals=iM
 blt:X.env.builtins=builtinsNs
 above:X.s₀.heap.objs.size<=X.env.locals
 inj:∀x y c,X.env.cells.lookup x=aa c->X.env.cells.lookup y=aa c->x=y
 has:∀x,(X.env.kindOf x=aa .cell\/X.env.kindOf x=aa .free)->∃c,X.env.cells.lookup x=aa c
 cab:∀x c,X.fn x=ao->X.env.cells.lookup x=aa c->X.s₀.heap.objs.size<=c
 hd:X.calm=ao->X.A.handled=aj
 frames:X.A.frames=aa X.stack
 stk:X.stack=X.outer\/(X.stack=X.env::X.outer/\X.env.frame=aa X.env.locals)
 exf:∀b∈X.ex,b≠X.env.locals/\∀x c,X.env.cells.lookup x=aa c->c≠b
 bs:∀b o,X.base.get? b=aa o->X.s₀.heap.get? b=aa o/\X.H₀ b=aj
 uX:X.base.objs.size<=X.s₀.heap.objs.size
 Gy:∀b o,X.base.get? b=aa o->b∉X.ex
 LR:∀b∈X.ex,b∉X.fs
 rD:X.s₀.heap.FunFrames X.base X.outer
 Ab:∀b∈X.fs,X.H₀ b=aj
structure Inv(X:Cx)(pins:List (aq×Obj))(σ:List (Option V))(H:Hp)(s:aD):Prop where
 ok:X.Ok
 os:s.os=X.s₀.os
 bare:AllBare s.gens
 base:Un X.fs X.ex X.H₀ H X.s₀.heap s.heap
 loc:∃m,s.heap.Ns X.env.locals m/\∀(i:Nat)(x:Str)(v:V),X.N[i]?=aa x->σ[i]?=aa (aa v)->Mu X.env.scope x->∃u,RelV v u/\Look X.env s.heap m x u
 cell:∀x c,X.env.cells.lookup x=aa c->∃v,s.heap.IsCell c v
 free:H X.env.locals=aj
 sW:∀x c,X.env.cells.lookup x=aa c->H c=aj
 pin:∀p∈X.pn++pins,s.heap.get? p.1=aa p.2/\H p.1=aj/\p.1≠X.env.locals/\p.1∉X.fs/\∀v,p.2.data≠.cell v
 hok:iU X.prog X.w H s.heap
 len:σ.length=X.N.length
section
variable{X:Cx}{pins:List (aq×Obj)}{σ:List (Option V)}{H H':Hp}{s:aD}{h':bC}
theorem Cx.Ok.aoL(ok:X.Ok){b:aq}{o:Obj}(e:X.base.get? b=aa o):b∉X.fs:=λhb=>by
 have:=(ok.rD.mem hb).1;rw[e] at this;cases this
theorem Inv.bs(I:Inv X pins σ H s):∀b o,X.base.get? b=aa o->s.heap.get? b=aa o/\H b=aj:=λb o e=>
 ⟨I.base.keep b o (I.ok.bs b o e).1 (I.ok.bs b o e).2 (I.ok.aoL e) (I.ok.Gy b o e),I.base.free b o (I.ok.bs b o e).1 (I.ok.bs b o e).2 (I.ok.Gy b o e)⟩
theorem Inv.bk(I:Inv X pins σ H s):∀b o,X.base.get? b=aa o->s.heap.get? b=aa o:=λb o e=>(I.bs b o e).1
theorem Inv.mod(I:Inv X pins σ H s):Mod X.K X.mg X.base:=I.ok.mod
theorem Inv.ji(I:Inv X pins σ H s):X.K.In s.heap:=I.ok.mod.V6.keeps I.bk
theorem Inv.nolimit(I:Inv X pins σ H s):s.heap.NoLimit:=I.ok.mod.nolimit.keeps I.bk
theorem Inv.fr(I:Inv X pins σ H s):∃m,Fr X.base X.env.locals s.heap m:=
 let ⟨m,hn,_⟩:=I.loc
 ⟨m,hn,I.bk,j7 I.ok.uX I.ok.above⟩
theorem Inv.lt(I:Inv X pins σ H s):X.env.locals<s.heap.objs.size:=let ⟨_,hn,_⟩:=I.loc;hn.lt
theorem Inv.sz(I:Inv X pins σ H s):X.s₀.heap.objs.size<=s.heap.objs.size:=j7 I.ok.above (xj I.lt)
theorem Inv.aoM(I:Inv X pins σ H s){a:aq}(h:s.heap.objs.size<=a):a∉X.fs:=λhb=>by
 obtain⟨_,o,ho,_⟩:=I.ok.rD.mem hb
 exact absurd (pG (cF ho) (j7 I.sz h)) (wW _)
theorem Inv.Ac(I:Inv X pins σ H s):∀x c,X.env.cells.lookup x=aa c->c≠X.env.locals:=λx c e z=>by
 obtain⟨v,o,ho,hd⟩:=I.cell x c e
 obtain⟨m,⟨o',es,ep,ho',hd',_⟩,_⟩:=I.loc
 rw[z,ho'] at ho;cases ho;rw[hd'] at hd;cases hd
theorem Inv.rD(I:Inv X pins σ H s):s.heap.FunFrames X.base X.outer:=by
 have all:∀(l:List Env),(∀b∈frs l,b∈X.fs)->X.s₀.heap.FunFrames X.base l->s.heap.FunFrames X.base l:=by
  intro l;induction l with
  |nil=>intro _ _;trivial
  |cons env r ih=>
   intro hs hl
   obtain⟨hk,⟨L,o,hf,hn,ho,hd⟩,hr⟩:=hl
   have hL:L∈X.fs:=hs L (by unfold frs;rw[Xp,hf];exact dN)
   obtain⟨sl,e⟩:=I.base.slot L o ho (I.ok.Ab L hL) hL λz=>I.ok.LR L z hL
   exact⟨hk,⟨L,_,hf,hn,e,hd⟩,ih (λb hb=>hs b (by unfold frs;rw[Xp,hf];exact fP _ hb)) hr⟩
 exact all X.outer (λ_ hb=>hb) I.ok.rD
theorem Inv.stack(I:Inv X pins σ H s):s.heap.FunFrames X.base X.stack:=by
 rcases I.ok.stk with e|⟨e,hf⟩
 .rw[e];exact I.rD
 .rw[e]
  obtain⟨m,hn,_⟩:=I.loc
  refine .cons (by rw[I.ok.kind];decide) hf hn ?_ I.rD;exact Heap.get?_none_of_le (j7 I.ok.uX I.ok.above)
theorem Inv.BZ(I:Inv X pins σ H s):∀b∈frs X.stack,b∈X.env.locals::X.fs:=λb hb=>by
 rcases I.ok.stk with e|⟨e,hf⟩
 .rw[e] at hb;exact fP _ hb
 .rw[e] at hb;unfold frs at hb;rw[Xp,hf] at hb;exact hb
theorem Inv.abB(I:Inv X pins σ H s):∀b∈frs X.stack,H b=aj:=λb hb=>by
 rcases cB.mp (I.BZ b hb) with e|hb
 .rw[e];exact I.free
 .obtain⟨_,o,ho,_⟩:=I.ok.rD.mem hb
  exact I.base.free b o ho (I.ok.Ab b hb) λz=>I.ok.LR b z hb
theorem Inv.step{g':Array GenState}{t':Nat}{d':zL}{ch:List aq}(I:Inv X pins σ H s)
  (hch:∀b∈ch,(b∈X.ex\/X.s₀.heap.objs.size<=b)/\b≠X.env.locals/\(∀x c,X.env.cells.lookup x=aa c->c≠b)/\∀p∈X.pn++pins,p.1≠b)
  (keep:∀b o,b≠X.env.locals->b∉X.fs->b∉ch->s.heap.get? b=aa o->H b=aj->h'.get? b=aa o)
  (slot:∀b o,b≠X.env.locals->b∈X.fs->b∉ch->s.heap.get? b=aa o->H b=aj->∃sl,h'.get? b=aa {o with slots:=sl})(free:∀b o,b∉ch->s.heap.get? b=aa o->H b=aj->H' b=aj)
  (there:∀b o,b∉ch->s.heap.get? b=aa o->∃o',h'.get? b=aa o')
  (tups:∀b xs,H b=aa (.tup xs)->H' b=aa (.tup xs))(qD:∀b o u,H b=aa (.m6 o u)->H' b=aa (.m6 o u))(rC:∀b ps,H b=aa (.Aa ps)->∃more,H' b=aa (.Aa (ps++more)))
  (ns:∀m,s.heap.Ns X.env.locals m->h'.Ns X.env.locals m)(hok:iU X.prog X.w H' h')(hg:AllBare g'):
  Inv X pins σ H' {s with heap:=h',gens:=g',drawn:=d',toks:=t'}:=by
 have neL:∀b o,X.s₀.heap.get? b=aa o->b≠X.env.locals:=λb o e=>eO (pG (cF e) I.ok.above)
 have Mv:∀b o,X.s₀.heap.get? b=aa o->b∉X.ex->b∉ch:=λb o e hx hb=>by
  rcases(hch b hb).1 with z|z
  .exact hx z
  .exact absurd (pG (cF e) z) (wW _)
 have cellK:∀x c,X.env.cells.lookup x=aa c->∀v,s.heap.IsCell c v->h'.IsCell c v:=λx c e v aP=>by
  obtain⟨o,ho,hd⟩:=aP
  have GZ:c∉ch:=λz=>(hch c z).2.2.1 x c e rfl
  by_cases hc:c∈X.fs
  .obtain⟨sl,q⟩:=slot c o (I.Ac x c e) hc GZ ho (I.sW x c e)
   exact⟨_,q,hd⟩
  .exact⟨o,keep c o (I.Ac x c e) hc GZ ho (I.sW x c e),hd⟩
 refine⟨I.ok,I.os,hg,⟨λb o e n hb hx=>?_,λb o e n hb hx=>?_,λb o e n hx=>?_,λb o e hx=>?_,λb xs e=>tups b xs (I.base.tups b xs e),λb o xs e=>qD b o xs (I.base.qD b o xs e),λb ps e=>?_⟩,?_,λx c e=>?_,?_,λx c e=>?_,λp hp=>?_,hok,I.len⟩
 .exact keep b o (neL b o e) hb (Mv b o e hx) (I.base.keep b o e n hb hx) (I.base.free b o e n hx)
 .obtain⟨sl,e1⟩:=I.base.slot b o e n hb hx
  obtain⟨sl',e2⟩:=slot b _ (neL b o e) hb (Mv b o e hx) e1 (I.base.free b o e n hx)
  exact⟨sl',e2⟩
 .obtain⟨o',e1⟩:=I.base.there b o e hx
  exact free b o' (Mv b o e hx) e1 (I.base.free b o e n hx)
 .obtain⟨o',e1⟩:=I.base.there b o e hx
  exact there b o' (Mv b o e hx) e1
 .obtain⟨m1,e1⟩:=I.base.rC b ps e
  obtain⟨m2,e2⟩:=rC b _ e1
  exact⟨m1++m2,by rw[e2,afL]⟩
 .obtain⟨m,hn,hl⟩:=I.loc
  refine⟨m,ns m hn,λi x v e1 e2 e3=>?_⟩
  obtain⟨u,r,l⟩:=hl i x v e1 e2 e3
  refine⟨u,r,?_⟩
  rcases l with l|⟨k,c,e,z⟩
  .exact .inl l
  .exact .inr ⟨k,c,e,cellK x c e _ z⟩
 .obtain⟨v,z⟩:=I.cell x c e
  exact⟨v,cellK x c e v z⟩
 .obtain⟨m,⟨o,_,_,ho,_⟩,_⟩:=I.loc
  exact free _ o (λz=>(hch _ z).2.1 rfl) ho I.free
 .obtain⟨v,o,ho,hd⟩:=I.cell x c e
  exact free c o (λz=>(hch c z).2.2.1 x c e rfl) ho (I.sW x c e)
 .obtain⟨e,n,ne,nf,d⟩:=I.pin p hp
  have GZ:p.1∉ch:=λz=>(hch p.1 z).2.2.2 p hp rfl
  exact⟨keep p.1 p.2 ne nf GZ e n,free p.1 p.2 GZ e n,ne,nf,d⟩
theorem Inv.un{t':Nat}(I:Inv X pins σ H s)(u:Un X.fs [] H H' s.heap h')(hok:iU X.prog X.w H' h'):Inv X pins σ H' {s with heap:=h',toks:=t'}:=by
 obtain⟨m,⟨o,es,ep,ho,r⟩,_⟩:=id I.loc
 obtain⟨sl,hL⟩:=u.any ho I.free (by simp)
 exact I.step (g':=s.gens) (d':=s.drawn) (ch:=[]) (λ_ z=>nomatch z) (λb o _ hb _ e n=>u.keep b o e n hb (by simp)) (λb o _ hb _ e n=>u.slot b o e n hb (by simp)) (λb o _ e n=>u.free b o e n (by simp)) (λb o _ e=>u.there b o e (by simp)) u.tups u.qD u.rC (λm' hm=>by
  obtain⟨o',es',ep',ho',r'⟩:=hm
  rw[ho] at ho';cases ho'
  exact⟨_,es',ep',hL,r'⟩) hok I.bare
theorem Inv.call{g':Array GenState}{t':Nat}{d':zL}{ch:List aq}(I:Inv X pins σ H s)(u:Un (frs X.stack) ch H H' s.heap h')(hok:iU X.prog X.w H' h')(hg:AllBare g')
  (hch:∀b∈ch,(b∈X.ex\/X.s₀.heap.objs.size<=b)/\b≠X.env.locals/\(∀x c,X.env.cells.lookup x=aa c->c≠b)/\∀p∈X.pn++pins,p.1≠b):
  Inv X pins σ H' {s with heap:=h',gens:=g',drawn:=d',toks:=t'}:=by
 obtain⟨m,⟨o,es,ep,ho,r⟩,_⟩:=id I.loc
 obtain⟨sl,hL⟩:=u.any ho I.free λz=>(hch _ z).2.1 rfl
 exact I.step (ch:=ch) hch (λb o hL hb hc e n=>u.keep b o e n (λz=>(cB.mp (I.BZ b z)).elim hL hb) hc) (λb o _ _ hc e n=>u.any e n hc) (λb o hc e n=>u.free b o e n hc) (λb o hc e=>u.there b o e hc) u.tups u.qD u.rC (λm' hm=>by
  obtain⟨o',es',ep',ho',r'⟩:=hm
  rw[ho] at ho';cases ho'
  exact⟨_,es',ep',hL,r'⟩) hok hg
theorem Inv.turned{t':Nat}{it:aq}(I:Inv X pins σ H s)(k:∀b o,b≠it->s.heap.get? b=aa o->h'.get? b=aa o)(hn:H it=aj)(hL:it≠X.env.locals)
  (h1:it∈X.ex\/X.s₀.heap.objs.size<=it)(h2:∀x c,X.env.cells.lookup x=aa c->c≠it)(h3:∀p∈X.pn++pins,p.1≠it):Inv X pins σ H {s with heap:=h',toks:=t'}:=by
 have G3:∀b u,H b=aa u->b≠it:=λb u e z=>by rw[z,hn] at e;cases e
 refine I.step (g':=s.gens) (d':=s.drawn) (ch:=[it]) (λb hb=>?_) (λb o _ _ hc e _=>k b o (λz=>hc (by simp[z])) e) (λb o _ _ hc e _=>⟨o.slots,k b o (λz=>hc (by simp[z])) e⟩) (λ_ _ _ _ n=>n)
  (λb o hc e=>⟨o,k b o (λz=>hc (by simp[z])) e⟩) (λ_ _ e=>e) (λ_ _ _ e=>e) (λb ps e=>⟨#[],by rw[e];simp⟩) (λm hm=>?_) (λb u e=>?_) I.bare
 .have e:b=it:=by simpa using hb
  subst e
  exact⟨h1,hL,h2,h3⟩
 .obtain⟨o,es,ep,ho,r⟩:=hm
  exact⟨o,es,ep,k _ o (lg hL) ho,r⟩
 .refine(I.hok b u e).stay (λc v hc q=>k c v ?_ q) (λ_ q=>q) λ_ _ q=>q
  rcases hc with z|z
  .rw[z];exact G3 b u e
  .exact G3 c _ z
theorem Inv.tok(I:Inv X pins σ H s)(t:Nat):Inv X pins σ H {s with toks:=t}:=I.un (h':=s.heap) (t':=t) Un.refl I.hok
theorem Inv.kept{t':Nat}(I:Inv X pins σ H s)(k:∀b u,s.heap.get? b=aa u->h'.get? b=aa u):Inv X pins σ H {s with heap:=h',toks:=t'}:=I.un (Un.kept k) (I.hok.kept k)
theorem Inv.laid{a:aq}{o:HO}{t':Nat}(I:Inv X pins σ H s)(k:∀b u,s.heap.get? b=aa u->h'.get? b=aa u)(hp:s.heap.objs.size<=a)(new:fL X.prog X.w (upd H a o) h' a o):
  Inv X pins σ (upd H a o) {s with heap:=h',toks:=t'}:=I.un (Un.laid k hp (I.hok.fresh hp)) (I.hok.laid k hp new)
theorem Inv.write{x e:aq}{o:HO}{t':Nat}(I:Inv X pins σ H s)(mu:GX (H x))(he:e=x\/H e=aa (.own x))(k:∀b u,b≠e->s.heap.get? b=aa u->h'.get? b=aa u)(heo:∃u,h'.get? e=aa u)
  (new:fL X.prog X.w (upd H x o) h' x o):Inv X pins σ (upd H x o) {s with heap:=h',toks:=t'}:=I.un (Un.write mu he k heo) (I.hok.write mu he k heo new)
theorem Inv.weak{σ':List (Option V)}(I:Inv X pins σ H s)(hl:σ'.length=σ.length)(w:∀(i:Nat) v,σ'[i]?=aa (aa v)->σ[i]?=aa (aa v)):Inv X pins σ' H s:=
 ⟨I.ok,I.os,I.bare,I.base,let ⟨m,hn,hl'⟩:=I.loc;⟨m,hn,λi x v e1 e2 e3=>hl' i x v e1 (w i v e2) e3⟩,I.cell,I.free,I.sW,I.pin,I.hok,hl.trans I.len⟩
theorem Inv.abC{Vb:List (aq×Obj)}(I:Inv X pins σ H s)(h:∀p∈Vb,s.heap.get? p.1=aa p.2/\H p.1=aj/\p.1≠X.env.locals/\p.1∉X.fs/\∀v,p.2.data≠.cell v):Inv X Vb σ H s:=
 ⟨I.ok,I.os,I.bare,I.base,I.loc,I.cell,I.free,I.sW,λp hp=>(dB.mp hp).elim (λz=>I.pin p (iW _ z)) (h p),I.hok,I.len⟩
theorem aaH{N:List Str}(hN:N.Nodup){i j:Nat}{x:Str}(a:N[i]?=aa x)(b:N[j]?=aa x):i=j:=by
 obtain⟨h1,e1⟩:=jH.mp a
 obtain⟨h2,e2⟩:=jH.mp b
 exact(List.getElem_inj hN).mp (e1.trans e2.symm)
theorem QL{M:Model}{A:cM}{E:Value->aD->Prop}{i:Nat}{x:Str}{v:V}{u:Value}{Q:Unit->aD->Prop}(I:Inv X pins σ H s)(hN:X.N.Nodup)(hi:X.N[i]?=aa x)(hx:Loc X.env.scope x)(r:RelV v u)
  (h:∀s',Inv X pins (σ.set i (aa v)) H s'->(∃a,zb a s.heap s'.heap/\(a=X.env.locals\/X.env.cells.lookup x=aa a))->Q () s')(hf:X.fn x=ao\/X.env.scope.names.lookup x=aa .local:=by first|exact .inl rfl|exact .inr rfl|assumption):aR M A (storeName X.env x u) Q E s:=by
 obtain⟨m,hn,hl⟩:=id I.loc
 have hcls:(X.env.scope.kind==.class||(X.env.scope.kind==.module&&X.env.locals != X.env.globals))=aJ:=by rw[I.ok.kind];rfl
 have hiσ:i<σ.length:=by rw[I.len];exact(jH.mp hi).1
 have Ac:=I.Ac;have tracked:∀{a:aq}{h':bC},(∃o,s.heap.get? a=aa o/\H a=aj)->zb a s.heap h'->iU X.prog X.w H h':=λ{a h'} ha hs b ob e=>by
  obtain⟨_,_,hfree⟩:=ha
  refine(I.hok b ob e).stay (λc w' hc q=>(hs.2 c ?_).trans q) (λ_ q=>q) λ_ _ q=>q
  rintro rfl;rcases hc with rfl|hc
  .rw[hfree] at e;cases e
  .rw[hfree] at hc;cases hc
 rcases hx with hk|hk
 .refine wpAny_storeName_local hk hn (λh' hn' hs=>?_) hcls
  obtain⟨oL,_,_,hoL,_⟩:=id hn
  refine h _ ⟨I.ok,I.os,I.bare,⟨λb o e n hb hx=>?_,λb o e n hb hx=>?_,I.base.free,λb o e hx=>?_,I.base.tups,I.base.qD,I.base.rC⟩,⟨_,hn',λj y v' e1 e2 e3=>?_⟩,λy c e=>?_,I.free,I.sW,λp hp=>?_,tracked ⟨oL,hoL,I.free⟩ hs,by simpa using I.len⟩ ⟨_,hs,.inl rfl⟩
  .exact(hs.2 b (eO (pG (cF e) I.ok.above))).trans (I.base.keep b o e n hb hx)
  .obtain⟨sl,e1⟩:=I.base.slot b o e n hb hx
   exact⟨sl,(hs.2 b (eO (pG (cF e) I.ok.above))).trans e1⟩
  .obtain⟨o',e1⟩:=I.base.there b o e hx
   exact⟨o',(hs.2 b (eO (pG (cF e) I.ok.above))).trans e1⟩
  .by_cases hj:j=i
   .subst hj;rw[hi] at e1;cases e1;rw[afk hiσ] at e2;cases e2
    exact⟨u,r,.inl ⟨hk,by simp⟩⟩
   .rw[wH (lg hj)] at e2
    obtain⟨u',r',q⟩:=hl j y v' e1 e2 e3
    refine⟨u',r',?_⟩
    rcases q with⟨k,e⟩|⟨k,c,e,z⟩
    .refine .inl ⟨k,?_⟩;have:y≠x:=λe=>hj (aaH hN e1 (e▸hi))
     simp[this,e]
    .exact .inr ⟨k,c,e,z.sameBut hs (Ac y c e)⟩
  .obtain⟨w',z⟩:=I.cell y c e
   exact⟨w',z.sameBut hs (Ac y c e)⟩
  .obtain⟨e,n,ne,nf,d⟩:=I.pin p hp
   exact⟨(hs.2 p.1 ne).trans e,n,ne,nf,d⟩
 .have hfn:X.fn x=ao:=by
   rcases hf with z|z
   .exact z
   .rw[z] at hk;cases hk
  obtain⟨c,hc⟩:=I.ok.has x (.inl hk)
  obtain⟨w',z⟩:=I.cell x c hc
  refine wpAny_storeName_cell I.ok.kind hk hc z (λh' hc' hs=>?_)
  obtain⟨oc,hoc,aoN⟩:=id z
  refine h {s with heap:=h'} ⟨I.ok,I.os,I.bare,⟨λb o e n hb hx=>?_,λb o e n hb hx=>?_,I.base.free,λb o e hx=>?_,I.base.tups,I.base.qD,I.base.rC⟩,⟨m,hn.sameBut hs (lg (Ac x c hc)),λj y v' e1 e2 e3=>?_⟩,λy c' e=>?_,I.free,I.sW,λp hp=>?_,tracked ⟨oc,hoc,I.sW x c hc⟩ hs,by simpa using I.len⟩ ⟨c,hs,.inr hc⟩
  .exact(hs.2 b (eO (pG (cF e) (I.ok.cab x c hfn hc)))).trans (I.base.keep b o e n hb hx)
  .obtain⟨sl,e1⟩:=I.base.slot b o e n hb hx
   exact⟨sl,(hs.2 b (eO (pG (cF e) (I.ok.cab x c hfn hc)))).trans e1⟩
  .obtain⟨o',e1⟩:=I.base.there b o e hx
   exact⟨o',(hs.2 b (eO (pG (cF e) (I.ok.cab x c hfn hc)))).trans e1⟩
  .by_cases hj:j=i
   .subst hj;rw[hi] at e1;cases e1;rw[afk hiσ] at e2;cases e2
    exact⟨u,r,.inr ⟨.inl hk,c,hc,hc'⟩⟩
   .rw[wH (lg hj)] at e2
    obtain⟨u',r',q⟩:=hl j y v' e1 e2 e3
    refine⟨u',r',?_⟩
    rcases q with q|⟨k,c',e,z'⟩
    .exact .inl q
    .refine .inr ⟨k,c',e,z'.sameBut hs ?_⟩;rintro rfl;exact hj (aaH hN e1 (I.ok.inj _ _ _ e hc▸hi))
  .by_cases hcc:c'=c
   .subst hcc;exact⟨_,hc'⟩
   .obtain⟨w2,z2⟩:=I.cell y c' e
    exact⟨w2,z2.sameBut hs hcc⟩
  .obtain⟨e,n,ne,nf,d⟩:=I.pin p hp
   refine⟨(hs.2 p.1 ?_).trans e,n,ne,nf,d⟩
   intro q;rw[q,hoc] at e;have q':oc=p.2:=gP e;exact d w' (by rw[<-q'];exact aoN)
theorem uy{M:Model}{A:cM}{E:Value->aD->Prop}{i:Nat}{x:Str}{v:V}{u:Value}{Q:Unit->aD->Prop}(I:Inv X pins σ H s)(hN:X.N.Nodup)(hi:X.N[i]?=aa x)(hx:Loc X.env.scope x)(r:RelV v u)
  (h:∀s',Inv X pins (σ.set i (aa v)) H s'->Q () s')(hf:X.fn x=ao\/X.env.scope.names.lookup x=aa .local:=by first|exact .inl rfl|exact .inr rfl|assumption):aR M A (storeName X.env x u) Q E s:=
 QL I hN hi hx r (λs' I' _=>h s' I') hf
theorem Inv.call'{s':aD}{ch:List aq}(I:Inv X pins σ H s)(ho:s'.os=s.os)(u:Un (frs X.stack) ch H H' s.heap s'.heap)(hok:iU X.prog X.w H' s'.heap)(hg:AllBare s'.gens)
  (hch:∀b∈ch,(b∈X.ex\/X.s₀.heap.objs.size<=b)/\b≠X.env.locals/\(∀x c,X.env.cells.lookup x=aa c->c≠b)/\∀p∈X.pn++pins,p.1≠b):Inv X pins σ H' s':=by
 obtain⟨h',g',d',t',o'⟩:=s'
 have e:o'=s.os:=ho;subst e;exact I.call (g':=g') (t':=t') (d':=d') u hok hg hch
end
abbrev XK:=Value->Option aq->Hp->Prop
abbrev St:=List (Option V)
abbrev VK:=V->Hp->Prop
abbrev TE:=St->Hp->VK->Prop
abbrev TT:=St->Hp->(Bool->Hp->Prop)->Prop
abbrev TA:=St->Hp->(List V->Hp->Prop)->Prop
structure Ends where
 nx:St->Hp->Prop
 rt:VK
 bk:St->Hp->Prop:=λ_ _=>False
 ct:St->Hp->Prop:=λ_ _=>False
abbrev TS:=Ends->St->Hp->Prop
def EP(X:Cx)(pins:List (aq×Obj))(σ:St)(Q:VK)(u:Value)(s':aD):Prop:=∃v H',Inv X pins σ H' s'/\RelV v u/\Q v H'
def TP(X:Cx)(pins:List (aq×Obj))(σ:St)(Q:Bool->Hp->Prop)(b:Bool)(s':aD):Prop:=∃H',Inv X pins σ H' s'/\Q b H'
def AP(X:Cx)(pins:List (aq×Obj))(σ:St)(Q:List V->Hp->Prop)(us:List Value)(s':aD):Prop:=∃vs H',Inv X pins σ H' s'/\Vals vs us/\Q vs H'
def SP(X:Cx)(pins:List (aq×Obj))(D:Ends)(f:Flow)(s':aD):Prop:=
 match f with
 |.next=>∃σ' H',Inv X pins σ' H' s'/\D.nx σ' H'
 |.brk=>∃σ' H',Inv X pins σ' H' s'/\D.bk σ' H'
 |.cont=>∃σ' H',Inv X pins σ' H' s'/\D.ct σ' H'
 |.ret u=>∃v σ' H',Inv X pins σ' H' s'/\RelV v u/\D.rt v H'
def PE(X:Cx)(e:Expr)(t:TE):Prop:=
 ∀(pins:List (aq×Obj))(s:aD)(σ:St)(H:Hp)(Q:VK),Inv X pins σ H s->t σ H Q->aR (model X.prog X.w) X.A (eval e X.env) (EP X pins σ Q) X.xe s
def PT(X:Cx)(e:Expr)(t:TT):Prop:=
 ∀(pins:List (aq×Obj))(s:aD)(σ:St)(H:Hp)(Q:Bool->Hp->Prop),Inv X pins σ H s->t σ H Q->aR (model X.prog X.w) X.A (isTrue e X.env (eval e X.env)) (TP X pins σ Q) X.xe s
def PW(X:Cx)(e:Expr)(t:TT):Prop:=
 ∀(whole:Sem Value)(pins:List (aq×Obj))(s:aD)(σ:St)(H:Hp)(Q:Bool->Hp->Prop),Inv X pins σ H s->t σ H Q->aR (model X.prog X.w) X.A (isTrue e X.env whole) (TP X pins σ Q) X.xe s
theorem PW.pt{X:Cx}{e:Expr}{t:TT}(h:PW X e t):PT X e t:=h _
def PA(X:Cx)(es:List Expr)(t:TA):Prop:=
 ∀(pos:Pos)(pins:List (aq×Obj))(s:aD)(σ:St)(H:Hp)(Q:List V->Hp->Prop),Inv X pins σ H s->t σ H Q->aR (model X.prog X.w) X.A (spliced (gH pos (bJ es X.env))) (AP X pins σ Q) X.xe s
def PS(X:Cx)(st:dM)(t:TS):Prop:=
 ∀(pins:List (aq×Obj))(s:aD)(σ:St)(H:Hp)(D:Ends),Inv X pins σ H s->t D σ H->aR (model X.prog X.w) X.A (exec st X.env) (SP X pins D) X.xe s
def jG(X:Cx)(st:List dM)(t:TS):Prop:=
 ∀(pins:List (aq×Obj))(s:aD)(σ:St)(H:Hp)(D:Ends),Inv X pins σ H s->t D σ H->aR (model X.prog X.w) X.A (execs st X.env) (SP X pins D) X.xe s
theorem bO{α:Type}{t:Sem α}{Q Q':α->aD->Prop}{M:Model}{A:cM}{E:Value->aD->Prop}{s:aD}(h:aR M A t Q E s)(hQ:∀a s,Q a s->Q' a s):aR M A t Q' E s:=pN h hQ λ_ _ x=>x
section
variable{X:Cx}
def qF(i:Nat):TE:=λσ H Q=>∃v,σ[i]?=aa (aa v)/\Q v H
def tC(v:V):TE:=λ_ H Q=>Q v H
theorem amh{i:Nat}{x:Str}{pos:Pos}(hN:X.N[i]?=aa x)(hv:Mu X.env.scope x)(hd:(x==("__debug__":Str))=aJ:=by decide)(hcd:(x==("__classdict__":Str))=aJ:=by decide):PE X (.Name x pos) (qF i):=by
 intro pins s σ H Q I h
 obtain⟨v,e,h⟩:=h
 obtain⟨m,hn,hl⟩:=I.loc
 obtain⟨u,r,l⟩:=hl i x v hN e hv
 have fin:EP X pins σ Q u s:=⟨v,H,I,r,h⟩
 rcases l with⟨hk,hm⟩|⟨hk,c,hc,hcell⟩
 .exact ZD (afy I.ok.kind hk hn hm fin) hd
 .rcases hk with hk|hk
  .exact ZD (afG I.ok.kind hk hc hcell fin) hd
  .exact ZD (wpAny_loadName_free I.ok.kind hk hc hcell fin hcd) hd
theorem aX{i j pos}:PE X (.Constant (.int i) j pos) (tC (.int i)):=λ_ _ _ H _ I h=>wpAny_Constant_int ⟨.int i,H,I.tok _,⟨_,rfl⟩,h⟩
theorem Lk{b j pos}:PE X (.Constant (.bool b) j pos) (tC (.bl b)):=λ_ _ _ H _ I h=>Constant_bool ⟨.bl b,H,I,rfl,h⟩
theorem zF{j pos}:PE X (.Constant .none j pos) (tC .non):=λ_ _ _ H _ I h=>Constant_none ⟨.non,H,I,rfl,h⟩
theorem Fq{x j pos}:PE X (.Constant (.str x) j pos) (tC (.str x)):=λ_ _ _ H _ I h=>Calls.Constant_str ⟨.str x,H,I.tok _,⟨_,rfl⟩,h⟩
def Gl(X:Cx)(x:Str):Prop:=X.env.kindOf x=aa .globalImplicit
theorem akI{E:Value->aD->Prop}{pins:List (aq×Obj)}{s:aD}{σ:St}{H:Hp}{x:Str}{u:Value}{pos:Pos}{Q:Value->aD->Prop}(I:Inv X pins σ H s)(hg:Gl X x)(hm:X.mg x=aa u)(h:Q u s)
  (hd:(x==("__debug__":Str))=aJ:=by decide):aR (model X.prog X.w) X.A (eval (.Name x pos) X.env) Q E s:=
 ae6 I.ok.kind hg (Calls.loadGlobal_global (by rw[I.ok.glob];exact I.mod.glob.keeps I.bk) hm h) hd
theorem vD{E:Value->aD->Prop}{pins:List (aq×Obj)}{s:aD}{σ:St}{H:Hp}{x:Str}{u:Value}{pos:Pos}{Q:Value->aD->Prop}(I:Inv X pins σ H s)(hg:Gl X x)(hm:X.mg x=aj)(hv:uv x=aa u)(h:Q u s)
  (hn:x≠"__name__":=by decide)(hd:(x==("__debug__":Str))=aJ:=by decide):aR (model X.prog X.w) X.A (eval (.Name x pos) X.env) Q E s:=by
 obtain⟨mb,h1,h2⟩:=I.mod.blt
 exact ae6 I.ok.kind hg (Calls.loadGlobal_builtin (by rw[I.ok.glob];exact I.mod.glob.keeps I.bk) hm (by rw[I.ok.blt];exact h1.keeps I.bk) ((h2 x hn).trans hv) h) hd
theorem qm{x:Str}{v:V}{u:Value}{pos:Pos}(hg:Gl X x)(hm:X.mg x=aj)(hv:uv x=aa u)(r:RelV v u)(hn:x≠"__name__":=by decide)(hd:(x==("__debug__":Str))=aJ:=by decide):PE X (.Name x pos) (tC v):=
 λ_ _ _ H _ I h=>vD I hg hm hv ⟨v,H,I,r,h⟩ hn hd
variable{a b:Expr}{ta tb:TE}{pos:Pos}
def tB(t:TE):TT:=λσ H Q=>t σ H λx H1=>∃c,x=.bl c/\Q c H1
variable{tA Mw:TT}{rest:List Expr}
def adM(t u:TT):TT:=λσ H Q=>t σ H λc H1=>if c=ao then u σ H1 Q else Q aJ H1
def tOr(t u:TT):TT:=λσ H Q=>t σ H λc H1=>if c=ao then Q ao H1 else u σ H1 Q
def aoO(t:TT):TT:=λσ H Q=>t σ H λc H1=>Q (!c) H1
theorem pw_and1(ha:PT X a tA):PW X (.BoolOp .And [a] pos) tA:=by
 intro wh pins s σ H Q I h;refine isTrue_and (bO (ha pins s σ H Q I h) λc s1 e=>?_);cases c with
 |true=>exact isTrue_and_nil e
 |false=>exact e
theorem pw_or1(ha:PT X a tA):PW X (.BoolOp .Or [a] pos) tA:=by
 intro wh pins s σ H Q I h;refine isTrue_or (bO (ha pins s σ H Q I h) λc s1 e=>?_);cases c with
 |false=>exact isTrue_or_nil e
 |true=>exact e
theorem pw_and(ha:PT X a tA)(hb:PW X (.BoolOp .And (b::rest) pos) Mw):PW X (.BoolOp .And (a::b::rest) pos) (adM tA Mw):=by
 intro wh pins s σ H Q I h;refine isTrue_and (bO (ha pins s σ H _ I h) λc s1 aP=>?_)
 obtain⟨H1,I1,q1⟩:=aP
 cases c with
 |true=>exact hb wh pins s1 σ H1 Q I1 q1
 |false=>exact⟨H1,I1,q1⟩
theorem pw_or(ha:PT X a tA)(hb:PW X (.BoolOp .Or (b::rest) pos) Mw):PW X (.BoolOp .Or (a::b::rest) pos) (tOr tA Mw):=by
 intro wh pins s σ H Q I h;refine isTrue_or (bO (ha pins s σ H _ I h) λc s1 aP=>?_)
 obtain⟨H1,I1,q1⟩:=aP
 cases c with
 |true=>exact⟨H1,I1,q1⟩
 |false=>exact hb wh pins s1 σ H1 Q I1 q1
theorem ami(ha:PT X a tA):PT X (.UnaryOp .Not a pos) (aoO tA):=by
 intro pins s σ H Q I h;exact isTrue_not (ha pins s σ H (λc H1=>Q (!c) H1) I h)
def anL(ta tb:TE):TE:=λσ H Q=>ta σ H λx H1=>∃c,x=.bl c/\if c=ao then tb σ H1 Q else Q (.bl aJ) H1
def anM(ta:TE):TE:=λσ H Q=>ta σ H λx H1=>∃c,x=.bl c/\Q (.bl (!c)) H1
theorem amj{op}{t:TE}(h:PE X a t):PE X (.BoolOp op [a] pos) t:=λpins s σ H Q I hw=>BoolOp_one (h pins s σ H Q I hw)
theorem amk(ha:PE X a ta)(hb:PE X (.BoolOp .And (b::rest) pos) tb):PE X (.BoolOp .And (a::b::rest) pos) (anL ta tb):=by
 intro pins s σ H Q I h;refine BoolOp_and (bO (ha pins s σ H _ I h) λv s1 aP=>?_)
 obtain⟨x,H1,I1,r1,q1⟩:=aP
 obtain⟨c,rfl,q1⟩:=q1
 cases r1;refine wN ?_;cases c with
 |true=>exact hb pins s1 σ H1 Q I1 q1
 |false=>exact⟨.bl aJ,H1,I1,rfl,q1⟩
theorem aml(ha:PE X a ta):PE X (.UnaryOp .Not a pos) (anM ta):=by
 intro pins s σ H Q I h;refine UnaryOp_ (bO (ha pins s σ H _ I h) λv s1 aP=>?_)
 obtain⟨x,H1,I1,r1,q1⟩:=aP
 obtain⟨c,rfl,q1⟩:=q1
 cases r1;exact not_of (wN ⟨.bl (!c),H1,I1,rfl,q1⟩)
def tIf(t:TT)(ta tb:TE):TE:=λσ H Q=>t σ H λc H1=>if c=ao then ta σ H1 Q else tb σ H1 Q
theorem ajp{c:Expr}(hc:PT X c tA)(ha:PE X a ta)(hb:PE X b tb):PE X (.IfExp c a b pos) (tIf tA ta tb):=by
 intro pins s σ H Q I h;refine wpAny_IfExp (bO (hc pins s σ H _ I h) λd s1 aP=>?_)
 obtain⟨H1,I1,q1⟩:=aP
 cases d with
 |true=>exact ha pins s1 σ H1 Q I1 q1
 |false=>exact hb pins s1 σ H1 Q I1 q1
end
def bR(K:aM)(H:Hp)(a:aq)(xs:List V):Prop:=
 Rd H a (.lst xs)\/
  ∃(o:Obj)(its:Array Value)(n:Nat),K.lookup a=aa o/\o.cls=.type "list"/\o.dict=aj/\o.data=.seq its n/\its.size<=cu/\Vals xs its.toList
def dj(K:aM)(H:Hp)(a:aq)(xs:List V):Prop:=
 Rd H a (.tup xs)\/
  ∃(o:Obj)(its:Array Value)(n:Nat),K.lookup a=aa o/\o.cls=.type "tuple"/\o.data=.seq its n/\its.size<=cu/\Vals xs its.toList
def aoP:Value->Option V
 |.none=>aa .non
 |.bool b=>aa (.bl b)
 |.int i _=>aa (.int i)
 |.str x _=>aa (.str x)
 |.bytes b _=>aa (.qJ b)
 |.float b _=>aa (.flt b)
 |.ref a=>aa (.ref a)
 |.type n=>aa (.ty n)
 |_=>aj
theorem RelV.abs{x:V}{u:Value}(r:RelV x u):aoP u=aa x:=by
 cases x with
 |non=>cases r;rfl
 |bl _=>cases r;rfl
 |int _=>obtain⟨t,rfl⟩:=r;rfl
 |str _=>obtain⟨t,rfl⟩:=r;rfl
 |qJ _=>obtain⟨t,rfl⟩:=r;rfl
 |flt _=>obtain⟨t,rfl⟩:=r;rfl
 |ref _=>cases r;rfl
 |ty _=>cases r;rfl
theorem RelV.inj{x y:V}{u:Value}(r:RelV x u)(q:RelV y u):x=y:=gP (r.abs.symm.trans q.abs)
theorem Vals.inj:∀{xs ys:List V}{us:List Value},Vals xs us->Vals ys us->xs=ys
 |_,_,_,.nil,.nil=>rfl
 |_,_,_,.cons r t,.cons r' t'=>by rw[r.inj r',Vals.inj t t']
section
variable{X:Cx}{pins:List (aq×Obj)}{σ:St}{H:Hp}{s:aD}{a:aq}{xs ys:List V}
theorem bR.of{K:aM}(h:H a=aa (.lst xs)):bR K H a xs:=.inl (.inl h)
theorem dj.of{K:aM}(h:H a=aa (.tup xs)):dj K H a xs:=.inl (.inl h)
theorem Inv.list(I:Inv X pins σ H s)(h:bR X.K H a xs):∃its:List Value,Vals xs its/\PlainL s.heap a its.toArray/\xs.length<=cu:=by
 rcases h with h|⟨o,its,n,hk,hc,hd,hs,hz,r⟩
 .obtain⟨z,its,n,r,e⟩:=h.ok I.hok
  exact⟨its,r,⟨_,n,e,rfl,rfl,rfl⟩,z⟩
 .refine⟨its.toList,r,⟨o,n,I.ji a o hk,hc,hd,by simpa using hs⟩,?_⟩
  have e:=r.length;simp only[j5] at e;lia
theorem Inv.tuple(I:Inv X pins σ H s)(h:dj X.K H a xs):∃its:List Value,Vals xs its/\IsTup s.heap a its.toArray/\xs.length<=cu:=by
 rcases h with h|⟨o,its,n,hk,hc,hs,hz,r⟩
 .obtain⟨z,its,r,p⟩:=h.ok I.hok
  exact⟨its,r,p,z⟩
 .refine⟨its.toList,r,⟨o,I.ji a o hk,hc,n,by simpa using hs⟩,?_⟩
  have e:=r.length;simp only[j5] at e;lia
theorem Inv.J0(I:Inv X pins σ H s)(h:bR X.K H a xs)(h':bR X.K H a ys):xs=ys:=by
 obtain⟨its,r,⟨o,n,e,_,_,d⟩,_⟩:=I.list h
 obtain⟨its',r',⟨o',n',e',_,_,d'⟩,_⟩:=I.list h'
 rw[e] at e';cases e';rw[d] at d';injection d' with d1 _
 have:its=its':=by simpa using congrArg agZ d1
 subst this;exact r.inj r'
theorem Inv.aip(I:Inv X pins σ H s)(h:dj X.K H a xs)(h':dj X.K H a ys):xs=ys:=by
 obtain⟨its,r,⟨o,e,_,n,d⟩,_⟩:=I.tuple h
 obtain⟨its',r',⟨o',e',_,n',d'⟩,_⟩:=I.tuple h'
 rw[e] at e';cases e';rw[d] at d';injection d' with d1 _
 have:its=its':=by simpa using congrArg agZ d1
 subst this;exact r.inj r'
end
abbrev Cx.wish(X:Cx)(E:Value->aD->Prop):Cx:={X with xe:=E}
abbrev Cx.vX(X:Cx):Cx:=X.wish λ_ _=>False
theorem Cx.Ok.wish{X:Cx}(ok:X.Ok)(E:Value->aD->Prop):(X.wish E).Ok:=
 ⟨ok.mod,ok.kind,ok.glob,ok.blt,ok.above,ok.inj,ok.has,ok.cab,ok.hd,ok.frames,ok.stk,ok.exf,ok.bs,ok.uX,ok.Gy,ok.LR,ok.rD,ok.Ab⟩
theorem Cx.Ok.uF{X:Cx}{E:Value->aD->Prop}(ok:(X.wish E).Ok):X.Ok:=
 ⟨ok.mod,ok.kind,ok.glob,ok.blt,ok.above,ok.inj,ok.has,ok.cab,ok.hd,ok.frames,ok.stk,ok.exf,ok.bs,ok.uX,ok.Gy,ok.LR,ok.rD,ok.Ab⟩
section
variable{X:Cx}{pins:List (aq×Obj)}{σ:St}{H:Hp}{s:aD}{E:Value->aD->Prop}
theorem Inv.wish(I:Inv X pins σ H s)(E:Value->aD->Prop):Inv (X.wish E) pins σ H s:=⟨I.ok.wish E,I.os,I.bare,I.base,I.loc,I.cell,I.free,I.sW,I.pin,I.hok,I.len⟩
theorem Inv.uF(I:Inv (X.wish E) pins σ H s):Inv X pins σ H s:=⟨I.ok.uF,I.os,I.bare,I.base,I.loc,I.cell,I.free,I.sW,I.pin,I.hok,I.len⟩
theorem SP.uF{D:Ends}{f:Flow}{s':aD}(h:SP (X.wish E) pins D f s'):SP X pins D f s':=by
 cases f with
 |next=>obtain⟨σ',H',I,q⟩:=h;exact⟨σ',H',I.uF,q⟩
 |brk=>obtain⟨σ',H',I,q⟩:=h;exact⟨σ',H',I.uF,q⟩
 |cont=>obtain⟨σ',H',I,q⟩:=h;exact⟨σ',H',I.uF,q⟩
 |ret u=>obtain⟨v,σ',H',I,r,q⟩:=h;exact⟨v,σ',H',I.uF,r,q⟩
theorem PE.vX{e:Expr}{t:TE}(h:PE X.vX e t):PE X e t:=λpins s σ H Q I hw=>
 pN (h pins s σ H Q (I.wish _) hw) (λ_ _ ⟨v,H',I',r,q⟩=>⟨v,H',I'.uF,r,q⟩) λ_ _ z=>rR z
theorem PT.vX{e:Expr}{t:TT}(h:PT X.vX e t):PT X e t:=λpins s σ H Q I hw=>
 pN (h pins s σ H Q (I.wish _) hw) (λ_ _ ⟨H',I',q⟩=>⟨H',I'.uF,q⟩) λ_ _ z=>rR z
theorem jG.vX{st:List dM}{t:TS}(h:jG X.vX st t):jG X st t:=λpins s σ H D I hw=>
 pN (h pins s σ H D (I.wish _) hw) (λ_ _ q=>q.uF) λ_ _ z=>rR z
end
section
variable{X:Cx}{st:dM}{rest:List dM}{t u:TS}{e:Expr}{te:TE}{pos:Pos}
def anN:TS:=λD σ H=>D.nx σ H
def adN(t u:TS):TS:=λD σ H=>t {D with nx:=u D} σ H
theorem akJ:jG X [] anN:=λ_ _ σ H _ I h=>Om ⟨σ,H,I,h⟩
theorem ajq(h1:PS X st t)(h2:jG X rest u):jG X (st::rest) (adN t u):=by
 intro pins s σ H D I h;refine aga (bO (h1 pins s σ H {D with nx:=u D} I h) λf s1 q=>?_);cases f with
 |next=>
  obtain⟨σ',H',I',q⟩:=q
  exact h2 pins s1 σ' H' D I' q
 |ret v=>exact q
 |brk=>exact q
 |cont=>exact q
theorem akK(h1:PS X st t):jG X [st] t:=by
 intro pins s σ H D I h;refine aga (bO (h1 pins s σ H D I h) λf s1 q=>?_);cases f with
 |next=>exact Om q
 |ret v=>exact q
 |brk=>exact q
 |cont=>exact q
theorem Inv.quiet{pins:List (aq×Obj)}{σ:St}{H:Hp}{s:aD}(I:Inv X pins σ H s):interactive X.env=aJ:=by simp[interactive,I.ok.kind]
def anO(te:TE):TS:=λD σ H=>te σ H λ_ H1=>D.nx σ H1
theorem SX(he:PE X e te)(hs:ux e aj pos.line X.env=pure aJ:=by rfl):PS X (.Expr e pos) (anO te):=by
 intro pins s σ H D I h;exact wpAny_Expr_any (bO (he pins s σ H _ I h) λv s1 ⟨x,H1,I1,r1,q1⟩=>⟨σ,H1,I1,q1⟩) I.quiet hs
def aoQ(te:TE):TS:=λD σ H=>te σ H D.rt
theorem Uh(he:PE X e te):PS X (.Return (aa e) pos) (aoQ te):=by
 intro pins s σ H D I h;exact wpAny_Return_some (bO (he pins s σ H _ I h) λv s1 ⟨x,H1,I1,r1,q1⟩=>⟨x,σ,H1,I1,r1,q1⟩)
def aoR(c:TT)(t u:TS):TS:=λD σ H=>c σ H λb H1=>if b=ao then t D σ H1 else u D σ H1
theorem anP{c:Expr}{a b:List dM}{tc:TT}(hc:PT X c tc)(ha:jG X a t)(hb:jG X b u):PS X (.If c a b pos) (aoR tc t u):=by
 intro pins s σ H D I h;refine wpAny_If (bO (hc pins s σ H _ I h) λd s1 aP=>?_)
 obtain⟨H1,I1,q1⟩:=aP
 cases d with
 |true=>exact ha pins s1 σ H1 D I1 q1
 |false=>exact hb pins s1 σ H1 D I1 q1
end
abbrev TG:=V->St->Hp->(St->Hp->Prop)->Prop
abbrev vY:=List V->St->Hp->(St->Hp->Prop)->Prop
def PG(X:Cx)(target:Expr)(t:TG):Prop:=
 ∀(pins:List (aq×Obj))(s:aD)(σ:St)(H:Hp)(v:V)(u:Value)(Q:St->Hp->Prop),Inv X pins σ H s->RelV v u->t v σ H Q->
  aR (model X.prog X.w) X.A (assign target X.env u) (λ_ s'=>∃σ' H',Inv X pins σ' H' s'/\Q σ' H') X.xe s
def Mx(X:Cx)(ts:List Expr)(t:vY):Prop:=
 ∀(pins:List (aq×Obj))(s:aD)(σ:St)(H:Hp)(vs:List V)(us:List Value)(Q:St->Hp->Prop),Inv X pins σ H s->Vals vs us->t vs σ H Q->
  aR (model X.prog X.w) X.A (DW ((rT ts X.env).map (·.2)) us) (λ_ s'=>∃σ' H',Inv X pins σ' H' s'/\Q σ' H') X.xe s
abbrev Vz:=V->V->V->Hp->(Hp->Prop)->Prop
def vP(X:Cx)(t:Vz):Prop:=
 ∀(pins:List (aq×Obj))(s:aD)(σ:St)(H:Hp)(o i v:V)(ov iv u:Value)(Q:Hp->Prop),Inv X pins σ H s->RelV o ov->RelV i iv->RelV v u->t o i v H Q->
  aR (model X.prog X.w) X.A (setItem ov iv u) (λ_ s'=>∃H',Inv X pins σ H' s'/\Q H') X.xe s
abbrev My:=V->V->Hp->VK->Prop
def PIp(X:Cx)(op:Operator)(t:My):Prop:=
 ∀(pins:List (aq×Obj))(s:aD)(σ:St)(H:Hp)(x y:V)(v u:Value)(Q:VK),Inv X pins σ H s->RelV x v->RelV y u->t x y H Q->
  aR (model X.prog X.w) X.A (inplaceOp op v u) (EP X pins σ Q) X.xe s
section
variable{X:Cx}{pos:Pos}
def xR(i:Nat):TG:=λv σ H Q=>Q (σ.set i (aa v)) H
theorem jc{i:Nat}{x:Str}(hN:X.N.Nodup)(hi:X.N[i]?=aa x)(hx:Loc X.env.scope x)(hf:X.fn x=ao\/X.env.scope.names.lookup x=aa .local:=by first|exact .inl rfl|exact .inr rfl|assumption):PG X (.Name x pos) (xR i):=by
 intro pins s σ H v u Q I r h;exact Ih (uy I hN hi hx r (λs' I'=>⟨_,H,I',h⟩) hf)
def VB:vY:=λvs σ H Q=>vs=[]/\Q σ H
def Vc(t:TG)(u:vY):vY:=λvs σ H Q=>∃v r,vs=v::r/\t v σ H λσ' H'=>u r σ' H' Q
theorem BJ:Mx X [] VB:=by
 intro pins s σ H vs us Q I r h
 obtain⟨e,h⟩:=h
 subst e;cases r;exact assignInOrder_nil ⟨σ,H,I,h⟩
theorem oN{e:Expr}{es:List Expr}{t:TG}{u:vY}(h1:PG X e t)(h2:Mx X es u)
  (hs:(rT (e::es) X.env).map (·.2)=assign e X.env::(rT es X.env).map (·.2):=by rfl):Mx X (e::es) (Vc t u):=by
 intro pins s σ H vs us Q I r h
 obtain⟨v,vr,e1,h⟩:=h
 subst e1;cases r with
 |cons r rr=>
  rw[hs];refine assignInOrder_cons (bO (h1 pins s σ H _ _ _ I r h) λ_ s1 aP=>?_)
  obtain⟨σ1,H1,I1,q1⟩:=aP
  exact h2 pins s1 σ1 H1 _ _ Q I1 rr q1
def Ma(K:aM)(n:Nat)(t:vY):TG:=λv σ H Q=>∃a xs,v=.ref a/\dj K H a xs/\xs.length=n/\t xs σ H Q
theorem Ca{es:List Expr}{k:Nat}{t:vY}{n:Nat}(hc:X.calm=ao)(h:Mx X es t)
  (hn:(rT es X.env).length=n:=by rfl)(hst:(rT es X.env).findIdx? (·.1)=aj:=by rfl):PG X (.Tuple es k pos) (Ma X.K n t):=by
 intro pins s σ H v u Q I r hw
 obtain⟨a,xs,e1,hq,hl,hw⟩:=hw
 subst e1;cases r
 obtain⟨its,rv,ht,hz⟩:=I.tuple hq
 refine assign_Tuple_tuple (I.ok.hd hc) ht (by simp[hn,<-hl,rv.length]) hst λh' hx=>?_
 have I1:Inv X pins σ H {s with heap:=h'}:=I.kept (t':=s.toks) λb o e=>hx b o (eO (cF e)) e
 exact h pins _ σ H xs _ Q I1 (by simpa using rv) hw
def aoS(to ti:TE)(t:Vz):TG:=λv σ H Q=>to σ H λo H1=>ti σ H1 λi H2=>t o i v H2 λH3=>Q σ H3
theorem amm{o i:Expr}{to ti:TE}{t:Vz}(ho:PE X o to)(hi:PE X i ti)(hs:vP X t)
  (ha:∀v,assign (.Subscript o i pos) X.env v=(do
   let ov <-qX [v] (eval o X.env)
   let iv <-qX [v,ov] (eval i X.env)
   uC pos
   qX [v,ov,iv] (setItem ov iv v)
   release [v,ov,iv] []):=by intro _;rfl):PG X (.Subscript o i pos) (aoS to ti t):=by
 intro pins s σ H v u Q I r h;rw[ha];refine aG (mV (bO (ho pins s σ H _ I h) λov s1 aP=>?_))
 obtain⟨x,H1,I1,r1,q1⟩:=aP
 refine aG (mV (bO (hi pins s1 σ H1 _ I1 q1) λiv s2 aP=>?_))
 obtain⟨y,H2,I2,r2,q2⟩:=aP
 refine aG (vh (aG (mV (bO (hs pins s2 σ H2 x y v ov iv u _ I2 r1 r2 r q2) λ_ s3 aP=>?_))))
 obtain⟨H3,I3,q3⟩:=aP
 exact wpAny_release ⟨σ,H3,I3,q3⟩
def Df(te:TE)(g:TG):TS:=λD σ H=>te σ H λx H1=>g x σ H1 D.nx
theorem K5{tg e:Expr}{te:TE}{g:TG}(he:PE X e te)(hg:PG X tg g)(hs:wX [tg] e pos.line X.env=pure aJ:=by rfl)(hw:wY [tg] e X.env=pure aj:=by rfl)
  (h1:(rT [tg] X.env).map (·.2)=[assign tg X.env]:=by rfl):PS X (.Assign [tg] e pos) (Df te g):=by
 intro pins s σ H D I h;refine wpAny_Assign_stores (bO (he pins s σ H _ I h) λv s1 aP=>?_) hs hw
 obtain⟨x,H1,I1,r1,q1⟩:=aP
 rw[h1];exact bO (hg pins s1 σ H1 x v _ I1 r1 q1) λ_ s2 q=>q
theorem acw{i:Nat}{x:Str}{e:Expr}{te:TE}{pos':Pos}(hN:X.N.Nodup)(hi:X.N[i]?=aa x)(hx:Loc X.env.scope x)(he:PE X e te)(hs:ux e (aa (.Name x pos')) pos.line X.env=pure aJ:=by rfl)(hf:X.fn x=ao\/X.env.scope.names.lookup x=aa .local:=by first|exact .inl rfl|exact .inr rfl|assumption):
  PS X (.Assign [.Name x pos'] e pos) (Df te (xR i)):=by
 intro pins s σ H D I h;refine wpAny_Assign_Name (bO (he pins s σ H _ I h) λv s1 aP=>?_) hs
 obtain⟨y,H1,I1,r1,q1⟩:=aP
 exact uy I1 hN hi hx r1 (λs2 I2=>⟨_,H1,I2,q1⟩) hf
def aoT(i j:Nat)(ta:TA):TS:=λD σ H=>ta σ H λvs H1=>∃v w,vs=[v,w]/\D.nx ((σ.set i (aa v)).set j (aa w)) H1
theorem amn{i j:Nat}{x y:Str}{a b:Expr}{ta:TA}{px py pt:Pos}{kt k2 pB}(hc:X.calm=ao)(hN:X.N.Nodup)(hi:X.N[i]?=aa x)(hj:X.N[j]?=aa y)(hij:i≠j)
  (hx:X.env.scope.names.lookup x=aa .local)(hy:X.env.scope.names.lookup y=aa .local)(ha:PA X [a,b] ta)
  (hw:wY [.Tuple [.Name x px,.Name y py] kt pt] (.Tuple [a,b] k2 pB) X.env=pure (aa [x,y]))
  (hs:wX [.Tuple [.Name x px,.Name y py] kt pt] (.Tuple [a,b] k2 pB) pos.line X.env=pure aJ:=by rfl):
  PS X (.Assign [.Tuple [.Name x px,.Name y py] kt pt] (.Tuple [a,b] k2 pB) pos) (aoT i j ta):=by
 intro pins s σ H D I h;rw[exec_Assign_arm];refine aG (vh ?_);rw[hs];refine aG (bh ?_);rw[bH (by decide)];refine aG (Tuple_ (bO (ha _ pins s σ H _ I h) λus s1 aP=>?_))
 obtain⟨vs,H1,I1,r1,q1⟩:=aP
 obtain⟨v,w,e1,q1⟩:=q1
 subst e1
 obtain⟨u1,u2,rfl,rv,rw'⟩:∃u1 u2,us=[u1,u2]/\RelV v u1/\RelV w u2:=by
  cases r1 with
  |cons p q=>
   cases q with
   |cons p' q'=>
    cases q'
    exact⟨_,_,rfl,p,p'⟩
 refine mQ ?_ (by show 2<=cu;decide);have I2:Inv X pins σ H1 {s1 with heap:=s1.heap.push {cls:=.type "tuple",data:=.seq [u1,u2].toArray}}:=I1.kept (t':=s1.toks) λb o e=>cW _ e
 rw[hw];refine aG (bh ?_);show aR (model X.prog X.w) X.A (do rule "assign.swapped-stores";let items <-unpackItems (.ref s1.heap.objs.size) 2 aj;DW [λv=>vq X.env y v,λv=>vq X.env x v] items.reverse;pure QM) _ _ _;refine aG (zj (aG (unpackItems_tuple (items:=#[u1,u2]) (I.ok.hd hc) (IsTup.new s1.heap _) λh' hx'=>?_)));have I3:=I2.kept (h':=h') (t':=s1.toks) λb o e=>hx' b o (eO (cF e)) e
 show aR _ _ (DW [λv=>vq X.env y v,λv=>vq X.env x v] [u2,u1] >>= λ_=>pure QM) _ _ _;refine aG (assignInOrder_cons (Iv (uy I3 hN hj (.inl hy) rw' (λs2 I4=>?_) (.inr hy))));refine assignInOrder_cons (Iv (uy I4 hN hi (.inl hx) rv (λs3 I5=>assignInOrder_nil (bh ?_)) (.inr hx)));rw[Ph _ _ (lg hij)] at I5
 exact⟨_,H1,I5,q1⟩
def aoU(i:Nat)(te:TE)(ti:My):TS:=λD σ H=>∃x,σ[i]?=aa (aa x)/\te σ H λy H1=>ti x y H1 λz H2=>D.nx (σ.set i (aa z)) H2
theorem amo{i:Nat}{x:Str}{e:Expr}{te:TE}{op:Operator}{ti:My}{pos':Pos}(hN:X.N.Nodup)(hi:X.N[i]?=aa x)(hx:Loc X.env.scope x)(he:PE X e te)(ho:PIp X op ti)(hf:X.fn x=ao\/X.env.scope.names.lookup x=aa .local:=by first|exact .inl rfl|exact .inr rfl|assumption):
  PS X (.AugAssign (.Name x pos') op e pos) (aoU i te ti):=by
 intro pins s σ H D I h
 obtain⟨v,e1,h⟩:=h
 obtain⟨m,hn,hl⟩:=I.loc
 have vis:Mu X.env.scope x:=by rcases hx with k|k;exact .inl k;exact .inr (.inl k)
 obtain⟨u,r,l⟩:=hl i x v hi e1 vis
 refine wpAny_AugAssign_Name ?_;have go:aR (model X.prog X.w) X.A (eval e X.env) (λw s₂=>aR (model X.prog X.w) X.A (inplaceOp op u w) (λr s₃=>aR (model X.prog X.w) X.A (storeName X.env x r) (λ_=>SP X pins D .next) X.xe s₃) X.xe s₂) X.xe s:=by
  refine bO (he pins s σ H _ I h) λw s1 aP=>?_
  obtain⟨y,H1,I1,r1,q1⟩:=aP
  refine bO (ho pins s1 σ H1 v y u w _ I1 r r1 q1) λz s2 aP=>?_
  obtain⟨zv,H2,I2,r2,q2⟩:=aP
  exact uy I2 hN hi hx r2 (λs3 I3=>⟨_,H2,I3,q2⟩) hf
 rcases l with⟨hk,hm⟩|⟨hk,c,hc,hcell⟩
 .exact afy I.ok.kind hk hn hm go
 .rcases hk with hk|hk
  .exact afG I.ok.kind hk hc hcell go
  .rcases hx with k|k
   .have:X.env.scope.names.lookup x=aa .free:=hk;rw[k] at this;cases this
   .have:X.env.scope.names.lookup x=aa .free:=hk;rw[k] at this;cases this
def ipI(f:Int->Int->Int):My:=λx y H Q=>∃i j,x=.int i/\y=.int j/\Q (.int (f i j)) H
theorem amq:PIp X .Add (ipI λi j=>i+j):=by
 intro pins s σ H x y v u Q I r1 r2 h
 obtain⟨i,j,e1,e2,q⟩:=h
 subst e1;subst e2
 obtain⟨t,rfl⟩:=r1
 obtain⟨t',rfl⟩:=r2
 exact iadd_int ⟨.int _,H,I.tok _,⟨_,rfl⟩,q⟩
end
section
variable{X:Cx}{pos:Pos}
def acy(c:TT)(tb:TS):TS:=λD σ H=>∃W:Nat->St->Hp->Prop,(∃m,W m σ H)/\∀m σ H,W m σ H->
 c σ H λb H1=>if b=ao then ∃N:St->Hp->Prop,(∀σ' H',N σ' H'->∃m',m'<m/\W m' σ' H')/\tb {D with nx:=N,ct:=N,bk:=D.nx} σ H1 else D.nx σ H1
theorem ajr{c:Expr}{body:List dM}{tc:TT}{tb:TS}(hp:QS (model X.prog X.w) X.A X.env X.xe)(hc:PT X c tc)(hb:jG X body tb):PS X (.While c body [] pos) (acy tc tb):=by
 intro pins s σ H D I h
 obtain⟨W,⟨m0,w0⟩,turn⟩:=h
 refine wpAny_While (codeAny_whileLoop (λn s'=>∃σ' H',Inv X pins σ' H' s'/\W n σ' H') ?_ m0 ⟨σ,H,I,w0⟩);rintro n s1 ⟨σ1,H1,I1,w1⟩;refine Aw hp (bO (hc pins s1 σ1 H1 _ I1 (turn n σ1 H1 w1)) λb s2 aP=>?_)
 obtain⟨H2,I2,q2⟩:=aP
 cases b with
 |true=>
  obtain⟨N,hN,q2⟩:=q2
  rw[bz rfl];refine Aw hp (bO (hb pins s2 σ1 H2 _ I2 q2) λf s3 q3=>?_);cases f with
  |next=>
   obtain⟨σ3,H3,I3,n3⟩:=q3
   obtain⟨m',hm,w3⟩:=hN σ3 H3 n3
   exact⟨m',hm,σ3,H3,I3,w3⟩
  |cont=>
   obtain⟨σ3,H3,I3,n3⟩:=q3
   obtain⟨m',hm,w3⟩:=hN σ3 H3 n3
   exact⟨m',hm,σ3,H3,I3,w3⟩
  |brk=>exact q3
  |ret v=>exact q3
 |false=>
  rw[bH iI];exact Om ⟨σ1,H2,I2,q2⟩
end
structure It where
 go:Nat->Hp->Prop
 yC:Nat->Hp->V->Hp->Prop
 stop:Nat->Hp->Prop
def kI(X:Cx)(pins:List (aq×Obj))(H:Hp)(b:aq):Prop:=
 H b=aj/\b≠X.env.locals/\b∉X.fs/\(b∈X.ex\/X.s₀.heap.objs.size<=b)/\(∀x c,X.env.cells.lookup x=aa c->c≠b)/\∀p∈X.pn++pins,p.1≠b
theorem Inv.vQ{X:Cx}{pins:List (aq×Obj)}{σ:St}{H H':Hp}{s:aD}{b:aq}(I:Inv X pins σ H s)(hb:s.heap.objs.size<=b)(hn:H' b=aj):kI X pins H' b:=by
 refine⟨hn,Be (pG I.lt hb),I.aoM hb,.inr (j7 I.sz hb),λx c e z=>?_,λp hp z=>?_⟩
 .obtain⟨v,q⟩:=I.cell x c e
  exact absurd (pG q.lt (by rw[z];exact hb)) (wW _)
 .exact absurd (pG (cF (I.pin p hp).1) (by rw[z];exact hb)) (wW _)
structure Turn(P:bL)(w:bI)(K:aM)(tg:Expr)(J:It)(fp:List aq)(it:aq)(tn:Nat->bC->Prop):Prop where
 mem:it∈fp
 obj:∀i h,tn i h->∀b∈fp,∃o,h.get? b=aa o/\∀v,o.data≠.cell v
 keep:∀i h h',tn i h->(∀b∈fp,∀o,h.get? b=aa o->h'.get? b=aa o)->tn i h'
 item:∀(X:Cx),X.prog=P->X.w=w->X.K=K->X.calm=ao->∀(i:Nat)(pins:List (aq×Obj))(s:aD)(σ:St)(H:Hp)(E:Value->aD->Prop),Inv X pins σ H s->(∀b∈fp,kI X pins H b)->tn i s.heap->J.go i H->
  aR (model P w) X.A (nD (.ref it)) (λr s1=>∃u,r=aa u/\
   aR (model P w) X.A (yU tg (.ref it) u) (λ_ s2=>∃x H',Inv X pins σ H' s2/\RelV x u/\J.yC i H x H'/\tn (i+1) s2.heap/\∀b∈fp,H' b=aj) E s1) E s
 done:∀(X:Cx),X.prog=P->X.w=w->X.K=K->X.calm=ao->∀(i:Nat)(pins:List (aq×Obj))(s:aD)(σ:St)(H:Hp)(E:Value->aD->Prop),Inv X pins σ H s->(∀b∈fp,kI X pins H b)->tn i s.heap->J.stop i H->
  aR (model P w) X.A (nD (.ref it)) (λr s1=>r=aj/\Inv X pins σ H s1) E s
 self:∀(A:cM)(i:Nat)(s:aD)(Q:Value->aD->Prop)(E:Value->aD->Prop),tn i s.heap->Q (.ref it) s->aR (model P w) A (Cd (.ref it)) Q E s
abbrev TI:=St->Hp->(It->Hp->Prop)->Prop
def PIE(X:Cx)(pins:List (aq×Obj))(σ:St)(tg:Expr)(R:It->Hp->Prop)(itv:Value)(s2:aD):Prop:=
 ∃(it:aq)(fp:List aq)(tn:Nat->bC->Prop)(J:It)(H':Hp),itv=.ref it/\Inv X pins σ H' s2/\Turn X.prog X.w X.K tg J fp it tn/\tn 0 s2.heap/\(∀b∈fp,kI X pins H' b)/\R J H'
def PI(X:Cx)(tg iter:Expr)(wi:TI):Prop:=
 ∀(pins:List (aq×Obj))(s:aD)(σ:St)(H:Hp)(R:It->Hp->Prop),Inv X pins σ H s->wi σ H R->
  aR (model X.prog X.w) X.A (eval iter X.env) (λv s1=>aR (model X.prog X.w) X.A (Cd v) (PIE X pins σ tg R) X.xe s1) X.xe s
theorem Vd{M:Model}{A:cM}{E:Value->aD->Prop}{s:aD}{tg:Expr}{it:aq}{u:Value}{o:Obj}{n:String}{vs:Array Value}{Q:Unit->aD->Prop}(ho:s.heap.get? it=aa o)(hc:o.cls=.type n)(hd:o.data=.fields vs)
  (hn:["enumerate","zip","dict_itemiterator","dict_reverseitemiterator","odict_iterator","itertools.zip_longest","itertools.pairwise"].contains n=aJ)(hQ:Q () s):aR M A (yU tg (.ref it) u) Q E s:=by
 unfold yU;cases tg<;>first
  |exact bh hQ
  |(cases u<;>first
    |exact bh hQ
    |(refine aG (Jy ho ?_)
      rw[hc,hd];show aR M A (if(["enumerate","zip","dict_itemiterator","dict_reverseitemiterator","odict_iterator","itertools.zip_longest","itertools.pairwise"].contains n&&vs[0]?==aa (je _))=ao then _ else _) Q E s;rw[bH (by intro h;rw[hn,Yu] at h;cases h)];exact bh hQ))
def V7(K:aM)(a:aq):It:=
 ⟨λi H=>∃xs x,bR K H a xs/\xs[i]?=aa x,λi H x H'=>H'=H/\∀xs,bR K H a xs->xs[i]?=aa x,λi H=>∃xs,bR K H a xs/\xs.length<=i⟩
def V8(K:aM)(a:aq):It:=
 ⟨λi H=>∃xs x,dj K H a xs/\xs[i]?=aa x,λi H x H'=>H'=H/\∀xs,dj K H a xs->xs[i]?=aa x,λi H=>∃xs,dj K H a xs/\xs.length<=i⟩
def G4(lo:Int)(n:Nat):It:=⟨λi _=>i<n,λi H x H'=>H'=H/\x=.int (lo+i),λi _=>n<=i⟩
theorem aiq{P:bL}{w:bI}{K:aM}{tg:Expr}(a it:aq):Turn P w K tg (V7 K a) [it] it (λi h=>h.IsListIter it a i) where
 mem:=by simp
 obj:=λi h st b hb=>by
  have e:b=it:=by simpa using hb
  subst e
  obtain⟨o,e,c,d⟩:=st
  exact⟨o,e,λv z=>by rw[d] at z;cases z⟩
 keep:=λi h h' st k=>st.at λo e=>k it (by simp) o e
 item:=by
  intro X hP hw hK hc i pins s σ H E I hf st hg;subst hP hw hK
  obtain⟨xs,x,hq,hx⟩:=hg
  obtain⟨its,rv,p,hz⟩:=I.list hq
  obtain⟨u,hu,ru⟩:=rv.get hx
  obtain⟨f0,f1,f2,f3,f4,f5⟩:=hf it (by simp)
  refine wpAny_pyNext_list_item st p.isList (x:=u) (by simpa using hu) λh' st' sb=>?_
  have I1:Inv X pins σ H {s with heap:=h'}:=I.turned (t':=s.toks) (λb o hb e=>(sb.2 b hb).trans e) f0 f1 f3 f4 f5
  obtain⟨o,e,c,d⟩:=id st'
  exact⟨u,rfl,Vd (s:={s with heap:=h'}) e c d (by decide) ⟨x,H,I1,ru,⟨rfl,λys hy=>by rw[I.J0 hy hq];exact hx⟩,st',λb hb=>(hf b hb).1⟩⟩
 done:=by
  intro X hP hw hK hc i pins s σ H E I hf st hg;subst hP hw hK
  obtain⟨xs,hq,hx⟩:=hg
  obtain⟨its,rv,p,hz⟩:=I.list hq
  obtain⟨f0,f1,f2,f3,f4,f5⟩:=hf it (by simp)
  have hl:=rv.length;exact wpAny_pyNext_list_end (I.ok.hd hc) st p.isList (by simp;lia) λh' eb=>⟨rfl,I.turned (t':=s.toks) (λb o hb e=>eb b o hb e) f0 f1 f3 f4 f5⟩
 self:=λ_ _ _ _ _ st h=>wpAny_pyIter_listiter st h
theorem ahG{P:bL}{w:bI}{K:aM}{tg:Expr}(a it:aq):Turn P w K tg (V8 K a) [it] it (λi h=>h.IsTupleIter it a i) where
 mem:=by simp
 obj:=λi h st b hb=>by
  have e:b=it:=by simpa using hb
  subst e
  obtain⟨o,e,c,d⟩:=st
  exact⟨o,e,λv z=>by rw[d] at z;cases z⟩
 keep:=λi h h' st k=>st.at λo e=>k it (by simp) o e
 item:=by
  intro X hP hw hK hc i pins s σ H E I hf st hg;subst hP hw hK
  obtain⟨xs,x,hq,hx⟩:=hg
  obtain⟨its,rv,p,hz⟩:=I.tuple hq
  obtain⟨u,hu,ru⟩:=rv.get hx
  obtain⟨f0,f1,f2,f3,f4,f5⟩:=hf it (by simp)
  refine wpAny_pyNext_tuple_item st (show s.heap.IsTuple a its.toArray from p) (x:=u) (by simpa using hu) λh' st' sb=>?_
  have I1:Inv X pins σ H {s with heap:=h'}:=I.turned (t':=s.toks) (λb o hb e=>(sb.2 b hb).trans e) f0 f1 f3 f4 f5
  obtain⟨o,e,c,d⟩:=id st'
  exact⟨u,rfl,Vd (s:={s with heap:=h'}) e c d (by decide) ⟨x,H,I1,ru,⟨rfl,λys hy=>by rw[I.aip hy hq];exact hx⟩,st',λb hb=>(hf b hb).1⟩⟩
 done:=by
  intro X hP hw hK hc i pins s σ H E I hf st hg;subst hP hw hK
  obtain⟨xs,hq,hx⟩:=hg
  obtain⟨its,rv,p,hz⟩:=I.tuple hq
  obtain⟨f0,f1,f2,f3,f4,f5⟩:=hf it (by simp)
  have hl:=rv.length;exact wpAny_pyNext_tuple_end (I.ok.hd hc) st (show s.heap.IsTuple a its.toArray from p) (by simp;lia) λh' eb=>⟨rfl,I.turned (t':=s.toks) (λb o hb e=>eb b o hb e) f0 f1 f3 f4 f5⟩
 self:=λ_ _ _ _ _ st h=>wpAny_pyIter_tupleiter st h
theorem ahH{P:bL}{w:bI}{K:aM}{tg:Expr}(it:aq)(lo:Int)(n:Nat):Turn P w K tg (G4 lo n) [it] it (λi h=>IsRangeIter h it (lo+(i:Nat)*1) ((n:Int)-(i:Nat)) 1) where
 mem:=by simp
 obj:=λi h st b hb=>by
  have e:b=it:=by simpa using hb
  subst e
  exact⟨_,st,λv z=>by
   have z':Data.fields _=Data.cell v:=z;cases z'⟩
 keep:=λi h h' st k=>k it (by simp) _ st
 item:=by
  intro X hP hw hK hc i pins s σ H E I hf st hg;subst hP hw hK
  obtain⟨f0,f1,f2,f3,f4,f5⟩:=hf it (by simp)
  have W:=Walks.range (prog:=X.prog) (w:=X.w) (I.ok.hd hc) it lo 1 n;refine W.item i s _ _ hg st λv h' tk hv st' kk=>?_
  obtain⟨t,rfl⟩:=hv
  have I1:Inv X pins σ H {s with heap:=h',toks:=tk}:=I.turned (λb o hb e=>kk b o (by simpa using hb) e) f0 f1 f3 f4 f5
  refine⟨_,rfl,Vd (s:={s with heap:=h',toks:=tk}) (n:="range_iterator") st' rfl rfl (by decide) ⟨.int (lo+i),H,I1,⟨t,?_⟩,⟨rfl,rfl⟩,st',λb hb=>(hf b hb).1⟩⟩
  rw[Zr]
 done:=by
  intro X hP hw hK hc i pins s σ H E I hf st hg;subst hP hw hK
  obtain⟨f0,f1,f2,f3,f4,f5⟩:=hf it (by simp)
  exact wpAny_pyNext_range_end (I.ok.hd hc) st (by have:n<=i:=hg;lia) λh' eb=>⟨rfl,I.turned (t':=s.toks) (λb o hb e=>eb b o hb e) f0 f1 f3 f4 f5⟩
 self:=λ_ _ _ _ _ st h=>wpAny_pyIter_rangeiter st h
section
variable{X:Cx}{tg:Expr}
def anQ(K:aM)(tl:TE):TI:=λσ H R=>tl σ H λx H1=>∃a,x=.ref a/\(∃xs,bR K H1 a xs)/\R (V7 K a) H1
def aoV(K:aM)(tl:TE):TI:=λσ H R=>tl σ H λx H1=>∃a,x=.ref a/\(∃xs,dj K H1 a xs)/\R (V8 K a) H1
theorem S7{l:Expr}{tl:TE}(hl:PE X l tl):PI X tg l (anQ X.K tl):=by
 intro pins s σ H R I h;refine bO (hl pins s σ H _ I h) λv s1 aP=>?_
 obtain⟨x,H1,I1,r1,q1⟩:=aP
 obtain⟨a,e,⟨xs,hq⟩,q⟩:=q1
 subst e;cases r1
 obtain⟨its,rv,p,hz⟩:=I1.list hq
 refine XF p.isList ?_
 refine⟨s1.heap.objs.size,[s1.heap.objs.size],_,_,H1,rfl,I1.kept (t':=s1.toks) λb o e=>cW _ e,aiq a _,⟨_,iH _ rfl,rfl,rfl⟩,λb hb=>?_,q⟩
 have e:b=s1.heap.objs.size:=by simpa using hb
 subst e;exact I1.vQ (cg _) (I1.hok.fresh (cg _))
theorem Ui{l:Expr}{tl:TE}(hl:PE X l tl):PI X tg l (aoV X.K tl):=by
 intro pins s σ H R I h;refine bO (hl pins s σ H _ I h) λv s1 aP=>?_
 obtain⟨x,H1,I1,r1,q1⟩:=aP
 obtain⟨a,e,⟨xs,hq⟩,q⟩:=q1
 subst e;cases r1
 obtain⟨its,rv,p,hz⟩:=I1.tuple hq
 refine wpAny_pyIter_tuple (show s1.heap.IsTuple a its.toArray from p) ?_
 refine⟨s1.heap.objs.size,[s1.heap.objs.size],_,_,H1,rfl,I1.kept (t':=s1.toks) λb o e=>cW _ e,ahG a _,⟨_,iH _ rfl,rfl,rfl⟩,λb hb=>?_,q⟩
 have e:b=s1.heap.objs.size:=by simpa using hb
 subst e;exact I1.vQ (cg _) (I1.hok.fresh (cg _))
theorem aaI{pins:List (aq×Obj)}{σ:St}{H:Hp}{s:aD}{R:It->Hp->Prop}{E:Value->aD->Prop}{lo hi:Int}{t u v:Tok}{tk:Nat}(I:Inv X pins σ H s)(h1:-(2^62)<=lo)(h2:lo<2^62)(h3:-(2^62)<=hi)(h4:hi<2^62)
  (q:R (G4 lo (hi-lo).toNat) H):aR (model X.prog X.w) X.A (Cd (.ref s.heap.objs.size)) (PIE X pins σ tg R) E {s with heap:=s.heap.push {cls:=.type "range",data:=.fields #[.int lo t,.int hi u,.int 1 v]},toks:=tk}:=by
 refine wpAny_pyIter_range (IsRange.new ..) (small_one h1 h2 h3 h4) ?_;have I1:Inv X pins σ H {s with heap:=s.heap.push {cls:=.type "range",data:=.fields #[.int lo t,.int hi u,.int 1 v]},toks:=tk}:=I.kept λb o e=>cW _ e
 refine⟨(s.heap.push {cls:=.type "range",data:=.fields #[.int lo t,.int hi u,.int 1 v]}).objs.size,[(s.heap.push {cls:=.type "range",data:=.fields #[.int lo t,.int hi u,.int 1 v]}).objs.size],_,_,H,rfl,
  I1.kept (t':=tk) λb o e=>cW _ e,ahH _ lo (hi-lo).toNat,?_,λb hb=>?_,q⟩
 .have e1:lo+((0:Nat):Int)*1=lo:=by simp
  have e2:(((hi-lo).toNat:Nat):Int)-((0:Nat):Int)=arp lo hi 1:=by rw[rangeSize_one];split<;>lia
  show IsRangeIter _ _ (lo+((0:Nat):Int)*1) ((((hi-lo).toNat:Nat):Int)-((0:Nat):Int)) 1;rw[e1,e2];exact iH _ rfl
 .have e:b=(s.heap.push {cls:=.type "range",data:=.fields #[.int lo t,.int hi u,.int 1 v]}).objs.size:=by simpa using hb
  subst e;exact I1.vQ (cg _) (I1.hok.fresh (cg _))
def anR(ta:TA):TI:=λσ H R=>ta σ H λvs H1=>∃j:Int,vs=[.int j]/\-(2^62)<=j/\j<2^62/\R (G4 0 j.toNat) H1
def anS(ta:TA):TI:=λσ H R=>ta σ H λvs H1=>∃i j:Int,vs=[.int i,.int j]/\(-(2^62)<=i/\i<2^62/\-(2^62)<=j/\j<2^62)/\R (G4 i (j-i).toNat) H1
theorem air{a:Expr}{ta:TA}{p pos:Pos}(hg:Gl X "range")(hm:X.mg "range"=aj)(ha:PA X [a] ta)(hs:bJ [a] X.env=[(aJ,eval a X.env)]:=by rfl):PI X tg (.Call (.Name "range" p) [a] [] pos) (anR ta):=by
 intro pins s σ H R I h;refine Call_ (vD I hg hm boot_range (HJ (bO (ha pos pins s σ H _ I h) λus s1 aP=>?_) hs rfl))
 obtain⟨vs,H1,I1,r1,q1⟩:=aP
 obtain⟨j,e,q1,q2,q⟩:=q1
 subst e;cases r1 with
 |cons r rr=>
  cases rr
  obtain⟨t,rfl⟩:=r
  exact call_range_1 (aaI I1 (by lia) (by lia) q1 q2 (by simpa using q))
theorem ais{a b:Expr}{ta:TA}{p pos:Pos}(hg:Gl X "range")(hm:X.mg "range"=aj)(ha:PA X [a,b] ta)(hs:bJ [a,b] X.env=[(aJ,eval a X.env),(aJ,eval b X.env)]:=by rfl)(hs2:bJ [b] X.env=[(aJ,eval b X.env)]:=by rfl):
  PI X tg (.Call (.Name "range" p) [a,b] [] pos) (anS ta):=by
 intro pins s σ H R I h;refine Call_ (vD I hg hm boot_range (HJ (bO (ha pos pins s σ H _ I h) λus s1 aP=>?_) (by rw[hs,hs2]) (by rw[hs2];rfl)))
 obtain⟨vs,H1,I1,r1,q1⟩:=aP
 obtain⟨i,j,e,⟨q1,q2,q3,q4⟩,q⟩:=q1
 subst e;cases r1 with
 |cons r rr=>
  cases rr with
  |cons r' rr=>
   cases rr
   obtain⟨t,rfl⟩:=r
   obtain⟨t',rfl⟩:=r'
   exact call_range_2 (aaI I1 q1 q2 q3 q4 q)
def adO(wi:TI)(g:TG)(tb:TS):TS:=λD σ H=>wi σ H λJ H1=>∃W:Nat->Nat->St->Hp->Prop,(∃m,W 0 m σ H1)/\∀i m σ H,W i m σ H->
 (J.stop i H/\D.nx σ H)\/(J.go i H/\∃N:St->Hp->Prop,(∀σ' H',N σ' H'->∃m',m'<m/\W (i+1) m' σ' H')/\∀x H',J.yC i H x H'->g x σ H' λσ2 H2=>tb {D with nx:=N,ct:=N,bk:=D.nx} σ2 H2)
def Ft(fp:List aq)(h:bC):List (aq×Obj):=fp.filterMap λb=>(h.get? b).map λo=>(b,o)
theorem Jz{fp:List aq}{h:bC}{b:aq}{o:Obj}(hb:b∈fp)(e:h.get? b=aa o):(b,o)∈Ft fp h:=NK.mpr ⟨b,hb,by rw[e];rfl⟩
theorem ait{fp:List aq}{h:bC}{p:aq×Obj}(hp:p∈Ft fp h):p.1∈fp/\h.get? p.1=aa p.2:=by
 obtain⟨b,hb,e⟩:=NK.mp hp
 cases q:h.get? b with
 |none=>rw[q] at e;cases e
 |some o=>
  rw[q] at e;have e':(b,o)=p:=gP e;subst e'
  exact⟨hb,q⟩
theorem Inv.pinned{pins:List (aq×Obj)}{σ:St}{H:Hp}{s:aD}{fp:List aq}(I:Inv X pins σ H s)(hf:∀b∈fp,kI X pins H b)(ho:∀b∈fp,∃o,s.heap.get? b=aa o/\∀v,o.data≠.cell v):Inv X (pins++Ft fp s.heap) σ H s:=
 I.abC λp hp=>(dB.mp hp).elim (λz=>I.pin p (fK _ z)) λz=>by
  obtain⟨hb,e⟩:=ait z
  obtain⟨f0,f1,f2,_⟩:=hf p.1 hb
  obtain⟨o,e',d⟩:=ho p.1 hb
  rw[e] at e';cases e'
  exact⟨e,f0,f1,f2,d⟩
theorem Inv.J1{pins pl:List (aq×Obj)}{σ:St}{H:Hp}{s:aD}(I:Inv X (pins++pl) σ H s):Inv X pins σ H s:=I.abC λp hp=>I.pin p (fK _ (iW _ hp))
theorem amr{iter:Expr}{body:List dM}{wi:TI}{g:TG}{tb:TS}{pos:Pos}(hp:QS (model X.prog X.w) X.A X.env X.xe)(hc:X.calm=ao)(hi:PI X tg iter wi)(hg:PG X tg g)(hb:jG X body tb)
  (hs:∀x,vf iter X.env x=pure x:=by intro _;rfl):PS X (.For tg iter body [] pos) (adO wi g tb):=by
 intro pins s σ H D I h;refine wpAny_For (bO (hi pins s σ H _ I h) λv s1 h1=>bO h1 λitv s2 h2=>?_) hs
 obtain⟨it,fp,tn,J,H2,e,I2,T,st2,f2,W,⟨m0,w0⟩,turn⟩:=h2
 subst e;have stat:∀{H':Hp},(∀b∈fp,H' b=aj)->∀b∈fp,kI X pins H' b:=λhn b hb=>⟨hn b hb,(f2 b hb).2⟩
 refine codeAny_forLoop_any (λn s'=>∃i σ' H',Inv X pins σ' H' s'/\tn i s'.heap/\(∀b∈fp,H' b=aj)/\W i n σ' H') ?_ m0 ⟨0,σ,H2,I2,st2,λb hb=>(f2 b hb).1,w0⟩;rintro n s3 ⟨i,σ3,H3,I3,st3,G5,w3⟩;rcases turn i n σ3 H3 w3 with⟨stop,qn⟩|⟨go,N,hN,step⟩
 .refine Aw hp (bO (T.done X rfl rfl rfl hc i pins s3 σ3 H3 X.xe I3 (stat G5) st3 stop) λr s4 aP=>?_)
  obtain⟨hr,I4⟩:=aP
  subst hr;exact Om ⟨σ3,H3,I4,qn⟩
 .refine Aw hp (bO (T.item X rfl rfl rfl hc i pins s3 σ3 H3 X.xe I3 (stat G5) st3 go) λr s4 aP=>?_)
  obtain⟨u,hr,h4⟩:=aP
  subst hr;refine Aw hp (bO h4 λ_ s5 aP=>?_)
  obtain⟨x,H5,I5,r5,y5,Ad,V9⟩:=aP
  have Wa:=I5.pinned (stat V9) (T.obj _ _ Ad);refine Aw hp (bO (hg _ s5 σ3 H5 x u _ Wa r5 (step x H5 y5)) λ_ s6 aP=>?_)
  obtain⟨σ6,H6,I6,q6⟩:=aP
  refine Aw hp (bO (hb _ s6 σ6 H6 _ I6 q6) λf s7 q7=>?_);have again:∀{σ7:St}{H7:Hp},Inv X (pins++Ft fp s5.heap) σ7 H7 s7->N σ7 H7->∃m,m<n/\∃i σ' H',Inv X pins σ' H' s7/\tn i s7.heap/\(∀b∈fp,H' b=aj)/\W i m σ' H':=λ{σ7 H7} I7 n7=>by
   obtain⟨m',hm,w7⟩:=hN σ7 H7 n7
   refine⟨m',hm,i+1,σ7,H7,I7.J1,T.keep _ _ _ Ad λb hb o e=>(I7.pin (b,o) (fK _ (fK _ (Jz hb e)))).1,λb hb=>?_,w7⟩
   obtain⟨o,e,d⟩:=T.obj _ _ Ad b hb
   exact(I7.pin (b,o) (fK _ (fK _ (Jz hb e)))).2.1
  cases f with
  |next=>obtain⟨σ7,H7,I7,n7⟩:=q7;exact again I7 n7
  |cont=>obtain⟨σ7,H7,I7,n7⟩:=q7;exact again I7 n7
  |brk=>obtain⟨σ7,H7,I7,q7⟩:=q7;exact⟨σ7,H7,I7.J1,q7⟩
  |ret v=>obtain⟨x7,σ7,H7,I7,r7,q7⟩:=q7;exact⟨x7,σ7,H7,I7.J1,r7,q7⟩
end
abbrev R2:=V->V->Hp->VK->Prop
def dm(X:Cx)(f:Value->Value->Sem Value)(r:R2):Prop:=
 ∀(pins:List (aq×Obj))(s:aD)(σ:St)(H:Hp)(x y:V)(v u:Value)(Q:VK),Inv X pins σ H s->RelV x v->RelV y u->r x y H Q->
  aR (model X.prog X.w) X.A (f v u) (EP X pins σ Q) X.xe s
def Wb(X:Cx)(f:Value->Sem Value)(r:V->Hp->VK->Prop):Prop:=
 ∀(pins:List (aq×Obj))(s:aD)(σ:St)(H:Hp)(x:V)(v:Value)(Q:VK),Inv X pins σ H s->RelV x v->r x H Q->
  aR (model X.prog X.w) X.A (f v) (EP X pins σ Q) X.xe s
def ie(X:Cx)(f:Value)(r:List V->Hp->VK->Prop):Prop:=
 ∀(pins:List (aq×Obj))(s:aD)(σ:St)(H:Hp)(xs:List V)(us:List Value)(Q:VK),Inv X pins σ H s->Vals xs us->r xs H Q->
  aR (model X.prog X.w) X.A (call f us) (EP X pins σ Q) X.xe s
def aoW(X:Cx)(r:V->Hp->(Bool->Hp->Prop)->Prop):Prop:=
 ∀(pins:List (aq×Obj))(s:aD)(σ:St)(H:Hp)(x:V)(v:Value)(Q:Bool->Hp->Prop),Inv X pins σ H s->RelV x v->r x H Q->
  aR (model X.prog X.w) X.A (truthy v) (TP X pins σ Q) X.xe s
def G6(r:R2)(ta tb:TE):TE:=λσ H Q=>ta σ H λx H1=>tb σ H1 λy H2=>r x y H2 Q
def tUn(r:V->Hp->VK->Prop)(ta:TE):TE:=λσ H Q=>ta σ H λx H1=>r x H1 Q
def rI(C:Int->Int->Prop)(g:Int->Int->V):R2:=λx y H Q=>∃i j,x=.int i/\y=.int j/\C i j/\Q (g i j) H
def qK(g:Int->Int->V):R2:=λx y H Q=>∃i j,x=.int i/\y=.int j/\Q (g i j) H
def rU(g:Int->V):V->Hp->VK->Prop:=λx H Q=>∃i,x=.int i/\Q (g i) H
section
variable{X:Cx}{a b c:Expr}{ta tb tc:TE}{pos:Pos}
theorem VD(ha:PE X a ta)(hb:PE X b tb){pins:List (aq×Obj)}{s:aD}{σ:St}{H:Hp}{R:V->V->Hp->Prop}(I:Inv X pins σ H s)
  (h:ta σ H λx H1=>tb σ H1 λy H2=>R x y H2){Q:Value->aD->Prop}{f:Value->Value->Sem Value}
  (hf:∀v u s2 x y H2,Inv X pins σ H2 s2->RelV x v->RelV y u->R x y H2->aR (model X.prog X.w) X.A (f v u) Q X.xe s2):
  aR (model X.prog X.w) X.A (eval a X.env) (λv s₁=>aR (model X.prog X.w) X.A (eval b X.env) (λu s₂=>aR (model X.prog X.w) X.A (f v u) Q X.xe s₂) X.xe s₁) X.xe s:=by
 refine bO (ha pins s σ H _ I h) λv s1 aP=>?_
 obtain⟨x,H1,I1,r1,q1⟩:=aP
 refine bO (hb pins s1 σ H1 _ I1 q1) λu s2 aP=>?_
 obtain⟨y,H2,I2,r2,q2⟩:=aP
 exact hf v u s2 x y H2 I2 r1 r2 q2
theorem anT{op:Operator}{r:R2}(ho:dm X (qj op) r)(ha:PE X a ta)(hb:PE X b tb):PE X (.BinOp a op b pos) (G6 r ta tb):=by
 intro pins s σ H Q I h;exact wpAny_BinOp (VD ha hb I h λv u s2 x y H2 I2 rx ry q=>ho pins s2 σ H2 x y v u Q I2 rx ry q)
theorem anU{op:UnaryOp}{r:V->Hp->VK->Prop}(ho:Wb X (unaryOp op) r)(ha:PE X a ta):PE X (.UnaryOp op a pos) (tUn r ta):=by
 intro pins s σ H Q I h;exact UnaryOp_ (bO (ha pins s σ H _ I h) λv s1 ⟨x,H1,I1,r1,q1⟩=>ho pins s1 σ H1 x v Q I1 r1 q1)
theorem Mz{f:Value->Value->Sem Value}{C:Int->Int->Prop}{g:Int->Int->Int}
  (rule:∀(i j:Int)(t u:Tok)(s:aD)(Q:Value->aD->Prop)(E:Value->aD->Prop),C i j->Q (.int (g i j) s.toks) {s with toks:=s.toks+1}->aR (model X.prog X.w) X.A (f (.int i t) (.int j u)) Q E s):
  dm X f (rI C λi j=>.int (g i j)):=by
 intro pins s σ H x y v u Q I rx ry h
 obtain⟨i,j,rfl,rfl,hc,q⟩:=h
 obtain⟨t,rfl⟩:=rx
 obtain⟨t',rfl⟩:=ry
 exact rule i j t t' s _ _ hc ⟨.int (g i j),H,I.tok _,⟨_,rfl⟩,q⟩
theorem adP{f:Value->Value->Sem Value}{g:Int->Int->Int}
  (rule:∀(i j:Int)(t u:Tok)(s:aD)(Q:Value->aD->Prop)(E:Value->aD->Prop),Q (.int (g i j) s.toks) {s with toks:=s.toks+1}->aR (model X.prog X.w) X.A (f (.int i t) (.int j u)) Q E s):
  dm X f (qK λi j=>.int (g i j)):=by
 intro pins s σ H x y v u Q I rx ry h
 obtain⟨i,j,rfl,rfl,q⟩:=h
 obtain⟨t,rfl⟩:=rx
 obtain⟨t',rfl⟩:=ry
 exact rule i j t t' s _ _ ⟨.int (g i j),H,I.tok _,⟨_,rfl⟩,q⟩
theorem VF{f:Value->Value->Sem Value}{g:Int->Int->Bool}
  (rule:∀(i j:Int)(t u:Tok)(s:aD)(Q:Value->aD->Prop)(E:Value->aD->Prop),Q (.bool (g i j)) s->aR (model X.prog X.w) X.A (f (.int i t) (.int j u)) Q E s):
  dm X f (qK λi j=>.bl (g i j)):=by
 intro pins s σ H x y v u Q I rx ry h
 obtain⟨i,j,rfl,rfl,q⟩:=h
 obtain⟨t,rfl⟩:=rx
 obtain⟨t',rfl⟩:=ry
 exact rule i j t t' s _ _ ⟨.bl (g i j),H,I,rfl,q⟩
def adQ(i j:Int):Prop:=0<j/\j<1073741824
def adR(i j:Int):Prop:=0<=j/\j<=1000000/\i.natAbs<2^64
def Mf(i j:Int):Prop:=(-(2^64)<i/\i<2^64)\/(-(2^64)<j/\j<2^64)
theorem Mf.ok{i j:Int}(h:Mf i j):IntMulOk i j:=by
 rcases h with⟨h1,h2⟩|⟨h1,h2⟩
 .exact .of_left (intBits_le_64 h1 h2)
 .exact .of_right (intBits_le_64 h1 h2)
theorem ams:dm X (qj .Add) (qK λi j=>.int (i+j)):=adP λ_ _ _ _ _ _ _ q=>add_int q
theorem Fv:dm X (qj .Sub) (qK λi j=>.int (i-j)):=adP λ_ _ _ _ _ _ _ q=>sub_int q
theorem qY:dm X (qj .Mult) (rI Mf λi j=>.int (i*j)):=Mz λ_ _ _ _ _ _ _ hc q=>mul_int q hc.ok
theorem S8:dm X (qj .FloorDiv) (rI adQ λi j=>.int (i / j)):=Mz λi j _ _ _ _ _ hc q=>by
 have h1:(0:Int)<j:=hc.1;have h2:j<1073741824:=hc.2;exact floordiv_int (by lia) (by rw[Int.fdiv_eq_ediv_of_nonneg i (by lia)];exact q) (.inl (PyProof.noPylong_small (by lia)))
theorem sG:dm X (qj .Mod) (rI (λ_ j=>0<j) λi j=>.int (i%j)):=Mz λi j _ _ _ _ _ hc q=>by
 have h1:(0:Int)<j:=hc;exact mod_int' (by lia) (by rw[Int.fmod_eq_emod_of_nonneg i (by lia)];exact q)
theorem Uj:dm X (qj .Pow) (rI adR λi j=>.int (i^j.toNat)):=Mz λ_ _ _ _ _ _ _ hc q=>pow_int_small hc.1 hc.2.1 hc.2.2 q
theorem unI{f:Value->Sem Value}{g:Int->Int}
  (rule:∀(i:Int)(t:Tok)(s:aD)(Q:Value->aD->Prop)(E:Value->aD->Prop),Q (.int (g i) s.toks) {s with toks:=s.toks+1}->aR (model X.prog X.w) X.A (f (.int i t)) Q E s):
  Wb X f (rU λi=>.int (g i)):=by
 intro pins s σ H x v Q I rx h
 obtain⟨i,rfl,q⟩:=h
 obtain⟨t,rfl⟩:=rx
 exact rule i t s _ _ ⟨.int (g i),H,I.tok _,⟨_,rfl⟩,q⟩
theorem amt:Wb X (unaryOp .USub) (rU λi=>.int (-i)):=unI λ_ _ _ _ _ q=>neg_int q
end
def VG:V->V->Bool
 |.non,.non=>ao|.non,.int _=>ao|.int _,.non=>ao|.non,.bl _=>ao|.bl _,.non=>ao|.non,.str _=>ao|.str _,.non=>ao
 |.int _,.int _=>ao|.bl _,.bl _=>ao|.str _,.str _=>ao|.qJ _,.qJ _=>ao
 |.int _,.str _=>ao|.str _,.int _=>ao|.bl _,.str _=>ao|.str _,.bl _=>ao
 |_,_=>aJ
def rEq:R2:=λx y H Q=>VG x y=ao/\Q (.bl (decide (x=y))) H
def rNe:R2:=λx y H Q=>VG x y=ao/\Q (.bl (!decide (x=y))) H
theorem S9{i j:Int}:decide (V.int i=V.int j)=(i==j):=by
 rw[rO];simp
theorem Uk{i j:Bool}:decide (V.bl i=V.bl j)=(i==j):=by
 rw[rO];simp
theorem Tc{i j:Str}:decide (V.str i=V.str j)=(i==j):=by
 rw[rO];simp
theorem abD{i j:Array UInt8}:decide (V.qJ i=V.qJ j)=(i.toList==j.toList):=by
 rw[rO];cases i;cases j;simp
section
variable{X:Cx}{a b c:Expr}{ta tb tc:TE}{pos:Pos}
theorem gJ{pins:List (aq×Obj)}{σ:St}{H:Hp}{s:aD}{Q:VK}{k k':Bool}(I:Inv X pins σ H s)(q:Q (.bl k) H)(e:k=k'):EP X pins σ Q (.bool k') s:=by
 subst e
 exact⟨.bl k,H,I,rfl,q⟩
theorem anV:dm X (fU .Eq) rEq:=by
 intro pins s σ H x y v u Q I rx ry h
 obtain⟨hs,q⟩:=h
 cases x with
 |non=>
  cases rx;cases y with
  |non=>cases ry;exact aqU (gJ I q (by simp))
  |bl j=>cases ry;exact aqV (gJ I q (by simp))
  |int j=>obtain⟨t',rfl⟩:=ry;exact aq6 (gJ I q (by simp))
  |str j=>obtain⟨t',rfl⟩:=ry;exact aq7 (gJ I q (by simp))
  |_=>exact absurd (show aJ=ao from hs) iI
 |bl i=>
  cases rx;cases y with
  |non=>cases ry;exact aqW (gJ I q (by simp))
  |bl j=>cases ry;exact eq_bool (gJ I q Uk)
  |str j=>obtain⟨t',rfl⟩:=ry;exact aqX (gJ I q (by simp))
  |_=>exact absurd (show aJ=ao from hs) iI
 |int i=>
  obtain⟨t,rfl⟩:=rx
  cases y with
  |non=>cases ry;exact aq8 (gJ I q (by simp))
  |int j=>obtain⟨t',rfl⟩:=ry;exact eq_int (gJ I q S9)
  |str j=>obtain⟨t',rfl⟩:=ry;exact aq9 (gJ I q (by simp))
  |_=>exact absurd (show aJ=ao from hs) iI
 |str i=>
  obtain⟨t,rfl⟩:=rx
  cases y with
  |non=>cases ry;exact ara (gJ I q (by simp))
  |bl j=>cases ry;exact aqY (gJ I q (by simp))
  |int j=>obtain⟨t',rfl⟩:=ry;exact arb (gJ I q (by simp))
  |str j=>obtain⟨t',rfl⟩:=ry;exact eq_str (gJ I q Tc)
  |_=>exact absurd (show aJ=ao from hs) iI
 |qJ i=>
  obtain⟨t,rfl⟩:=rx
  cases y with
  |qJ j=>obtain⟨t',rfl⟩:=ry;exact PySem.W.eq_bytes (gJ I q abD)
  |_=>exact absurd (show aJ=ao from hs) iI
 |_=>cases y<;>exact absurd (show aJ=ao from hs) iI
theorem anW:dm X (fU .NotEq) rNe:=by
 intro pins s σ H x y v u Q I rx ry h
 obtain⟨hs,q⟩:=h
 cases x with
 |non=>
  cases rx;cases y with
  |non=>cases ry;exact aqZ (gJ I q (by simp))
  |bl j=>cases ry;exact aq0 (gJ I q (by simp))
  |int j=>obtain⟨t',rfl⟩:=ry;exact arc (gJ I q (by simp))
  |str j=>obtain⟨t',rfl⟩:=ry;exact ard (gJ I q (by simp))
  |_=>exact absurd (show aJ=ao from hs) iI
 |bl i=>
  cases rx;cases y with
  |non=>cases ry;exact aq1 (gJ I q (by simp))
  |bl j=>cases ry;exact ne_bool (gJ I q (congrArg not Uk))
  |str j=>obtain⟨t',rfl⟩:=ry;exact aq2 (gJ I q (by simp))
  |_=>exact absurd (show aJ=ao from hs) iI
 |int i=>
  obtain⟨t,rfl⟩:=rx
  cases y with
  |non=>cases ry;exact arf (gJ I q (by simp))
  |int j=>obtain⟨t',rfl⟩:=ry;exact ne_int (gJ I q (congrArg not S9))
  |str j=>obtain⟨t',rfl⟩:=ry;exact arh (gJ I q (by simp))
  |_=>exact absurd (show aJ=ao from hs) iI
 |str i=>
  obtain⟨t,rfl⟩:=rx
  cases y with
  |non=>cases ry;exact ari (gJ I q (by simp))
  |bl j=>cases ry;exact aq3 (gJ I q (by simp))
  |int j=>obtain⟨t',rfl⟩:=ry;exact arj (gJ I q (by simp))
  |str j=>obtain⟨t',rfl⟩:=ry;exact ne_str (gJ I q (congrArg not Tc))
  |_=>exact absurd (show aJ=ao from hs) iI
 |qJ i=>
  obtain⟨t,rfl⟩:=rx
  cases y with
  |qJ j=>obtain⟨t',rfl⟩:=ry;exact PySem.W.ne_bytes (gJ I q (congrArg not abD))
  |_=>exact absurd (show aJ=ao from hs) iI
 |_=>cases y<;>exact absurd (show aJ=ao from hs) iI
theorem anY:dm X (fU .LtE) (qK λi j=>.bl (decide (i<=j))):=VF λ_ _ _ _ _ _ _ q=>le_int q
theorem Gg:dm X (fU .Gt) (qK λi j=>.bl (decide (j<i))):=VF λ_ _ _ _ _ _ _ q=>gt_int q
theorem anZ:dm X (fU .GtE) (qK λi j=>.bl (decide (j<=i))):=VF λ_ _ _ _ _ _ _ q=>ge_int q
theorem K6:dm X (fU .Is) (λx y H Q=>y=.non/\Q (.bl (decide (x=.non))) H):=by
 intro pins s σ H x y v u Q I rx ry h
 obtain⟨rfl,q⟩:=h
 cases ry;refine is_none_gen (gJ I q ?_);cases x<;>first
  |(cases rx;rfl)
  |(obtain⟨t,rfl⟩:=rx;rfl)
theorem dm.or{f:Value->Value->Sem Value}{r r':R2}(h:dm X f r)(h':dm X f r'):dm X f (λx y H Q=>r x y H Q\/r' x y H Q):=by
 intro pins s σ H x y v u Q I rx ry q;rcases q with q|q
 .exact h pins s σ H x y v u Q I rx ry q
 .exact h' pins s σ H x y v u Q I rx ry q
theorem gY(b:Expr){op:CmpOp}(h:op≠.In:=by decide)(h2:op≠.NotIn:=by decide):DX op b=aJ:=by
 have e1:(op==CmpOp.In)=aJ:=by cases op<;>first|rfl|exact absurd rfl h
 have e2:(op==CmpOp.NotIn)=aJ:=by cases op<;>first|rfl|exact absurd rfl h2
 cases b<;>simp[DX,e1,e2]
theorem akL{op:CmpOp}{r:R2}(ho:dm X (fU op) r)(ha:PE X a ta)(hb:PE X b tb)(hm:DX op b=aJ):PE X (.Compare a [op] [b] pos) (G6 r ta tb):=by
 intro pins s σ H Q I h;exact wpAny_Compare1 (VD ha hb I h λv u s2 x y H2 I2 rx ry q=>ho pins s2 σ H2 x y v u Q I2 rx ry q) hm
def Ve(t:TE):TT:=λσ H Q=>t σ H λx H'=>∃k,x=.bl k/\Q k H'
theorem akM{op:CmpOp}{r:R2}(ho:dm X (fU op) r)(ha:PE X a ta)(hb:PE X b tb)(hm:DX op b=aJ):PT X (.Compare a [op] [b] pos) (Ve (G6 r ta tb)):=by
 intro pins s σ H Q I h;refine wpAny_isTrue_Compare1 (bO (ha pins s σ H _ I h) λv s1 ⟨x,H1,I1,r1,q1⟩=>bO (hb pins s1 σ H1 _ I1 q1) λu s2 ⟨y,H2,I2,r2,q2⟩=>
  bO (ho pins s2 σ H2 x y v u _ I2 r1 r2 q2) λc s3 ⟨z,H3,I3,r3,k,e,q3⟩=>?_) hm
 subst e;cases r3;exact wN ⟨H3,I3,q3⟩
def Ul(r r':R2)(ta tb tc:TE):TE:=λσ H Q=>ta σ H λx H1=>tb σ H1 λy H2=>r x y H2 λz H3=>∃k,z=.bl k/\
 (if k=ao then tc σ H3 λw' H4=>r' y w' H4 Q else Q (.bl aJ) H3)
theorem ajs{op op':CmpOp}{r r':R2}(ho:dm X (fU op) r)(ho':dm X (fU op') r')(ha:PE X a ta)(hb:PE X b tb)(hc:PE X c tc)
  (hm:QT [op,op'] [b,c]=aJ:=by with_unfolding_all rfl):PE X (.Compare a [op,op'] [b,c] pos) (Ul r r' ta tb tc):=by
 intro pins s σ H Q I h;refine Compare_chain (bO (ha pins s σ H _ I h) λv s1 ⟨x,H1,I1,r1,q1⟩=>chain_link (bO (hb pins s1 σ H1 _ I1 q1) λu s2 ⟨y,H2,I2,r2,q2⟩=>
  bO (ho pins s2 σ H2 x y v u _ I2 r1 r2 q2) λd s3 ⟨z,H3,I3,r3,k,e,q3⟩=>?_)) hm
 subst e;cases r3;refine wN ?_;cases k with
 |false=>exact ite_ff ⟨.bl aJ,H3,I3,rfl,q3⟩
 |true=>exact ite_tt (chain_last (bO (hc pins s3 σ H3 _ I3 q3) λw' s4 ⟨z',H4,I4,r4,q4⟩=>ho' pins s4 σ H4 y z' u w' Q I4 r2 r4 q4))
theorem ajt{op op':CmpOp}{r r':R2}(ho:dm X (fU op) r)(ho':dm X (fU op') r')(ha:PE X a ta)(hb:PE X b tb)(hc:PE X c tc)
  (hm:QT [op,op'] [b,c]=aJ:=by with_unfolding_all rfl):PT X (.Compare a [op,op'] [b,c] pos) (Ve (Ul r r' ta tb tc)):=by
 intro pins s σ H Q I h;refine isTrue_chain (bO (ha pins s σ H _ I h) λv s1 ⟨x,H1,I1,r1,q1⟩=>test_link (bO (hb pins s1 σ H1 _ I1 q1) λu s2 ⟨y,H2,I2,r2,q2⟩=>
  bO (ho pins s2 σ H2 x y v u _ I2 r1 r2 q2) λd s3 ⟨z,H3,I3,r3,k,e,q3⟩=>?_)) hm
 subst e;cases r3;refine wN ?_;cases k with
 |false=>
  obtain⟨k',e',q'⟩:=q3
  cases e';exact ite_ff ⟨H3,I3,q'⟩
 |true=>
  refine ite_tt (test_last (bO (hc pins s3 σ H3 _ I3 q3) λw' s4 ⟨z',H4,I4,r4,q4⟩=>bO (ho' pins s4 σ H4 y z' u w' _ I4 r2 r4 q4) λd' s5 aP=>?_))
  obtain⟨z2,H5,I5,r5,k2,e2,q5⟩:=aP
  subst e2;cases r5;exact wN ⟨H5,I5,q5⟩
def VH(K:aM)(x:V)(H:Hp)(k:Bool):Prop:=
 match x with
 |.non=>k=aJ
 |.bl b=>k=b
 |.int i=>k=(i != 0)
 |.str y=>y.length<=cu/\k=((y.length:Int) != 0)
 |.qJ y=>y.size<=cu/\k=((y.size:Int) != 0)
 |.ref p=>(∃xs,bR K H p xs/\k=!xs.isEmpty)\/(∃xs,dj K H p xs/\k=!xs.isEmpty)\/∃kvs,H p=aa (.dK kvs)/\k=!kvs.isEmpty
 |_=>False
theorem ahI{κ:Type}{kvs:List (κ×V)}{vs:List (κ×Value)}(r:KV kvs vs):(!vs.isEmpty)=!kvs.isEmpty:=by
 cases r<;>rfl
theorem ZF{xs:List V}{its:List Value}(r:Vals xs its):(!its.toArray.isEmpty)=!xs.isEmpty:=by
 cases r<;>simp
theorem zG:(cu:Nat)<2^63:=by rw[iK];decide
theorem amu:aoW X (λx H Q=>∃k,VH X.K x H k/\Q k H):=by
 intro pins s σ H x v Q I rx h
 obtain⟨k,e,q⟩:=h
 have hl:=zG;have hs:cu=16777216:=iK;cases x with
 |non=>
  cases rx;have e':k=aJ:=e;subst e';exact truthy_none ⟨H,I,q⟩
 |bl b=>
  cases rx;have e':k=b:=e;subst e';exact wN ⟨H,I,q⟩
 |int i=>
  obtain⟨t,rfl⟩:=rx
  have e':k=(i != 0):=e;subst e';exact PySem.P.truthy_int ⟨H,I,q⟩
 |str y=>
  obtain⟨t,rfl⟩:=rx
  obtain⟨hy,e'⟩:y.length<=cu/\k=((y.length:Int) != 0):=e
  subst e';exact PySem.P.truthy_str (by lia) ⟨H,I.tok _,q⟩
 |qJ y=>
  obtain⟨t,rfl⟩:=rx
  obtain⟨hy,e'⟩:y.size<=cu/\k=((y.size:Int) != 0):=e
  subst e';exact PySem.W.truthy_bytes (by lia) ⟨H,I.tok _,q⟩
 |ref p=>
  cases rx;have e':(∃xs,bR X.K H p xs/\k=!xs.isEmpty)\/(∃xs,dj X.K H p xs/\k=!xs.isEmpty)\/∃kvs,H p=aa (.dK kvs)/\k=!kvs.isEmpty:=e;rcases e' with⟨xs,hx,e'⟩|⟨xs,hx,e'⟩|⟨kvs,hx,e'⟩
  .subst e'
   obtain⟨its,r,pl,hz⟩:=I.list hx
   have hlen:=r.length;exact wpAny_truthy_list pl.isList (by simp only[gG];lia) ⟨H,I.tok _,by rw[ZF r];exact q⟩
  .subst e'
   obtain⟨its,r,pl,hz⟩:=I.tuple hx
   have hlen:=r.length;exact truthy_tuple pl (by simp only[gG];lia) ⟨H,I.tok _,by rw[ZF r];exact q⟩
  .subst e'
   obtain⟨hz,hS,vs,r,m⟩:kvs.length<=cu/\(p==qR)=aJ/\∃vs,KV kvs vs/\s.heap.DictOf (jy X.prog X.w) p vs:=I.hok p _ hx
   have hlen:kvs.length=vs.length:=Paired.length r;exact wpAny_truthy_dict hS m (by lia) ⟨H,I.tok _,by rw[ahI r];exact q⟩
 |_=>exact(show False from e).elim
theorem aju(ha:PE X a ta)(he:∀whole,isTrue a X.env whole=(do let v <-whole;uC a.pos;qX [v] (truthy v))):
  PT X a (λσ H Q=>ta σ H λx H'=>∃k,VH X.K x H' k/\Q k H'):=by
 intro pins s σ H Q I h;exact isTrue_plain (bO (ha pins s σ H _ I h) λv s1 ⟨x,H1,I1,r1,q1⟩=>amu pins s1 σ H1 x v Q I1 r1 q1) (he _)
theorem ahJ:dm X (qj .Add) (λx y H Q=>∃i j,x=.str i/\y=.str j/\i.length+j.length<=cu/\Q (.str (i++j)) H):=by
 intro pins s σ H x y v u Q I rx ry h
 obtain⟨i,j,rfl,rfl,hz,q⟩:=h
 obtain⟨t,rfl⟩:=rx
 obtain⟨t',rfl⟩:=ry
 exact add_str (λt' tk=>⟨.str (i++j),H,I.tok _,⟨_,rfl⟩,q⟩) hz
theorem vals1{x:V}{us:List Value}(r:Vals [x] us):∃u,us=[u]/\RelV x u:=by
 cases r with
 |cons r1 r2=>cases r2;exact⟨_,rfl,r1⟩
theorem vals2{x y:V}{us:List Value}(r:Vals [x,y] us):∃u w',us=[u,w']/\RelV x u/\RelV y w':=by
 cases r with
 |cons r1 r2=>
  cases r2 with
  |cons r3 r4=>cases r4;exact⟨_,_,rfl,r1,r3⟩
theorem aaJ:ie X (.builtin "abs") (λxs H Q=>∃i,xs=[.int i]/\Q (.int (if i<0 then -i else i)) H):=by
 intro pins s σ H xs us Q I r h
 obtain⟨i,rfl,q⟩:=h
 obtain⟨u,rfl,t,rfl⟩:=vals1 r
 exact call_abs_int λu tk=>⟨.int (if i<0 then -i else i),H,I.tok _,⟨_,rfl⟩,q⟩
theorem aiu(hc:X.calm=ao):ie X (.builtin "max") (λxs H Q=>∃i j,xs=[.int i,.int j]/\Q (.int (if j>i then j else i)) H):=by
 intro pins s σ H xs us Q I r h
 obtain⟨i,j,rfl,q⟩:=h
 obtain⟨u,w',rfl,⟨t,rfl⟩,⟨t',rfl⟩⟩:=vals2 r
 refine max_two_ints (I.ok.hd hc) λh' tk k=>⟨_,H,I.kept k,?_,q⟩
 by_cases hj:j>i
 .rw[bz hj,bz hj];exact⟨_,rfl⟩
 .rw[bH hj,bH hj];exact⟨_,rfl⟩
theorem JN(hc:X.calm=ao):ie X (.builtin "min") (λxs H Q=>∃i j,xs=[.int i,.int j]/\Q (.int (if j<i then j else i)) H):=by
 intro pins s σ H xs us Q I r h
 obtain⟨i,j,rfl,q⟩:=h
 obtain⟨u,w',rfl,⟨t,rfl⟩,⟨t',rfl⟩⟩:=vals2 r
 refine min_two_ints (I.ok.hd hc) λh' tk k=>⟨_,H,I.kept k,?_,q⟩
 by_cases hj:j<i
 .rw[bz hj,bz hj];exact⟨_,rfl⟩
 .rw[bH hj,bH hj];exact⟨_,rfl⟩
theorem QV:ie X (.type "int") (λxs H Q=>(∃i,xs=[.int i]/\Q (.int i) H)\/∃k,xs=[.bl k]/\Q (.int (if k then 1 else 0)) H):=by
 intro pins s σ H xs us Q I r h;rcases h with⟨i,rfl,q⟩|⟨k,rfl,q⟩
 .obtain⟨u,rfl,t,rfl⟩:=vals1 r
  exact call_int_int ⟨.int i,H,I,⟨_,rfl⟩,q⟩
 .obtain⟨u,rfl,r1⟩:=vals1 r
  cases r1;exact call_int_bool ⟨.int (if k then 1 else 0),H,I.tok _,⟨_,rfl⟩,q⟩
end
structure VJ(h:bC)(x dx C:aq)(mA:Str->Option Value):Prop where
 obj:h.get? x=aa (Yi C dx)
 ns:h.Ns1 dx mA
 ne:dx≠x
theorem aiv{h:bC}{dx:aq}{mA:Str->Option Value}(n:h.Ns1 dx mA):∃od,h.get? dx=aa od/\∀name,Yv name od=aa (mA name):=by
 obtain⟨o,es,ep,ho,hd,hk,_,hm⟩:=n
 refine⟨o,ho,λname=>?_⟩
 have e:=hm name;unfold nsFind findBy at e;rw[<-Array.find?_toList] at e;unfold Yv;rw[hd];dsimp only;split
 .rename_i y q;rw[q] at e;exact congrArg aa e
 .rename_i q;rw[q] at e;have a:es.toList.any (·.refKey)=aJ:=by
   rw[afT];intro y hy
   obtain⟨z,t,hkey⟩:=hk y (Array.mem_toList_iff.mp hy)
   simp[DictEntry.refKey,hkey]
  have a':¬es.toList.any (·.refKey)=ao:=by rw[a];exact iI
  rw[bH a'];exact congrArg aa e
theorem VJ.look{h:bC}{x dx C:aq}{mA:Str->Option Value}(I:VJ h x dx C mA):∃od,PySem.W.InstAt h x (Yi C dx) C (aa od)/\∀name,Yv name od=aa (mA name):=
 let ⟨od,ho,hl⟩:=aiv I.ns
 ⟨od,⟨I.obj,rfl,rfl,ho⟩,hl⟩
section
variable{prog:bL}{w:bI}{A:cM}{E:Value->aD->Prop}{s:aD}{K:aM}{x dx C f:aq}{mA:Str->Option Value}{name:Str}{v:Value}
end
theorem qC.some_of{v:V}{o:Option Value}(r:qC (aa v) o):∃u,o=aa u/\RelV v u:=by
 cases o with
 |none=>exact(show False from r).elim
 |some u=>exact⟨u,rfl,r⟩
section
variable{P:bL}{w:bI}{H H':Hp}{h h':bC}{a C dx:aq}{fs fs':List (Str×V)}
theorem abE(hok:iU P w H h)(e:H a=aa (.ins C dx fs)):∃mA,VJ h a dx C mA/\(∀f,qC (fs.lookup f) (mA f))/\agY mA (fs.map (·.1))/\fs.length<=1000/\H dx=aa (.own a):=by
 obtain⟨d,z,ne,ob,mA,n,r,q⟩:=(show fL P w H h a (.ins C dx fs) from hok a _ e)
 exact⟨mA,⟨ob,n,ne⟩,r,q,z,d⟩
end
structure Wc(K:aM)(C:aq):Prop where
 pg:agb K C Str.empty=ao
 hd:PySem.W.hasDictIn K C=ao
 po:PySem.W.plainOver K C=ao
 sa:Ay K (.ref C) "__setattr__"=aa (aa (.builtin "object.__setattr__"))
theorem Wc.get{K:aM}{C:aq}(c:Wc K C)(f:Str):agb K C f=ao:=c.pg
def acz(K:aM)(C:aq)(f:Str):Prop:=Ay K (.ref C) f=aa aj
theorem acz.taker{K:aM}{C:aq}{f:Str}(n:acz K C f):agq K C f=aa aj:=by
 unfold agq;rw[show Ay K (.ref C) f=aa aj from n];rfl
structure Con(K:aM)(C:aq)(f:Str)(v:V)(u:Value):Prop where
 at_:Ay K (.ref C) f=aa (aa u)
 rel:RelV v u
 get:afU K u "__get__"=aa aj
 cp:PySem.W.copiedNames.contains f=aJ
structure Meth(K:aM)(C:aq)(m:Str)(f:aq):Prop where
 at_:Ay K (.ref C) m=aa (aa (.ref f))
 fn:ag0 K (.ref f)=ao
 kp:wU K (.ref f)=ao
section
variable{X:Cx}{pins:List (aq×Obj)}{σ:St}{H:Hp}{s:aD}{a C dx:aq}{fs:List (Str×V)}{f:Str}{v:V}{A:cM}{E:Value->aD->Prop}
end
section
variable{X:Cx}{o e value:Expr}{f:Str}{pos pos' tpos:Pos}{ta tv:TE}
end
section
variable{X:Cx}{pins:List (aq×Obj)}{σ:St}{H:Hp}{s:aD}{A:cM}{E:Value->aD->Prop}{Q:Value->aD->Prop}{c:Value}{b:Bool}
inductive nO(K:aM)(H:Hp):V->Value->Prop where
 |non:nO K H .non (.type "NoneType")
 |bl (x:Bool):nO K H (.bl x) (.type "bool")
 |int (i:Int):nO K H (.int i) (.type "int")
 |str (x:Str):nO K H (.str x) (.type "str")
 |flt (x:UInt64):nO K H (.flt x) (.type "float")
 |lst {a:aq} {xs:List V} (e:H a=aa (.lst xs)):nO K H (.ref a) (.type "list")
 |m6 {a:aq} {o:Obj} {xs:List V} (e:H a=aa (.m6 o (.lst xs))):nO K H (.ref a) (.type "list")
 |tup {a:aq} {xs:List V} (e:H a=aa (.tup xs)):nO K H (.ref a) (.type "tuple")
 |dK {a:aq} {kvs:List (Key×V)} (e:H a=aa (.dK kvs)):nO K H (.ref a) (.type "dict")
 |dT {a:aq} {kvs:List (List Key×V)} (e:H a=aa (.dT kvs)):nO K H (.ref a) (.type "dict")
 |ins {a C dx:aq} {fs:List (Str×V)} (e:H a=aa (.ins C dx fs)) (cl:Wc K C) (ha:Ay K (.ref C) "__class__"=aa (aa (.builtin "object.__class__")))
   (hn:afU K (.builtin "object.__class__") "__get__"=aa (aa (.builtin "getset_descriptor.__get__"))) (htk:PySem.W.takesIn K (.builtin "object.__class__")=aa ao)
   (hm:PySem.W.mroIn K C (.type "object")=aa ao):nO K H (.ref a) (.ref C)
theorem aiw{x:V}{u t:Value}(I:Inv X pins σ H s)(rx:RelV x u)(ty:nO X.K H x t)(e:Az X.K t c=aa b)(h:∀tk,Q (.bool b) {s with toks:=tk}):
  aR (model X.prog X.w) A (call (.builtin "isinstance") [u,c]) Q E s:=by
 cases ty with
 |non=>cases(show u=mX from rx);exact uq afV I.ji nj e (λz=>nomatch z) h
 |bl y=>cases(show u=qQ y from rx);exact uq afW I.ji nj e (λz=>nomatch z) h
 |int i=>obtain⟨t,q⟩:=(show ∃t,u=JL i t from rx);cases q;exact uq agc I.ji nj e (λz=>nomatch z) h
 |str y=>obtain⟨t,q⟩:=(show ∃t,u=JM y t from rx);cases q;exact uq agd I.ji nj e (λz=>nomatch z) h
 |flt y=>obtain⟨t,q⟩:=(show ∃t,u=Zq y t from rx);cases q;exact uq afM I.ji nj e (λz=>nomatch z) h
 |@lst a xs ea=>
  cases(show u=dH a from rx)
  obtain⟨_,_,n,_,h1⟩:=(show fL X.prog X.w H s.heap a (.lst xs) from I.hok a _ ea)
  exact uq NQ I.ji ⟨_,h1,rfl⟩ e (λz=>nomatch z) h
 |@m6 a ob xs ea=>
  cases(show u=dH a from rx)
  obtain⟨_,_,_,n,_,h1⟩:=(show fL X.prog X.w H s.heap a (.m6 ob (.lst xs)) from I.hok a _ ea)
  exact uq NQ I.ji ⟨_,h1,rfl⟩ e (λz=>nomatch z) h
 |@tup a xs ea=>
  cases(show u=dH a from rx)
  obtain⟨_,_,_,p⟩:=(show fL X.prog X.w H s.heap a (.tup xs) from I.hok a _ ea)
  obtain⟨o,h1,h2,_⟩:=p
  exact uq afN I.ji ⟨o,h1,h2⟩ e (λz=>nomatch z) h
 |@dK a kvs ea=>
  cases(show u=dH a from rx)
  obtain⟨_,_,vs,_,p⟩:=(show fL X.prog X.w H s.heap a (.dK kvs) from I.hok a _ ea)
  obtain⟨o,es,ep,h1,h2,_⟩:=p
  exact uq NZ I.ji ⟨o,h1,h2.1⟩ e (λz=>nomatch z) h
 |@dT a kvs ea=>
  cases(show u=dH a from rx)
  obtain⟨_,_,xs,_,o,es,ep,h1,h2,_⟩:=(show fL X.prog X.w H s.heap a (.dT kvs) from I.hok a _ ea)
  exact uq NZ I.ji ⟨o,h1,h2.1⟩ e (λz=>nomatch z) h
 |@ins a C dx fs ea cl ha hn htk hm=>
  cases(show u=dH a from rx)
  obtain⟨mA,O,_⟩:=abE I.hok ea
  obtain⟨od,J,_⟩:=O.look
  exact uq (age (cl.get _) cl.hd ha hn htk hm) I.ji J e (λz=>nomatch z) h
end
structure jg(k:Nat)(A:cM):Prop where
 hd:A.handled=aj
 dp:A.depth+3*k+5<recursionLimit
 un:A.units+16*k+200<gj
 gd:A.guards=aa []
theorem jg.mono{j k:Nat}{A:cM}(r:jg k A)(h:j<=k):jg j A:=⟨r.hd,by have:=r.dp;lia,by have:=r.un;lia,r.gd⟩
theorem jg.deeper{k:Nat}{A:cM}(r:jg (k+1) A)(env:Env):jg k (A.deeper env):=
 ⟨r.hd,by have:=r.dp;show A.depth+1+3*k+5<_;lia,by have:=r.un;show A.units+3+16*k+200<_;lia,r.gd⟩
theorem jg.in1{k:Nat}{A:cM}(r:jg (k+1) A):jg k A.in1:=
 ⟨r.hd,by have:=r.dp;show A.depth+3*k+5<_;lia,by have:=r.un;show A.units+1+16*k+200<_;lia,r.gd⟩
theorem jg.depth{k:Nat}{A:cM}(r:jg k A):A.depth<recursionLimit:=by have:=r.dp;lia
theorem jg.units{k:Nat}{A:cM}(r:jg k A):A.units+64<gj:=by have:=r.un;lia
theorem jg.Um{k:Nat}{A:cM}(r:jg k A):A.units<gj:=by have:=r.un;lia
def aoX:TA:=λ_ H Q=>Q [] H
def an0(ta:TE)(tr:TA):TA:=λσ H Q=>ta σ H λx H1=>tr σ H1 λxs H2=>Q (x::xs) H2
section
variable{X:Cx}{e:Expr}{es:List Expr}{te:TE}{t:TA}{pos:Pos}
theorem qu:PA X [] aoX:=λ_ _ _ _ H Q I h=>N5 ⟨[],H,I,.nil,h⟩
theorem n6(ha:PE X e te)(hr:PA X es t)(hs:bJ (e::es) X.env=(aJ,eval e X.env)::bJ es X.env:=by rfl):PA X (e::es) (an0 te t):=by
 intro pos pins s σ H Q I h;rw[hs];show aR _ _ (spliced ((aJ,eval e X.env)::gH pos (bJ es X.env))) _ _ s;refine HY (bO (ha pins s σ H _ I h) λu s1 aP=>?_)
 obtain⟨x,H1,I1,r1,q1⟩:=aP
 exact bO (hr pos pins s1 σ H1 _ I1 q1) λus s2 ⟨xs,H2,I2,r2,q2⟩=>⟨x::xs,H2,I2,.cons r1 r2,q2⟩
def aoY(t:TA):TE:=λσ H Q=>t σ H λxs H1=>xs.length<=cu/\∀p,H1 p=aj->Q (.ref p) (upd H1 p (.tup xs))
def aoZ(t:TA):TE:=λσ H Q=>t σ H λxs H1=>xs.length<=cu/\∀p,H1 p=aj->Q (.ref p) (upd H1 p (.lst xs))
theorem K7{x1}(h:PA X es t):PE X (.Tuple es x1 pos) (aoY t):=by
 intro pins s σ H Q I hq;refine wpAny_Tuple_spliced (bO (h pos pins s σ H _ I hq) λus s1 ⟨xs,H1,I1,r,z,q⟩=>⟨by rw[<-r.length];exact z,?_⟩);have hf:H1 s1.heap.objs.size=aj:=I1.hok.fresh (cg _)
 refine⟨.ref s1.heap.objs.size,upd H1 s1.heap.objs.size (.tup xs),I1.laid (t':=s1.toks) (λb u e=>cW _ e) (cg _) ?_,rfl,q _ hf⟩
 exact⟨z,us,r,⟨_,iH _ rfl,rfl,_,rfl⟩⟩
theorem amv(h:PA X es t):PE X (.List es pos) (aoZ t):=by
 intro pins s σ H Q I hq;refine wpAny_List_spliced (bO (h pos pins s σ H _ I hq) λus s1 ⟨xs,H1,I1,r,z,q⟩=>⟨by rw[<-r.length];exact z,?_⟩);have hf:H1 s1.heap.objs.size=aj:=I1.hok.fresh (cg _)
 refine⟨.ref s1.heap.objs.size,upd H1 s1.heap.objs.size (.lst xs),I1.laid (t':=s1.toks) (λb u e=>cW _ e) (cg _) ?_,rfl,q _ hf⟩
 exact⟨z,us,0,r,iH _ rfl⟩
end
abbrev Sp:=List V->Hp->VK->XK->Prop
abbrev qL:=List Env->Hp->aD->XK->Value->aD->Prop
structure zU(P:bL)(w:bI)(K:aM)(mg:Str->Option Value)(base:bC)(A:cM)(outer:List Env)(s:aD)(H:Hp):Prop where
 frames:A.frames=aa outer
 mod:Mod K mg base
 bs:∀b o,base.get? b=aa o->s.heap.get? b=aa o/\H b=aj
 uX:base.objs.size<=s.heap.objs.size
 rD:s.heap.FunFrames base outer
 Ab:∀b∈frs outer,H b=aj
 hok:iU P w H s.heap
 bare:AllBare s.gens
def CE(outer:List Env)(P:bL)(w:bI)(H:Hp)(s:aD)(Q:VK)(u:Value)(s':aD):Prop:=
 ∃v H',s'.os=s.os/\AllBare s'.gens/\Un (frs outer) [] H H' s.heap s'.heap/\iU P w H' s'.heap/\RelV v u/\Q v H'
def CR(CX:qL)(outer:List Env)(P:bL)(w:bI)(H:Hp)(s:aD)(Q:VK)(E:XK)(r:sH)(s':aD):Prop:=
 match r with
 |.ok (.ret u)=>CE outer P w H s Q u s'
 |.ok _=>False
 |.error e=>CX outer H s E e s'
structure dX(P:bL)(w:bI)(K:aM)(mg:Str->Option Value)(base:bC)(CX:qL)(k:Nat)(f:aq)(fd:dZ)(ps:List Str)(sp:Sp):Prop where
 len:∀vs H Q E,sp vs H Q E->vs.length=ps.length
 run:∀(A:cM)(outer:List Env)(s:aD)(H:Hp)(args:Args)(us:List Value)(vs:List V)(Q:VK)(E:XK),jg k A->zU P w K mg base A outer s H->zu s fd args (ps.zip us)->Vals vs us->sp vs H Q E->
  mC (model P w) A (.call (.ref f) args) (CR CX outer P w H s Q E) s
theorem dX.mono{P:bL}{w:bI}{K:aM}{mg:Str->Option Value}{base:bC}{CX:qL}{j k:Nat}{f:aq}{fd:dZ}{ps:List Str}{sp:Sp}(F:dX P w K mg base CX j f fd ps sp)(h:j<=k):
  dX P w K mg base CX k f fd ps sp:=⟨F.len,λA outer s H args us vs Q E hr=>F.run A outer s H args us vs Q E (hr.mono h)⟩
theorem dX.imp{P:bL}{w:bI}{K:aM}{mg:Str->Option Value}{base:bC}{CX:qL}{k:Nat}{f:aq}{fd:dZ}{ps:List Str}{sp sp':Sp}(F:dX P w K mg base CX k f fd ps sp)
  (h:∀vs H Q E,sp' vs H Q E->sp vs H Q E):dX P w K mg base CX k f fd ps sp':=
 ⟨λvs H Q E q=>F.len vs H Q E (h _ _ _ _ q),λA outer s H args us vs Q E hr he hb hv hs=>F.run A outer s H args us vs Q E hr he hb hv (h _ _ _ _ hs)⟩
theorem zU.in1{P:bL}{w:bI}{K:aM}{mg:Str->Option Value}{base:bC}{A:cM}{outer:List Env}{s:aD}{H:Hp}(e:zU P w K mg base A outer s H):
  zU P w K mg base A.in1 outer s H:=⟨e.frames,e.mod,e.bs,e.uX,e.rD,e.Ab,e.hok,e.bare⟩
section
variable{X:Cx}{pins:List (aq×Obj)}{σ:St}{H:Hp}{s s':aD}
theorem Inv.env0(I:Inv X pins σ H s):zU X.prog X.w X.K X.mg X.base X.A X.stack s H:=
 ⟨I.ok.frames,I.ok.mod,I.bs,j7 I.ok.uX I.sz,I.stack,I.abB,I.hok,I.bare⟩
theorem Inv.after{Q:VK}{u:Value}(I:Inv X pins σ H s)(h:CE X.stack X.prog X.w H s Q u s'):EP X pins σ Q u s':=by
 obtain⟨v,H',os,bare,un,hok,r,q⟩:=h
 obtain⟨hh,g,d,t,os'⟩:=s'
 obtain rfl:os'=s.os:=os
 exact⟨v,H',I.call (h':=hh) (g':=g) (d':=d) (t':=t) (ch:=[]) un hok bare (λb z=>absurd z (by simp)),r,q⟩
end
def Vf(sp:Sp)(yD:List V)(E:XK)(t:TA):TE:=λσ H Q=>t σ H λvs H1=>sp (vs++yD) H1 Q E
def Binds(K:aM)(fd:dZ)(ps:List Str)(ds:List Value):Prop:=
 ∀(s:aD)(us:List Value),K.In s.heap->(us++ds).length=ps.length->zu s fd ⟨us,[]⟩ (ps.zip (us++ds))
theorem Binds.all{K:aM}{fd:dZ}{ps:List Str}(h:∀us:List Value,us.length=ps.length->bindArgs fd ⟨us,[]⟩=pure (ps.zip us)):Binds K fd ps []:=λs us _ hl=>by
 rw[lO] at hl⊢;exact .of_eq (h us hl)
def Passes(CX:qL)(X:Cx)(E:XK):Prop:=∀(pins:List (aq×Obj))(σ:St)(H:Hp)(s:aD)(e:Value)(s':aD),Inv X pins σ H s->CX X.stack H s E e s'->X.xe e s'
section
variable{X:Cx}{CX:qL}{k:Nat}{f C:aq}{fd:dZ}{ps:List Str}{sp:Sp}{yD:List V}{ds:List Value}{E:XK}{x m:Str}{p pos apos:Pos}{e o:Expr}{es:List Expr}{ta:TE}{t:TA}
theorem amw{pins:List (aq×Obj)}{σ:St}{H:Hp}{s:aD}{Q:VK}{us:List Value}{vs:List V}(F:dX X.prog X.w X.K X.mg X.base CX k f fd ps sp)(hr:jg k X.A)(hb:Binds X.K fd ps ds)(hd:Vals yD ds)(hx:Passes CX X E)
  (I:Inv X pins σ H s)(r:Vals vs us)(h:sp (vs++yD) H Q E):aR (model X.prog X.w) X.A (call (.ref f) us) (EP X pins σ Q) X.xe s:=by
 have r2:Vals (vs++yD) (us++ds):=r.append hd;have hl:(us++ds).length=ps.length:=by rw[<-r2.length];exact F.len _ _ _ _ h
 refine wpAny_call (Je (F.run X.A X.stack s H ⟨us,[]⟩ (us++ds) (vs++yD) Q E hr I.env0 (hb s us I.ji hl) r2 h) λr s' hq=>?_);cases r with
 |error e=>exact hx pins σ H s e s' I hq
 |ok fl=>
  cases fl with
  |ret u=>exact I.after hq
  |next=>exact rR hq
  |brk=>exact rR hq
  |cont=>exact rR hq
theorem akN(F:dX X.prog X.w X.K X.mg X.base CX k f fd ps sp)(hr:jg k X.A)(hg:Gl X x)(hm:X.mg x=aa (.ref f))(hk:wU X.K (.ref f)=ao)(hb:Binds X.K fd ps ds)(hd:Vals yD ds)(hx:Passes CX X E)
  (ha:PA X (e::es) t)(hdb:(x==("__debug__":Str))=aJ:=by decide)(he:bJ (e::es) X.env=(aJ,eval e X.env)::bJ es X.env:=by rfl)(hpl:(gH pos (bJ es X.env)).any (·.1)=aJ:=by rfl):
  PE X (.Call (.Name x p) (e::es) [] pos) (Vf sp yD E t):=by
 intro pins s σ H Q I h;refine H9 (akI I hg hm ?_ hdb);refine PySem.W.callWith_K (h₀:=X.base) I.ok.mod.V6 hk (bO (ha pos pins s σ H _ I h) λus s1 ⟨vs,H1,I1,r,q⟩=>⟨I1.ji,?_⟩) he hpl;exact amw F hr hb hd hx I1 r q
structure Mk(K:aM)(C f:aq):Prop where
 makes:PySem.W.makesIn K C=ao
 init:Ay K (.ref C) "__init__"=aa (aa (.ref f))
 fn:ag0 K (.ref f)=ao
 kp:wU K (.ref C)=ao
end
section
variable{X:Cx}{CX:qL}{k:Nat}{f C:aq}{fd:dZ}{ps ks:List Str}{sp:Sp}{E:XK}{x m:Str}{p pos apos kpos:Pos}{e o:Expr}{es:List Expr}{kws:List oh}{te ta:TE}{t tk:TA}{nm:Option Str}
structure arw(K:aM)(fd:dZ)(ps ks:List Str)(g:List Value->List Value->List Value)(gV:List V->List V->List V):Prop where
 to:∀(s:aD)(us ws:List Value),K.In s.heap->(g us ws).length=ps.length->zu s fd ⟨us,ks.zip ws⟩ (ps.zip (g us ws))
 rel:∀{vs:List V}{us:List Value}{zs:List V}{ws:List Value},Vals vs us->Vals zs ws->Vals (gV vs zs) (g us ws)
variable{g:List Value->List Value->List Value}{gV:List V->List V->List V}
end
structure iQ(N P:List Str)(sc:jO):Prop where
 kind:sc.kind=.function
 co:sc.isCoroutine=aJ
 gen:sc.isGenerator=aJ
 nd:N.Nodup
 pre:N.take P.length=P
 par:∀x∈P,sc.names.lookup x=aa .local\/sc.names.lookup x=aa .cell
 amx:∀y∈sc.names,y.2≠.free
theorem aaa{kindOf:Str->Option Bv}{x:Str}:∀{binds:List (Str×Value)}{m:Str->Option Value},(∀v,(x,v)∉binds)->zM kindOf binds m x=m x
 |[],_,_=>rfl
 |(n,v)::r,m,h=>by
  unfold zM;rw[aaa λw hw=>h w (fP _ hw)];split
  .have:x≠n:=by rintro rfl;exact h v dN
   simp[this]
  .rfl
theorem aab{kindOf:Str->Option Bv}{x:Str}:∀{binds:List (Str×Value)}{m:Str->Option Value},(∀v,(x,v)∉binds)->zN kindOf binds m x=m x
 |[],_,_=>rfl
 |(n,v)::r,m,h=>by
  unfold zN;rw[aab λw hw=>h w (fP _ hw)];split
  .rfl
  .have:x≠n:=by rintro rfl;exact h v dN
   simp[this]
theorem aac{kindOf:Str->Option Bv}{x:Str}{v:Value}:∀{P:List Str}{vs:List Value}{i:Nat}{m:Str->Option Value},P.Nodup->P[i]?=aa x->vs[i]?=aa v->kindOf x=aa .local->
  zM kindOf (P.zip vs) m x=aa v
 |[],_,_,_,_,h,_,_=>by simp at h
 |_::_,[],_,_,_,_,h,_=>by simp at h
 |p::P,w::vs,0,m,nd,h1,h2,hk=>by
  simp at h1 h2;subst h1;subst h2;show zM kindOf ((p,w)::P.zip vs) m p=_;unfold zM;rw[aaa λv hv=>(jD.mp nd).1 (Oo hv).1,bz hk];simp
 |p::P,w::vs,i+1,m,nd,h1,h2,hk=>by
  show zM kindOf ((p,w)::P.zip vs) m x=_;unfold zM;exact aac (i:=i) (jD.mp nd).2 (by simpa using h1) (by simpa using h2) hk
theorem aad{kindOf:Str->Option Bv}{x:Str}{v:Value}:∀{P:List Str}{vs:List Value}{i:Nat}{m:Str->Option Value},P.Nodup->P[i]?=aa x->vs[i]?=aa v->kindOf x≠aa .local->
  zN kindOf (P.zip vs) m x=aa v
 |[],_,_,_,_,h,_,_=>by simp at h
 |_::_,[],_,_,_,_,h,_=>by simp at h
 |p::P,w::vs,0,m,nd,h1,h2,hk=>by
  simp at h1 h2;subst h1;subst h2;show zN kindOf ((p,w)::P.zip vs) m p=_;unfold zN;rw[aab λv hv=>(jD.mp nd).1 (Oo hv).1,bH hk];simp
 |p::P,w::vs,i+1,m,nd,h1,h2,hk=>by
  show zN kindOf ((p,w)::P.zip vs) m x=_;unfold zN;exact aad (i:=i) (jD.mp nd).2 (by simpa using h1) (by simpa using h2) hk
def start(N:List Str)(vs:List V):St:=vs.map aa++gR (N.length-vs.length) aj
def zV(CX:qL)(P:bL)(w:bI)(K:aM)(mg:Str->Option Value)(base:bC)(N:List Str)(qual:Str)(scope:jO)(f:aq)(cd:Value)(A:cM)(outer:List Env)(s:aD)(H:Hp)(E:XK):Cx where
 prog:=P
 w:=w
 K:=K
 mg:=mg
 base:=base
 A:=A.deeper (envOfC qual scope s.heap.objs.size f cd)
 N:=N
 s₀:=s
 H₀:=H
 env:=envOfC qual scope s.heap.objs.size f cd
 outer:=outer
 stack:=envOfC qual scope s.heap.objs.size f cd::outer
 ex:=[]
 calm:=ao
 fn:=λ_=>ao
 pn:=[]
 xe:=λe s'=>aR (model P w) (A.deeper (envOfC qual scope s.heap.objs.size f cd)) (leaving (envOfC qual scope s.heap.objs.size f cd) e) (λ_ s''=>CX outer H s E e s'') (λe' s''=>CX outer H s E e' s'') s'
theorem aaK{sc:jO}{n:Nat}{x:Str}(h:sc.names.lookup x=aa .cell):∃c,(cellsFrom n sc.names []).lookup x=aa c:=by
 have q:=afl sc.names n [] (.inl h);exact wG.mp q
theorem aix{CX:qL}{P:bL}{w:bI}{K:aM}{mg:Str->Option Value}{base:bC}{N ps:List Str}{qual:Str}{scope:jO}{f:aq}{cd:Value}{A:cM}{outer:List Env}{s s1:aD}{H:Hp}{E:XK}{us:List Value}{vs:List V}
  (S:iQ N ps scope)(hd:A.handled=aj)(e0:zU P w K mg base A outer s H)(hl:vs.length=ps.length)(r:Vals vs us)
  (x:InCallC s s.heap.objs.size (zM (envOfC qual scope s.heap.objs.size f cd).kindOf (ps.zip us) λ_=>aj) (cellsFrom (s.heap.objs.size+1) scope.names []) (zN (envOfC qual scope s.heap.objs.size f cd).kindOf (ps.zip us) λ_=>aj) s1):
  Inv (zV CX P w K mg base N qual scope f cd A outer s H E) [] (start N vs) H s1:=by
 have hpl:ps.length<=N.length:=by have:=congrArg mq S.pre;rw[pJ] at this;lia
 obtain⟨h1,tk,rfl,hk⟩:=x.done
 have G7:∀b:aq,b∉(zV CX P w K mg base N qual scope f cd A outer s H E).ex:=λb z=>absurd (show b∈([]:List aq) from z) (by simp)
 refine⟨⟨e0.mod,S.kind,rfl,rfl,cg _,λy z c h1 h2=>?_,λy hy=>?_,λy c _ h=>?_,λ_=>hd,Around.frames_deeper e0.frames,.inr ⟨rfl,rfl⟩,λb z=>absurd z (G7 b),e0.bs,e0.uX,λb _ _=>G7 b,λb z=>absurd z (G7 b),e0.rD,e0.Ab⟩,
  rfl,e0.bare,Un.kept hk,⟨_,x.toInCall.ns,λi y v h1 h2 h3=>?_⟩,λy c h=>⟨_,x.cell y c h⟩,e0.hok.fresh (cg _),λy c h=>?_,λp hp=>absurd (show p∈([]:List (aq×Obj)) from hp) (by simp),e0.hok.kept hk,?_⟩
 .exact name_of_addr x.apart (wK h1) (wK h2)
 .have hy:scope.names.lookup y=aa .cell\/scope.names.lookup y=aa .free:=hy;rcases hy with hy|hy
  .exact aaK hy
  .exact absurd rfl (S.amx _ (wK hy))
 .exact xj (x.above y c (wK h))
 .have hi:i<vs.length:=by
   unfold start at h2;by_cases hi:i<vs.length
   .exact hi
   .rw[pF (by simpa using hi)] at h2;rw[Xd] at h2;split at h2<;>cases h2
  have ha:vs[i]?=aa v:=by
   unfold start at h2;rw[p6 (by simpa using hi),iJ] at h2;cases e:vs[i]? with
   |none=>rw[e] at h2;cases h2
   |some a=>rw[e] at h2;cases h2;rfl
  obtain⟨u,hu,rv⟩:=r.get ha
  have hp:ps[i]?=aa y:=by
   rw[<-S.pre,W9 (by lia)];exact h1
  have ndP:ps.Nodup:=by rw[<-S.pre];exact S.nd.sublist (Ii _ _)
  refine⟨u,rv,?_⟩
  rcases S.par y (p7 hp) with k|k
  .exact .inl ⟨k,aac ndP hp hu k⟩
  .obtain⟨c,e⟩:=aaK (n:=s.heap.objs.size+1) k
   refine .inr ⟨.inl k,c,e,?_⟩;have q:=x.cell y c e;rw[aad ndP hp hu (by show scope.names.lookup y≠_;rw[k];decide)] at q;exact q
 .exact e0.hok.fresh (xj (x.above y c (wK h)))
 .unfold start;show _=N.length;rw[gb,bw,Xj];lia
theorem an1{CX:qL}{P:bL}{w:bI}{K:aM}{mg:Str->Option Value}{base:bC}{k:Nat}{f:aq}{name qual:Str}{params:Arguments}{body:List dM}{scope:jO}{dV kV doc pm cdv ct oc:Value}{an od:Option aq}
  {osl:Array (Option Value)}{N ps:List Str}{sp:Sp}(lk:K.lookup f=aa ⟨oc,od,.func (zc name qual params body scope dV kV doc pm an cdv ct),osl⟩)(hcd:OD K cdv qual=ao)(S:iQ N ps scope)
  (len:∀vs H Q E,sp vs H Q E->vs.length=ps.length)
  (hbody:∀(A:cM)(outer:List Env)(s:aD)(H:Hp)(vs:List V)(Q:VK)(E:XK),jg k (A.deeper (envOfC qual scope s.heap.objs.size f cdv))->sp vs H Q E->
   ∃t,jG (zV CX P w K mg base N qual scope f cdv A outer s H E) body t/\t {nx:=λ_ H'=>Q .non H',rt:=Q} (start N vs) H):
  dX P w K mg base CX (k+1) f (zc name qual params body scope dV kV doc pm an cdv ct) ps sp:=by
 refine⟨len,λA outer s H args us vs Q E hr e0 hb r hsp=>?_⟩
 have hl:=len _ _ _ _ hsp;have KX:K.In s.heap:=e0.mod.V6.keeps λb o e=>(e0.bs b o e).1
 have lim:s.heap.NoLimit:=e0.mod.nolimit.keeps λb o e=>(e0.bs b o e).1
 have hkind:∀y∈ps.zip us,scope.names.lookup y.1=aa .local\/(scope.names.lookup y.1=aa .cell/\((cellsFrom (s.heap.objs.size+1) scope.names []).lookup y.1).isSome=ao):=λ⟨n,v⟩ hy=>by
  rcases S.par n (Oo hy).1 with q|q
  .exact .inl q
  .exact .inr ⟨q,afl _ _ _ (.inl q)⟩
 refine codeAny_call_function hr.depth (KX _ _ lk) rfl S.co S.gen rfl (PySem.W.codeRec_of KX hcd) (hb _ _ _ _ ?_);refine wpAny_newFunctionEnv_cells S.kind hkind λenv he s1 x=>?_
 subst he
 refine⟨lim.keeps x.toInCall.keep,codeAny_func ?_⟩
 obtain⟨t,ht,hq⟩:=hbody A outer s H vs Q E (hr.deeper _) hsp
 have I:Inv (zV CX P w K mg base N qual scope f cdv A outer s H E) [] (start N vs) H s1:=aix S hr.hd e0 hl r x;refine pN (ht [] s1 (start N vs) H _ I hq) (λfl s' hs=>?_) λe s' hs=>hs
 have fin:∀{σ':St}{H':Hp}{v:V}{u:Value},Inv (zV CX P w K mg base N qual scope f cdv A outer s H E) [] σ' H' s'->RelV v u->Q v H'->CE outer P w H s Q u s':=
  λ{σ' H' v u} J rv q=>⟨v,H',J.os,J.bare,J.base,J.hok,rv,q⟩
 cases fl with
 |ret u=>
  obtain⟨v,σ',H',J,rv,q⟩:=hs
  exact fin J rv q
 |next=>
  obtain⟨σ',H',J,q⟩:=hs
  exact fin (v:=V.non) (u:=mX) J rfl q
 |brk=>
  obtain⟨_,_,_,q⟩:=hs
  exact rR q
 |cont=>
  obtain⟨_,_,_,q⟩:=hs
  exact rR q
section
variable{X:Cx}{x:Str}{p pos:Pos}{e:Expr}{es:List Expr}{t:TA}{id T:String}{r:List V->Hp->VK->Prop}
def Wd(r:List V->Hp->VK->Prop)(t:TA):TE:=λσ H Q=>t σ H λvs H1=>r vs H1 Q
theorem J2(hc:ie X (.builtin id) r)(hg:Gl X x)(hm:X.mg x=aj)(hv:uv x=aa (.builtin id))(ha:PA X (e::es) t)(hn:x≠"__name__":=by decide)(hdb:(x==("__debug__":Str))=aJ:=by decide)
  (he:bJ (e::es) X.env=(aJ,eval e X.env)::bJ es X.env:=by rfl)(hpl:(gH pos (bJ es X.env)).any (·.1)=aJ:=by rfl):PE X (.Call (.Name x p) (e::es) [] pos) (Wd r t):=by
 intro pins s σ H Q I h;refine H9 (vD I hg hm hv ?_ hn hdb);exact W5 (bO (ha pos pins s σ H _ I h) λus s1 ⟨vs,H1,I1,r1,q1⟩=>hc pins s1 σ H1 vs us Q I1 r1 q1) he hpl
theorem aiy(hc:ie X (.type T) r)(hg:Gl X x)(hm:X.mg x=aj)(hv:uv x=aa (.type T))(ha:PA X (e::es) t)(hn:x≠"__name__":=by decide)(hdb:(x==("__debug__":Str))=aJ:=by decide)
  (he:bJ (e::es) X.env=(aJ,eval e X.env)::bJ es X.env:=by rfl)(hpl:(gH pos (bJ es X.env)).any (·.1)=aJ:=by rfl):PE X (.Call (.Name x p) (e::es) [] pos) (Wd r t):=by
 intro pins s σ H Q I h;refine H9 (vD I hg hm hv ?_ hn hdb);exact HJ (bO (ha pos pins s σ H _ I h) λus s1 ⟨vs,H1,I1,r1,q1⟩=>hc pins s1 σ H1 vs us Q I1 r1 q1) he hpl
end
end L2
namespace HT
open PySem PyProof.Rows
section
open PySem.SeqAt
open PySem.AutoSeq1 (wpAny_loadPart')
open PySem.MeetsSeq PySem.MeetsSeq2 PySem.MeetsSeq3
end
section
variable{prog:bL}{w:bI}{A:cM}{E:Value->aD->Prop}{s:aD}
theorem akO{t b:aq}{vs ws:List Value}{Q:Value->aD->Prop}(ht:IsTup s.heap t vs.toArray)(hb:IsTup s.heap b ws.toArray)(hv:vs≠[])
  (h1:ws=[]->Q (.ref t) s)(h2:ws≠[]->Q (.ref s.heap.objs.size) {s with heap:=s.heap.push {cls:=.type "tuple",data:=.seq (vs++ws).toArray}})
  (hsz:vs.length+ws.length<=cu):aR (model prog w) A (qj .Add (.ref t) (.ref b)) Q E s:=by
 obtain⟨⟨cls,dd,data,sl⟩,ho,hc,n,hd⟩:=id ht
 obtain⟨⟨cls2,dd2,data2,sl2⟩,ho2,hc2,n2,hd2⟩:=id hb
 simp only at hc hd hc2 hd2;subst hc hd hc2 hd2;have e:vs.toArray++ws.toArray=(vs++ws).toArray:=by simp
 by_cases hw:ws=[]
 .exact Y9 ⟨_,ho,rfl⟩ ⟨_,ho2,rfl⟩ X4 YQ Xf Xe (Xa _ _)
   (tuple_addW1 t b vs.toArray ws.toArray n n2 dd dd2 sl sl2 (by simpa using hv) (by simp[hw])) ⟨ho,ho2,h1 hw⟩
 .refine Y9 ⟨_,ho,rfl⟩ ⟨_,ho2,rfl⟩ X4 YQ Xf Xe (Xa _ _)
   (tuple_addW2 t b vs.toArray ws.toArray n n2 dd dd2 sl sl2 (by simpa using hv) (by simpa using hw) (by rw[gG,gG];exact hsz)) ⟨ho,ho2,?_⟩
  rw[e];exact h2 hw
def cH(n d:Nat):Option Int->Nat
 |none=>d
 |some v=>if v<0 then(v+(n:Int)).toNat else min v.toNat n
theorem Ko(n d k:Nat):cH n d (aa (k:Int))=min k n:=by
 show(if(k:Int)<0 then((k:Int)+(n:Int)).toNat else min (k:Int).toNat n)=min k n
 rw[bH (by lia),yP]
theorem amy(n d:Nat)(hd:d<=n)(o:Option Int):cH n d o<=n:=by
 cases o with
 |none=>exact hd
 |some v=>
  show(if v<0 then(v+(n:Int)).toNat else min v.toNat n)<=n
  by_cases hv:v<0
  .rw[bz hv];lia
  .rw[bH hv];exact Nat.min_le_right _ _
theorem abF(v:Int)(n d:Nat):(if v<0 then max (v+(n:Int)) 0 else min v (n:Int))=((cH n d (aa v):Nat):Int):=by
 show(if v<0 then max (v+(n:Int)) 0 else min v (n:Int))=(((if v<0 then(v+(n:Int)).toNat else min v.toNat n):Nat):Int)
 by_cases hv:v<0
 .simp only[bz hv];lia
 .simp only[bH hv];lia
theorem ahK(lo hi:Option Int)(n:Nat):W7 lo hi 1 (n:Int)=(((cH n 0 lo:Nat):Int),((cH n n hi:Nat):Int)):=by
 have h1:¬((1:Int)<0):=by lia
 unfold W7;simp only[h1,if_false];refine Prod.ext ?_ ?_
 .cases lo with
  |none=>rfl
  |some v=>exact abF v n 0
 .cases hi with
  |none=>rfl
  |some v=>exact abF v n n
theorem ahL(i j:Nat):Nr (i:Int) (j:Int) 1=j-i:=by
 unfold Nr;have h1:(1:Int)>0:=by lia
 simp only[h1,if_true,Int.ediv_one];split<;>lia
theorem ZG{v:Value}{o:Option Int}{Q:Option Int->aD->Prop}(p:uG v o)(h:Q o s):aR (model prog w) A (aqP v) Q E s:=by
 cases p with
 |none=>exact slicePart_none h
 |int i t=>exact slicePart_int h
theorem X5{sl:aq}{vl vu:Value}{lo hi:Option Int}{n:Nat}{Q:Int×Int×Nat->aD->Prop}(hs:s.heap.IsSliceOf sl vl vu .none)(pl:uG vl lo)(pu:uG vu hi)
  (h:Q (((cH n 0 lo:Nat):Int),1,cH n n hi-cH n 0 lo) s):aR (model prog w) A (ae7 (.ref sl) (pure (n:Int))) Q E s:=by
 obtain⟨os,hos,hcs,hds⟩:=id hs
 unfold ae7 aq4;refine aG (aG (Zt hos hds (x:=vl) rfl (aG (Zt hos hds (x:=vu) rfl (aG (Zt hos hds (x:=.none) rfl (bh ?_)))))));refine aG (slicePart_none ?_);show aR _ _ (if((1:Int)==0)=ao then _ else _) _ _ s;rw[bH (by decide)];refine aG (ZG pl (aG (ZG pu (aG (bh ?_)))));show aR _ _ (match W7 lo hi 1 (n:Int) with|(lo,hi)=>pure (lo,(1:Int),Nr lo hi 1)) _ _ s;rw[ahK lo hi n];show aR _ _ (pure (((cH n 0 lo:Nat):Int),(1:Int),Nr ((cH n 0 lo:Nat):Int) ((cH n n hi:Nat):Int) 1)) _ _ s;rw[ahL];exact bh h
theorem ajv(xs:Array Value)(i k:Nat):((fB k).filterMap λ(m:Nat)=>xs[((i:Int)+(m:Int)*1).toNat]?).toArray=((xs.toList.drop i).take k).toArray:=by
 have e:(λ(m:Nat)=>xs[((i:Int)+(m:Int)*1).toNat]?)=λm=>xs[i+m]?:=by
  funext m;have:((i:Int)+(m:Int)*1).toNat=i+m:=by lia
  rw[this]
 rw[e];have:=pick_run xs i k;rw[List.filterMap_map] at this;have e2:((λx=>xs[x]?) ∘ λx=>i+x)=λm=>xs[i+m]?:=rfl
 rw[e2] at this;rw[this]
theorem afX{t sl:aq}{items:Array Value}{vl vu:Value}{lo hi:Option Int}{Q:Value->aD->Prop}(ht:IsTup s.heap t items)(hs:s.heap.IsSliceOf sl vl vu .none)(pl:uG vl lo)(pu:uG vu hi)
  (hw:¬(cH items.size 0 lo=0/\cH items.size items.size hi=items.size))
  (h:Q (.ref s.heap.objs.size) {s with heap:=s.heap.push {cls:=.type "tuple",data:=.seq ((items.toList.drop (cH items.size 0 lo)).take (cH items.size items.size hi-cH items.size 0 lo)).toArray}})
  (hsz:items.size<=cu):aR (model prog w) A (xH (.ref t) (.ref sl)) Q E s:=by
 have Ln:sizeOk (.seq ((items.toList.drop (cH items.size 0 lo)).take (cH items.size items.size hi-cH items.size 0 lo)).toArray):=by
  show((items.toList.drop (cH items.size 0 lo)).take (cH items.size items.size hi-cH items.size 0 lo)).toArray.size<=cu
  rw[gG,pJ,DN,j5];lia
 have hj:cH items.size items.size hi<=items.size:=amy _ _ (cg _) hi
 obtain⟨os,hos,hcs,hds⟩:=id hs
 have hTs:s.TypeIs (.ref sl) "slice":=⟨os,hos,hcs⟩
 unfold xH
 try with_reducible refine mV ?_
 first|refine aG (bh ?_)|skip
 refine aG (afY ht.typeIs (by decide) ?_);refine aG (yM (name:=gf "__getitem__") ht.typeIs Nj
  (nY Nj ht.typeIs entry_tuple_getitem ?_ (args_tuple_getitem _ _)))
 show aR _ _ (ae8 (.ref t) >>= _) _ _ s;refine aG (tupleItemsOf_ ht ?_);refine aG (Jf hTs ?_);rw[bz (by decide)];refine aG (X5 hs pl pu ?_);have hno:¬((((cH items.size 0 lo:Nat):Int)==0&&(1:Int)==1&&(cH items.size items.size hi-cH items.size 0 lo)==items.size)=ao):=by
  intro q;rw[jK,jK] at q;have q1:((cH items.size 0 lo:Nat):Int)=0:=eq_of_beq q.1.1;have q2:cH items.size items.size hi-cH items.size 0 lo=items.size:=eq_of_beq q.2;exact hw ⟨by lia,by lia⟩
 show aR _ _ (if(((cH items.size 0 lo:Nat):Int)==0&&(1:Int)==1&&(cH items.size items.size hi-cH items.size 0 lo)==items.size)=ao then _ else _) _ _ s;rw[bH hno,ajv]
 first
  |exact aG (m:=Nt _) (mQ (bh ⟨_,rfl,bh h⟩) Ln)
  |exact aG (m:=Nt _) (mQ (aG (bh (bh ⟨_,rfl,bh h⟩))) Ln)
  |exact aG (aG (m:=Nt _) (mQ (bh (bh ⟨_,rfl,bh h⟩)) Ln))
  |exact aG (aG (m:=Nt _) (mQ (bh ⟨_,rfl,bh h⟩) Ln))
end
end HT
namespace L2
open PySem PySem.Spec PyProof.Rows
abbrev TO:=St->Hp->(Option Int->Hp->Prop)->Prop
def PO(X:Cx)(e:Option Expr)(t:TO):Prop:=
 ∀(pins:List (aq×Obj))(s:aD)(σ:St)(H:Hp)(Q:Option Int->Hp->Prop),Inv X pins σ H s->t σ H Q->
  aR (model X.prog X.w) X.A (evalPart e X.env) (λu s'=>∃o H',Inv X pins σ H' s'/\uG u o/\Q o H') X.xe s
def akP:TO:=λ_ H Q=>Q aj H
def an2(t:TE):TO:=λσ H Q=>t σ H λx H1=>∃i,x=.int i/\Q (aa i) H1
theorem intsAre_of{ns:List Int}:∀{us:List Value},Vals (ns.map V.int) us->IntsAre us ns:=by
 induction ns with
 |nil=>intro us r;rw[mW] at r;cases r;exact .nil
 |cons n ns ih=>
  intro us r;rw[cJ] at r;cases r with
  |cons r1 r2=>
   obtain⟨t,e⟩:=r1
   subst e;exact .cons n t (ih r2)
section
variable{X:Cx}{e:Expr}{te:TE}{lo hi:Option Expr}{tl th:TO}{pos p2:Pos}
theorem akQ:PO X aj akP:=by
 intro pins s σ H Q I h;rw[evalPart_none];exact bh ⟨aj,H,I,.none,h⟩
theorem akR(h:PE X e te):PO X (aa e) (an2 te):=by
 intro pins s σ H Q I hw;rw[evalPart_some];refine bO (h pins s σ H _ I hw) λu s1 aP=>?_
 obtain⟨x,H1,I1,r1,q1⟩:=aP
 obtain⟨i,rfl,q⟩:=q1
 obtain⟨t,rfl⟩:=r1
 exact⟨aa i,H1,I1,.int i t,q⟩
def vZ(X:Cx)(r:V->Option Int->Option Int->Hp->VK->Prop):Prop:=
 ∀(pins:List (aq×Obj))(s:aD)(σ:St)(H:Hp)(x:V)(v vl vu:Value)(lo hi:Option Int)(sl:aq)(Q:VK),Inv X pins σ H s->RelV x v->s.heap.IsSliceOf sl vl vu .none->uG vl lo->uG vu hi->r x lo hi H Q->
  ∃T id,typeLookup (.type T) "__getitem__"=pure (aa (.builtin id))/\s.TypeIs v T/\aR (model X.prog X.w) X.A (xH v (.ref sl)) (EP X pins σ Q) X.xe s
theorem vZ.or{r r':V->Option Int->Option Int->Hp->VK->Prop}(h:vZ X r)(h':vZ X r'):vZ X (λx lo hi H Q=>r x lo hi H Q\/r' x lo hi H Q):=by
 intro pins s σ H x v vl vu lo hi sl Q I rx hs pl pu q;rcases q with q|q
 .exact h pins s σ H x v vl vu lo hi sl Q I rx hs pl pu q
 .exact h' pins s σ H x v vl vu lo hi sl Q I rx hs pl pu q
def tSl(r:V->Option Int->Option Int->Hp->VK->Prop)(te:TE)(tl th:TO):TE:=λσ H Q=>te σ H λx H1=>tl σ H1 λl H2=>th σ H2 λu H3=>r x l u H3 Q
theorem ajw{r:V->Option Int->Option Int->Hp->VK->Prop}(hr:vZ X r)(he:PE X e te)(hl:PO X lo tl)(hu:PO X hi th):PE X (.Subscript e (.Slice lo hi aj p2) pos) (tSl r te tl th):=by
 intro pins s σ H Q I h;refine Subscript_ (bO (he pins s σ H _ I h) λv s1 aP=>?_)
 obtain⟨x,H1,I1,r1,q1⟩:=aP
 refine wpAny_Slice (bO (hl pins s1 σ H1 _ I1 q1) λvl s2 ⟨l,H2,I2,pl,q2⟩=>bO (hu pins s2 σ H2 _ I2 q2) λvu s3 aP=>?_)
 obtain⟨u,H3,I3,pu,q3⟩:=aP
 rw[evalPart_none];refine bh ?_;have I4:Inv X pins σ H3 {s3 with heap:=s3.heap.push {cls:=.type "slice",data:=.fields #[vl,vu,.none]}}:=I3.kept (t':=s3.toks) λb ob q=>cW _ q
 obtain⟨T,id,hT,ht,hg⟩:=hr pins {s3 with heap:=s3.heap.push {cls:=.type "slice",data:=.fields #[vl,vu,.none]}} σ H3 x v vl vu l u s3.heap.objs.size Q I4 r1 (aru ..) pl pu q3
 show aR (model X.prog X.w) X.A (subscriptTail e (.Slice lo hi aj p2) v (.ref s3.heap.objs.size)) (EP X pins σ Q) X.xe {s3 with heap:=s3.heap.push {cls:=.type "slice",data:=.fields #[vl,vu,.none]}};exact tail_any (ops:=[.ref s3.heap.objs.size,v]) ht hT hg (by with_unfolding_all rfl)
def tK(xs:List V)(lo hi:Option Int):List V:=(xs.drop (HT.cH xs.length 0 lo)).take (HT.cH xs.length xs.length hi-HT.cH xs.length 0 lo)
theorem Zu(xs:List V)(lo hi:Option Int):(tK xs lo hi).length<=xs.length:=by
 unfold tK;rw[pJ,DN];lia
def ao0(K:aM):V->Option Int->Option Int->Hp->VK->Prop:=λx lo hi H Q=>∃a xs,x=.ref a/\dj K H a xs/\
 ¬(HT.cH xs.length 0 lo=0/\HT.cH xs.length xs.length hi=xs.length)/\∀p,H p=aj->Q (.ref p) (upd H p (.tup (tK xs lo hi)))
theorem amz:vZ X (ao0 X.K):=by
 intro pins s σ H x v vl vu lo hi sl Q I rx hs pl pu h
 obtain⟨a,xs,rfl,hx,hw,q⟩:=h
 cases rx
 obtain⟨its,r,ht,hz⟩:=I.tuple hx
 have hlen:its.toArray.size=xs.length:=by rw[gG];exact r.length.symm
 refine⟨"tuple",_,PyProof.Rows.slot_tuple_getitem.lookup,ht.typeIs,?_⟩
 refine HT.afX ht hs pl pu (by rw[hlen];exact hw) ?_ (by rw[hlen];exact hz);rw[hlen]
 refine⟨.ref s.heap.objs.size,_,I.laid (t':=s.toks) (o:=.tup (tK xs lo hi)) (λb ob q=>cW _ q) (cg _) ?_,rfl,q _ (I.hok.fresh (cg _))⟩
 exact⟨j7 (Zu xs lo hi) hz,_,(r.drop (HT.cH xs.length 0 lo)).take (HT.cH xs.length xs.length hi-HT.cH xs.length 0 lo),IsTup.new _ _⟩
def adm(K:aM):R2:=λx y H Q=>∃a b xs ys,x=.ref a/\y=.ref b/\dj K H a xs/\dj K H b ys/\xs≠[]/\xs.length+ys.length<=cu/\
 (ys=[]->Q (.ref a) H)/\(ys≠[]->∀p,H p=aj->Q (.ref p) (upd H p (.tup (xs++ys))))
theorem Vals.Td{xs:List V}{us:List Value}(r:Vals xs us):us=[]↔xs=[]:=by
 cases r with
 |nil=>simp
 |cons _ _=>simp
theorem akS:dm X (qj .Add) (adm X.K):=by
 intro pins s σ H x y v u Q I rx ry h
 obtain⟨a,b,xs,ys,rfl,rfl,ha,hb,hx,hz,q1,q2⟩:=h
 cases rx;cases ry
 obtain⟨its,r1,p1,_⟩:=I.tuple ha
 obtain⟨its2,r2,p2,_⟩:=I.tuple hb
 refine HT.akO p1 p2 (λz=>hx (r1.Td.mp z)) (λz=>⟨.ref a,H,I,rfl,q1 (r2.Td.mp z)⟩) (λz=>?_) (by rw[<-r1.length,<-r2.length];exact hz)
 refine⟨.ref s.heap.objs.size,_,I.laid (t':=s.toks) (o:=.tup (xs++ys)) (λb ob q=>cW _ q) (cg _) ?_,rfl,q2 (λw=>z (r2.Td.mpr w)) _ (I.hok.fresh (cg _))⟩
 exact⟨by rw[gb];exact hz,_,r1.append r2,IsTup.new _ _⟩
end
def oE(n:Nat)(i:Int):Option Nat:=if 0<=i then(if i<n then aa i.toNat else aj) else if -(n:Int)<=i then aa (i+n).toNat else aj
def fY{α:Type}(xs:List α)(i:Int):Option α:=(oE xs.length i).bind λj=>xs[j]?
theorem abG{n:Nat}{i:Int}{j:Nat}(h:oE n i=aa j):QW i n=aa j/\j<n/\-(n:Int)<=i/\i<n:=by
 unfold oE at h;by_cases h0:0<=i
 .rw[bz h0] at h;by_cases h1:i<n
  .rw[bz h1] at h;have e:i.toNat=j:=gP h
   exact⟨by rw[Zv h0 h1,e],by lia,by lia,h1⟩
  .rw[bH h1] at h;cases h
 .rw[bH h0] at h;by_cases h1:-(n:Int)<=i
  .rw[bz h1] at h;have e:(i+n).toNat=j:=gP h
   exact⟨by rw[Za (by lia) h1,e],by lia,h1,by lia⟩
  .rw[bH h1] at h;cases h
theorem Te{α:Type}{xs:List α}{i:Int}{v:α}(h:fY xs i=aa v):∃j,QW i xs.length=aa j/\xs[j]?=aa v/\j<xs.length/\-(xs.length:Int)<=i/\i<xs.length:=by
 unfold fY at h;cases e:oE xs.length i with
 |none=>rw[e] at h;cases h
 |some j=>
  rw[e] at h
  obtain⟨h1,h2,h3,h4⟩:=abG e
  exact⟨j,h1,h,h2,h3,h4⟩
theorem xJ{α:Type}{xs:List α}{j:Nat}{v:α}(h:xs[j]?=aa v):fY xs (j:Int)=aa v:=by
 have hj:j<xs.length:=(jH.mp h).1;have e:oE xs.length (j:Int)=aa j:=by
  unfold oE;rw[bz (by lia),bz (by lia)];simp
 unfold fY;rw[e];exact h
def Kq(b:Expr):Prop:=∀o i,Zw b aJ o i=operate [o,i] (xH o i)
def rH(X:Cx)(r:R2):Prop:=
 ∀(value slice:Expr)(pins:List (aq×Obj))(s:aD)(σ:St)(H:Hp)(x y:V)(v u:Value)(Q:VK),Inv X pins σ H s->RelV x v->RelV y u->r x y H Q->
  Zw slice aJ v u=operate [v,u] (xH v u)->aR (model X.prog X.w) X.A (subscriptTail value slice v u) (EP X pins σ Q) X.xe s
def Dp(X:Cx)(id:String)(r:V->List V->Hp->VK->Prop):Prop:=
 ∀(pins:List (aq×Obj))(s:aD)(σ:St)(H:Hp)(x:V)(xs:List V)(v:Value)(us:List Value)(Q:VK),Inv X pins σ H s->RelV x v->Vals xs us->r x xs H Q->
  aR (model X.prog X.w) X.A (call (.builtin id) (v::us)) (EP X pins σ Q) X.xe s
section
variable{X:Cx}{a b:Expr}{ta tb:TE}{pos:Pos}
theorem rH.or{r r':R2}(h:rH X r)(h':rH X r'):rH X (λx y H Q=>r x y H Q\/r' x y H Q):=by
 intro value slice pins s σ H x y v u Q I rx ry q hs;rcases q with q|q
 .exact h value slice pins s σ H x y v u Q I rx ry q hs
 .exact h' value slice pins s σ H x y v u Q I rx ry q hs
theorem Dp.or{id:String}{r r':V->List V->Hp->VK->Prop}(h:Dp X id r)(h':Dp X id r'):Dp X id (λx xs H Q=>r x xs H Q\/r' x xs H Q):=by
 intro pins s σ H x xs v us Q I rx rs q;rcases q with q|q
 .exact h pins s σ H x xs v us Q I rx rs q
 .exact h' pins s σ H x xs v us Q I rx rs q
theorem Vg{r:R2}(hr:rH X r)(ha:PE X a ta)(hb:PE X b tb)(hs:Kq b):PE X (.Subscript a b pos) (G6 r ta tb):=by
 intro pins s σ H Q I h;exact Subscript_ (VD ha hb I h λv u s2 x y H2 I2 rx ry q=>hr a b pins s2 σ H2 x y v u Q I2 rx ry q (hs _ _))
def adS(K:aM):R2:=λx y H Q=>∃p xs i v,x=.ref p/\y=.int i/\bR K H p xs/\fY xs i=aa v/\Q v H
def adT(K:aM):R2:=λx y H Q=>∃p xs i v,x=.ref p/\y=.int i/\dj K H p xs/\fY xs i=aa v/\Q v H
def adU:R2:=λx y H Q=>∃z i c,x=.str z/\y=.int i/\z.length<=cu/\fY z.cps.toList i=aa c/\Q (.str ⟨#[c]⟩) H
theorem Tf:rH X (adS X.K):=by
 intro value slice pins s σ H x y v u Q I rx ry h hs
 obtain⟨p,xs,i,z,rfl,rfl,hq,he,q⟩:=h
 cases rx
 obtain⟨t,rfl⟩:=ry
 obtain⟨its,r,pl,hz⟩:=I.list hq
 obtain⟨j,h1,h2,h3,h4,h5⟩:=Te he
 obtain⟨w,ew,rw'⟩:=r.get h2
 have hl:=r.length;have hn:=zG;have fin:EP X pins σ Q w s:=⟨z,H,I,rw',q⟩
 by_cases h0:0<=i
 .have hj:i.toNat=j:=by
   rw[Zv h0 h5] at h1;exact gP h1
  exact item_listR pl.isList h0 (by lia) (by rw[hj];simpa using ew) fin hs
 .have hj:(i+(its.toArray.size:Int)).toNat=j:=by
   rw[Za (by lia) h4] at h1;rw[gG,<-hl];exact gP h1
  exact subscriptTail_builtinR (x:=w) pl.isList.typeIs slot_list_getitem.lookup
   (wpAny_getItem_list_neg (Q:=λr s'=>r=w/\EP X pins σ Q r s') pl.isList (by lia) (by rw[gG]<;>lia) (by lia) (by rw[hj];simpa using ew) ⟨rfl,fin⟩) hs
theorem amA:rH X (adT X.K):=by
 intro value slice pins s σ H x y v u Q I rx ry h hs
 obtain⟨p,xs,i,z,rfl,rfl,hq,he,q⟩:=h
 cases rx
 obtain⟨t,rfl⟩:=ry
 obtain⟨its,r,pl,hz⟩:=I.tuple hq
 obtain⟨j,h1,h2,h3,h4,h5⟩:=Te he
 obtain⟨w,ew,rw'⟩:=r.get h2
 have hl:=r.length;have hn:=zG;have fin:EP X pins σ Q w s:=⟨z,H,I,rw',q⟩
 exact subscriptTail_builtinR (x:=w) pl.typeIs slot_tuple_getitem.lookup
  (getItem_tuple (j:=j) (Q:=λr s'=>r=w/\EP X pins σ Q r s') pl (by lia) (by lia) (by rw[gG,<-hl];exact h1) (by simpa using ew) ⟨rfl,fin⟩) hs
theorem amB:rH X adU:=by
 intro value slice pins s σ H x y v u Q I rx ry h hs
 obtain⟨z,i,c,rfl,rfl,hz,he,q⟩:=h
 obtain⟨t,rfl⟩:=rx
 obtain⟨t',rfl⟩:=ry
 obtain⟨j,h1,h2,h3,h4,h5⟩:=Te he
 have hl:z.cps.toList.length=z.length:=by simp[Str.length]
 rw[hl] at h1 h4 h5;have hn:=zG;exact tail_any (ZJ s z t) slot_str_getitem.lookup (getItem_str (c:=c) (by
  have e1:decide (i< -(2^63:Int))=aJ:=gM (by lia);have e2:decide (i>=2^63)=aJ:=gM (by lia);rw[e1,e2,Bool.or_false]) (by rw[h1];simpa using h2) ⟨.str ⟨#[c]⟩,H,I.tok _,⟨_,rfl⟩,q⟩) hs
def rIx(K:aM):R2:=λx y H Q=>adS K x y H Q\/adT K x y H Q\/adU x y H Q
theorem amC:rH X (rIx X.K):=Tf.or (amA.or amB)
theorem ahM(its:List Value)(n j:Nat)(u:Value):nq (·.setIfInBounds j u) {cls:=.type "list",data:=.seq its.toArray n}={cls:=.type "list",data:=.seq (its.set j u).toArray n}:=by
 simp[nq]
theorem Inv.lst{pins:List (aq×Obj)}{σ:St}{H:Hp}{s:aD}{p:aq}{xs:List V}(I:Inv X pins σ H s)(h:H p=aa (.lst xs)):
  ∃(its:List Value)(n:Nat),Vals xs its/\s.heap.get? p=aa {cls:=.type "list",data:=.seq its.toArray n}/\xs.length<=cu:=by
 obtain⟨z,its,n,r,e⟩:=I.hok p _ h
 exact⟨its,n,r,e,z⟩
theorem Inv.amD{pins:List (aq×Obj)}{σ:St}{H:Hp}{s:aD}{p:aq}{xs ys:List V}{its its':List Value}{n n':Nat}{f:Obj->Obj}(I:Inv X pins σ H s)(h:H p=aa (.lst xs))
  (ho:s.heap.get? p=aa {cls:=.type "list",data:=.seq its.toArray n})(hf:f {cls:=.type "list",data:=.seq its.toArray n}={cls:=.type "list",data:=.seq its'.toArray n'})(r:Vals ys its')(hz:ys.length<=cu)(t:Nat):
  Inv X pins σ (upd H p (.lst ys)) {s with heap:=s.heap.update p f,toks:=t}:=by
 have e:(s.heap.update p f).get? p=aa {cls:=.type "list",data:=.seq its'.toArray n'}:=by
  rw[yN f ho (by rw[hf]<;>rfl),hf]
 refine I.write (x:=p) (e:=p) (by rw[h];trivial) (.inl rfl) (λb u hb q=>(um _ _ (lg hb)).trans q) ⟨_,e⟩ ?_
 exact⟨hz,its',n',r,e⟩
def Vh:V->V->V->Hp->(Hp->Prop)->Prop:=λo i v H Q=>∃p xs k j,o=.ref p/\i=.int k/\H p=aa (.lst xs)/\oE xs.length k=aa j/\Q (upd H p (.lst (xs.set j v)))
theorem set_list:vP X Vh:=by
 intro pins s σ H o i v ov iv u Q I ro ri rv h
 obtain⟨p,xs,k,j,rfl,rfl,hp,hj,q⟩:=h
 cases ro
 obtain⟨t,rfl⟩:=ri
 obtain⟨its,n,r,ho,hz⟩:=I.lst hp
 obtain⟨h1,h2,h3,h4⟩:=abG hj
 have hl:=r.length;have hn:=zG;have I':Inv X pins σ (upd H p (.lst (xs.set j v))) {s with heap:=s.heap.update p (nq (·.setIfInBounds j u))}:=
  I.amD hp ho (ahM its n j u) (r.set rv j) (by rw[wQ];exact hz) s.toks
 by_cases h0:0<=k
 .have hk:k.toNat=j:=by
   rw[Zv h0 h4] at h1;exact gP h1
  exact PySem.W.ki_setAt ho h0 (by lia) (by rw[gG,<-hl];exact h4) (by rw[hk];exact⟨_,I',q⟩)
 .have hk:(k+(its.toArray.size:Int)).toNat=j:=by
   rw[Za (by lia) h3] at h1;rw[gG,<-hl];exact gP h1
  exact PySem.W.ki_setBack ho (by lia) (by rw[gG,<-hl];exact h3) (by lia) (by rw[hk];exact⟨_,I',q⟩)
theorem ag1(lo hi:Option Int)(n:Nat):(Bg lo hi aj n).1=((HT.cH n 0 lo:Nat):Int)/\(Bg lo hi aj n).2.1=((HT.cH n n hi:Nat):Int)/\(Bg lo hi aj n).2.2=1:=by
 refine⟨?_,?_,rfl⟩
 .cases lo with
  |none=>simp[Bg,HT.cH]
  |some i=>
   simp only[Bg,HT.cH,agf,show(1:Int)>0 by decide,if_true];by_cases h:i<0
   .simp only[h,if_true]<;>lia
   .simp only[h,if_false]<;>lia
 .cases hi with
  |none=>simp[Bg,HT.cH]
  |some i=>
   simp only[Bg,HT.cH,agf,show(1:Int)>0 by decide,if_true];by_cases h:i<0
   .simp only[h,if_true]<;>lia
   .simp only[h,if_false]<;>lia
theorem agJ(its:List Value)(lo hi:Option Int):slicePick its.toArray lo hi aj=((its.drop (HT.cH its.length 0 lo)).take (HT.cH its.length its.length hi-HT.cH its.length 0 lo)).toArray:=by
 obtain⟨h1,h2,h3⟩:=ag1 lo hi its.toArray.size
 unfold slicePick;rw[h1,h2,h3];simp only[sliceRange_one,pick_run,gG]<;>rfl
def ao1(K:aM):V->Option Int->Option Int->Hp->VK->Prop:=λx lo hi H Q=>∃a xs,x=.ref a/\bR K H a xs/\∀p,H p=aj->Q (.ref p) (upd H p (.lst (tK xs lo hi)))
theorem akT:vZ X (ao1 X.K):=by
 intro pins s σ H x v vl vu lo hi sl Q I rx hs pl pu h
 obtain⟨a,xs,rfl,hx,q⟩:=h
 cases rx
 obtain⟨its,r,ht,hz⟩:=I.list hx
 have hlen:=r.length
 refine⟨"list",_,slot_list_getitem.lookup,ht.isList.typeIs,?_⟩
 refine wpAny_getItem_list_slice ht.isList hs pl pu .none (by simp) ?_ (by rw[gG]<;>lia);rw[agJ,<-hlen]
 refine⟨.ref s.heap.objs.size,_,I.laid (t':=s.toks) (o:=.lst (tK xs lo hi)) (λb ob q=>cW _ q) (cg _) ?_,rfl,q _ (I.hok.fresh (cg _))⟩
 exact⟨j7 (Zu xs lo hi) hz,_,0,(r.drop (HT.cH xs.length 0 lo)).take (HT.cH xs.length xs.length hi-HT.cH xs.length 0 lo),iH _ rfl⟩
def qx:V->Bool
 |.non=>ao
 |.bl _=>ao
 |.int _=>ao
 |.str _=>ao
 |_=>aJ
def tV:V->V->Bool
 |.non,.non=>ao
 |.bl a,.bl b=>a==b
 |.bl a,.int b=>(if a then 1 else 0)==b
 |.int a,.bl b=>a==(if b then 1 else 0)
 |.int a,.int b=>a==b
 |.str a,.str b=>a==b
 |_,_=>aJ
theorem Uo{A:cM}{s:aD}{y x:V}{u v:Value}(ry:RelV y u)(rx:RelV x v)(fy:qx y=ao)(fx:qx x=ao):JB A s u v (tV y x):=by
 cases y with
 |non=>
  cases ry;cases x with
  |non=>cases rx;exact agr _
  |bl b=>cases rx;exact SeqAt.EqAt.none_bool b
  |int b=>obtain⟨t,rfl⟩:=rx;exact SeqAt.EqAt.none_int b t
  |str b=>obtain⟨t,rfl⟩:=rx;exact SeqAt.EqAt.none_str b t
  |_=>exact absurd (show aJ=ao from fx) iI
 |bl a=>
  cases ry;cases x with
  |non=>cases rx;exact SeqAt.EqAt.bool_none a
  |bl b=>cases rx;exact SeqAt.EqAt.bool_bool a b
  |int b=>obtain⟨t,rfl⟩:=rx;exact SeqAt.EqAt.bool_int a b t
  |str b=>obtain⟨t,rfl⟩:=rx;exact SeqAt.EqAt.bool_str a b t
  |_=>exact absurd (show aJ=ao from fx) iI
 |int a=>
  obtain⟨t',rfl⟩:=ry
  cases x with
  |non=>cases rx;exact SeqAt.EqAt.int_none a t'
  |bl b=>cases rx;exact SeqAt.EqAt.int_bool a t' b
  |int b=>obtain⟨t,rfl⟩:=rx;exact afO a t' b t
  |str b=>obtain⟨t,rfl⟩:=rx;exact afJ a t' b t
  |_=>exact absurd (show aJ=ao from fx) iI
 |str a=>
  obtain⟨t',rfl⟩:=ry
  cases x with
  |non=>cases rx;exact SeqAt.EqAt.str_none a t'
  |bl b=>cases rx;exact SeqAt.EqAt.str_bool a t' b
  |int b=>obtain⟨t,rfl⟩:=rx;exact afK a t' b t
  |str b=>obtain⟨t,rfl⟩:=rx;exact SeqAt.EqAt.str_str a t' b t
  |_=>exact absurd (show aJ=ao from fx) iI
 |_=>exact absurd (show aJ=ao from fy) iI
def pC(x:V)(u:Value):Bool:=match u with
 |.none=>tV .non x
 |.bool b=>tV (.bl b) x
 |.int i _=>tV (.int i) x
 |.str z _=>tV (.str z) x
 |_=>aJ
theorem acA{x y:V}{u:Value}(r:RelV y u)(f:qx y=ao):pC x u=tV y x:=by
 cases y with
 |non=>cases r;rfl
 |bl b=>cases r;rfl
 |int i=>obtain⟨t,rfl⟩:=r;rfl
 |str z=>obtain⟨t,rfl⟩:=r;rfl
 |_=>exact absurd (show aJ=ao from f) iI
theorem Ey{x:V}:∀{xs:List V}{us:List Value},Vals xs us->xs.all qx=ao->us.any (pC x)=xs.any λy=>tV y x
 |_,_,.nil,_=>rfl
 |y::xs,u::us,.cons r t,f=>by
  rw[Pj,jK] at f;rw[IW,IW,acA r f.1,Ey t f.2]
theorem Ep{A:cM}{s:aD}{x:V}{v:Value}(rx:RelV x v)(fx:qx x=ao):∀{xs:List V}{us:List Value},Vals xs us->xs.all qx=ao->∀u∈us,JB A s u v (pC x u)
 |_,_,.nil,_=>λu hu=>by cases hu
 |y::xs,u::us,.cons r t,f=>λu' hu=>by
  rw[Pj,jK] at f;rcases cB.mp hu with rfl|hu
  .rw[acA r f.1];exact Uo r rx f.1 fx
  .exact Ep rx fx t f.2 u' hu
def inV(x:V)(xs:List V):Bool:=xs.any λy=>tV y x
def MF(K:aM)(neg:Bool):R2:=λx y H Q=>∃p xs,y=.ref p/\(bR K H p xs\/dj K H p xs)/\qx x=ao/\xs.all qx=ao/\Q (.bl (if neg then !inV x xs else inV x xs)) H
theorem aiz:dm X (fU .In) (MF X.K aJ):=by
 intro pins s σ H x y v u Q I rx ry h
 obtain⟨p,xs,rfl,hq,fx,fs,q⟩:=h
 cases ry;rcases hq with hq|hq
 .obtain⟨its,r,pl,hz⟩:=I.list hq
  refine SeqAt.in_listAt (pC x) pl.isList (λw hw=>Ep rx fx r fs w (by simpa using hw)) ⟨.bl _,H,I,rfl,?_⟩;rw[show its.toArray.any (pC x)=its.any (pC x) by simp,Ey r fs];exact q
 .obtain⟨its,r,pl,hz⟩:=I.tuple hq
  refine SeqAt.in_tupleAt (pC x) pl (λw hw=>Ep rx fx r fs w (by simpa using hw)) ⟨.bl _,H,I,rfl,?_⟩;rw[show its.toArray.any (pC x)=its.any (pC x) by simp,Ey r fs];exact q
theorem ag2:dm X (fU .NotIn) (MF X.K ao):=by
 intro pins s σ H x y v u Q I rx ry h
 obtain⟨p,xs,rfl,hq,fx,fs,q⟩:=h
 cases ry;rcases hq with hq|hq
 .obtain⟨its,r,pl,hz⟩:=I.list hq
  refine SeqAt.notIn_listAt (pC x) pl.isList (λw hw=>Ep rx fx r fs w (by simpa using hw)) ⟨.bl _,H,I,rfl,?_⟩;rw[show its.toArray.any (pC x)=its.any (pC x) by simp,Ey r fs];exact q
 .obtain⟨its,r,pl,hz⟩:=I.tuple hq
  refine SeqAt.notIn_tupleAt (pC x) pl (λw hw=>Ep rx fx r fs w (by simpa using hw)) ⟨.bl _,H,I,rfl,?_⟩;rw[show its.toArray.any (pC x)=its.any (pC x) by simp,Ey r fs];exact q
theorem Zb:ie X (.builtin "len") (λxs H Q=>∃p ys,xs=[.ref p]/\(bR X.K H p ys\/dj X.K H p ys)/\Q (.int ys.length) H):=by
 intro pins s σ H xs us Q I r h
 obtain⟨p,ys,rfl,hq,q⟩:=h
 obtain⟨u,rfl,rx⟩:=vals1 r
 cases rx;have hn:=zG;rcases hq with hq|hq
 .obtain⟨its,r',pl,hz⟩:=I.list hq
  have hlen:=r'.length;exact Calls.call_len_list pl.isList (by simp only[gG]<;>lia) ⟨.int ys.length,H,I.tok _,⟨s.toks+1,by rw[gG,hlen]⟩,q⟩
 .obtain⟨its,r',pl,hz⟩:=I.tuple hq
  have hlen:=r'.length;exact len_tuple pl (by simp only[gG]<;>lia) ⟨.int ys.length,H,I.tok _,⟨s.toks+1,by rw[gG,hlen]⟩,q⟩
theorem ag3:ie X (.builtin "len") (λxs H Q=>∃z,xs=[.str z]/\z.length<=cu/\Q (.int z.length) H):=by
 intro pins s σ H xs us Q I r h
 obtain⟨z,rfl,hz,q⟩:=h
 obtain⟨u,rfl,t,rfl⟩:=vals1 r
 have hn:=zG;exact len_str (by lia) ⟨.int z.length,H,I.tok _,⟨_,rfl⟩,q⟩
theorem ie.or{f:Value}{r r':List V->Hp->VK->Prop}(h:ie X f r)(h':ie X f r'):ie X f (λxs H Q=>r xs H Q\/r' xs H Q):=by
 intro pins s σ H xs us Q I rs q;rcases q with q|q
 .exact h pins s σ H xs us Q I rs q
 .exact h' pins s σ H xs us Q I rs q
theorem ag4:ie X (.type "list") (λxs H Q=>∃p ys,xs=[.ref p]/\(bR X.K H p ys\/dj X.K H p ys)/\∀l,H l=aj->Q (.ref l) (upd H l (.lst ys))):=by
 intro pins s σ H xs us Q I r h
 obtain⟨p,ys,rfl,hq,q⟩:=h
 obtain⟨u,rfl,rx⟩:=vals1 r
 cases rx;have fin:∀(its:List Value),Vals ys its->ys.length<=cu->∀(h':bC)(c':Nat),(∀b o',s.heap.get? b=aa o'->h'.get? b=aa o')->
   h'.get? s.heap.objs.size=aa {cls:=.type "list",dict:=aj,data:=.seq its.toArray c',slots:=#[]}->EP X pins σ Q (.ref s.heap.objs.size) {s with heap:=h'}:=λits r' hz h' c' kp e=>
  ⟨.ref s.heap.objs.size,_,I.laid (t':=s.toks) kp (cg _) (show fL X.prog X.w _ h' _ (.lst ys) from⟨hz,its,c',r',e⟩),rfl,q _ (I.hok.fresh (cg _))⟩
 rcases hq with hq|hq
 .obtain⟨its,r',pl,hz⟩:=I.list hq
  have hlen:=r'.length
  obtain⟨o,ho,hc,n,hd⟩:=pl.isList
  exact call_list_seq p (.inl rfl) ho hc hd (λh' c' kp e=>fin its r' hz h' c' kp e) (by simp only[gG]<;>lia)
 .obtain⟨its,r',pl,hz⟩:=I.tuple hq
  have hlen:=r'.length
  obtain⟨o,ho,hc,n,hd⟩:=pl
  exact call_list_seq p (.inr rfl) ho hc hd (λh' c' kp e=>fin its r' hz h' c' kp e) (by simp only[gG]<;>lia)
theorem YS:ie X (.type "tuple") (λxs H Q=>∃p ys,xs=[.ref p]/\((bR X.K H p ys/\∀l,H l=aj->Q (.ref l) (upd H l (.tup ys)))\/(dj X.K H p ys/\Q (.ref p) H))):=by
 intro pins s σ H xs us Q I r h
 obtain⟨p,ys,rfl,h⟩:=h
 obtain⟨u,rfl,rx⟩:=vals1 r
 cases rx;rcases h with⟨hq,q⟩|⟨hq,q⟩
 .obtain⟨its,r',pl,hz⟩:=I.list hq
  have hlen:=r'.length;refine call_tuple_list pl.isList (λh' kp=>?_) (by simp only[gG]<;>lia);have I1:Inv X pins σ H {s with heap:=h'}:=I.kept (t':=s.toks) kp;have I2:Inv X pins σ (upd H h'.objs.size (.tup ys)) {s with heap:=h'.push {cls:=.type "tuple",data:=.seq its.toArray}}:=
   I1.laid (t':=s.toks) (λb o e=>cW _ e) (cg _) (show fL X.prog X.w _ _ _ (.tup ys) from⟨hz,its,r',IsTup.new _ _⟩)
  exact⟨.ref h'.objs.size,_,I2,rfl,q _ (I1.hok.fresh (cg _))⟩
 .obtain⟨its,r',pl,hz⟩:=I.tuple hq
  exact call_tuple_same pl ⟨.ref p,H,I,rfl,q⟩
def tyV(K:aM)(T:String)(x:V)(H:Hp):Prop:=match x with
 |.str _=>T="str"
 |.int _=>T="int"
 |.ref p=>(T="list"/\∃xs,bR K H p xs)\/(T="tuple"/\∃o,K.lookup p=aa o/\o.cls=.type "tuple"/\o.dict=aj)\/
   (T="dict"/\((∃kvs,H p=aa (.dK kvs))\/∃kvs,H p=aa (.dT kvs)))\/(T="set"/\∃S n,H p=aa (.set S n))
 |_=>False
theorem amE{pins:List (aq×Obj)}{σ:St}{H:Hp}{s:aD}{T:String}{x:V}{v:Value}(I:Inv X pins σ H s)(r:RelV x v)(ty:tyV X.K T x H):
  s.TypeIs v T/\∀a,v=.ref a->∃ob,s.heap.get? a=aa ob/\ob.dict=aj:=by
 cases x with
 |str z=>
  obtain⟨t,rfl⟩:=r
  cases(show T="str" from ty)
  exact⟨ZJ s z t,λ_ e=>nomatch e⟩
 |int i=>
  obtain⟨t,rfl⟩:=r
  cases(show T="int" from ty)
  exact⟨typeIs_int s i t,λ_ e=>nomatch e⟩
 |ref p=>
  cases r;rcases ty with⟨rfl,xs,hq⟩|⟨rfl,o,hk,hc,hd⟩|⟨rfl,hk⟩|⟨rfl,S,n,hk⟩
  .obtain⟨its,_,pl,_⟩:=I.list hq
   refine⟨pl.isList.typeIs,λa e=>?_⟩
   cases e
   obtain⟨o,n,e,c,hd,_⟩:=pl
   exact⟨o,e,hd⟩
  .refine⟨⟨o,I.ji p o hk,hc⟩,λa e=>?_⟩
   cases e
   exact⟨o,I.ji _ o hk,hd⟩
  .have z:∃o,s.heap.get? p=aa o/\o.ExactDict:=by
    rcases hk with⟨kvs,hk⟩|⟨kvs,hk⟩
    .obtain⟨_,_,_,_,o,_,_,e,ex,_⟩:=I.hok p _ hk
     exact⟨o,e,ex⟩
    .obtain⟨_,_,_,_,o,_,_,e,ex,_⟩:=I.hok p _ hk
     exact⟨o,e,ex⟩
   obtain⟨o,e,ex⟩:=z
   refine⟨⟨o,e,ex.1⟩,λa e2=>?_⟩
   cases e2
   exact⟨o,e,ex.2.1⟩
  .obtain⟨o,_,_,_,e,ex,_⟩:=I.hok p _ hk
   refine⟨⟨o,e,ex.1⟩,λa e2=>?_⟩
   cases e2
   exact⟨o,e,ex.2.1⟩
 |_=>exact rR ty
def tBM(K:aM)(T:String)(r:V->List V->Hp->VK->Prop)(to:TE)(t:TA):TE:=λσ H Q=>to σ H λx H1=>tyV K T x H1/\t σ H1 λxs H2=>r x xs H2 Q
variable{o e:Expr}{es:List Expr}{to:TE}{t:TA}{name:Str}{apos cpos:Pos}{T id:String}{r:V->List V->Hp->VK->Prop}
theorem Gh(pa:PlainAttrs T)(slot:Slot T name id)(hty:typeOf (.builtin id)=pure (.type "method_descriptor"))(hm:Dp X id r)(ho:PE X o to)(ha:PA X (e::es) t)
  (hbase:vm o name X.env (eval o X.env)=eval o X.env:=by rfl)
  (hfew:((gH cpos (bJ (e::es) X.env)).all (λx=>!x.1)&&(zq cpos (zf [] X.env)).all (λx=>x.1.isSome)
   &&decide ((e::es).length+([]:List oh).length+(if([]:List oh).isEmpty then 0 else 1)<30))=ao:=by rfl)
  (hline:(apos.endLine==cpos.line)=ao:=by rfl)(hs:bJ (e::es) X.env=(aJ,eval e X.env)::bJ es X.env:=by rfl)(hplain:(gH cpos (bJ es X.env)).any (·.1)=aJ:=by rfl):
  PE X (.Call (.Attribute o name apos) (e::es) [] cpos) (tBM X.K T r to t):=by
 intro pins s σ H Q I h;refine wpAny_Call_method_late hbase hfew hline rfl (bO (ho pins s σ H _ I h) λv s1 aP=>?_)
 obtain⟨x,H1,I1,r1,ty,q1⟩:=aP
 obtain⟨h1,h2⟩:=amE I1 r1 ty
 refine⟨T,id,pa,slot,hty,h1,h2,?_⟩
 have hA:=ha cpos pins s1 σ H1 _ I1 q1;rw[hs] at hA⊢;refine afm (by show(aJ||(gH cpos (bJ es X.env)).any (·.1))=aJ;rw[hplain]<;>rfl) (afz ?_);exact bO hA λus s2 ⟨vs,H2,I2,r2,q2⟩=>hm pins s2 σ H2 x vs v us Q I2 r1 r2 q2
end
def tW(X:Cx)(id:String)(r:V->List V->Hp->VK->Prop):Prop:=
 ∀(pins:List (aq×Obj))(s:aD)(σ:St)(H:Hp)(x:V)(xs:List V)(v:Value)(us:List Value)(Q:VK),Inv X pins σ H s->RelV x v->Vals xs us->r x xs H Q->
  aR (model X.prog X.w) X.A (call (.builtin id) (v::us)) (EP X pins σ Q) X.xe s
theorem Vals.one:∀{x:V}{us:List Value},Vals [x] us->∃u,us=[u]/\RelV x u
 |_,_,.cons r .nil=>⟨_,rfl,r⟩
theorem Vals.two:∀{x y:V}{us:List Value},Vals [x,y] us->∃u v,us=[u,v]/\RelV x u/\RelV y v
 |_,_,_,.cons r (.cons q .nil)=>⟨_,_,rfl,r,q⟩
theorem Vals.eraseIdx:∀{xs:List V}{us:List Value}(i:Nat),Vals xs us->Vals (xs.eraseIdx i) (us.eraseIdx i)
 |_,_,_,.nil=>.nil
 |_,_,0,.cons _ t=>t
 |_,_,i+1,.cons r t=>.cons r (Vals.eraseIdx i t)
theorem Vals.reverse{xs:List V}{us:List Value}(h:Vals xs us):Vals xs.reverse us.reverse:=by
 induction h with
 |nil=>exact .nil
 |cons r t ih=>rw[N6,N6];exact Vals.append ih (.cons r .nil)
theorem aae{α:Type}:∀(l:List α)(i:Nat),(l.eraseIdx i).length<=l.length
 |[],_=>cg _
 |_::_,0=>uw _
 |_::r,i+1=>Oc (aae r i)
section
variable{X:Cx}{pins:List (aq×Obj)}{σ:St}{H:Hp}{s:aD}{l b:aq}{xs ys zs:List V}
theorem Inv.VL{its its':List Value}{n:Nat}{f:Array Value->Array Value}{t':Nat}(I:Inv X pins σ H s)(hH:H l=aa (.lst xs))
  (e:s.heap.get? l=aa {cls:=.type "list",data:=.seq its.toArray n})(hf:f its.toArray=its'.toArray)(hv:Vals ys its')(hz:ys.length<=cu):
  Inv X pins σ (upd H l (.lst ys)) {s with heap:=s.heap.update l (nq f),toks:=t'}:=by
 have q:=PySem.IsL.update e f;rw[hf] at q;refine I.write (x:=l) (e:=l) (by rw[hH];exact trivial) (.inl rfl) (λb' u hb hu=>(um s.heap (nq f) (lg hb)).trans hu) ⟨_,q⟩ ?_
 exact⟨hz,its',_,hv,q⟩
theorem Inv.ao2{its:List Value}{t':Nat}(I:Inv X pins σ H s)(hv:Vals ys its)(hz:ys.length<=cu):
  Inv X pins σ (upd H s.heap.objs.size (.lst ys)) {s with heap:=s.heap.push {cls:=.type "list",data:=.seq its.toArray},toks:=t'}:=
 I.laid (λ_ _ q=>cW _ q) (cg _) ⟨hz,its,0,hv,iH _ rfl⟩
theorem Inv.fresh(I:Inv X pins σ H s):H s.heap.objs.size=aj:=I.hok.fresh (cg _)
theorem Inv.Dg(I:Inv X pins σ H s)(hH:H l=aa (.lst xs)):xs.length<=cu/\∃(its:List Value)(n:Nat),Vals xs its/\xs.length=its.length/\s.heap.get? l=aa {cls:=.type "list",data:=.seq its.toArray n}:=by
 obtain⟨z,its,n,r,e⟩:=I.hok l _ hH
 exact⟨z,its,n,r,r.length,e⟩
theorem ajx{n:Nat}(h:n<=cu):Xb n=aJ:=by
 unfold Xb;exact gM (by lia)
end
section
variable{X:Cx}
def akU:V->List V->Hp->VK->Prop:=λx vs H Q=>∃l xs y,x=.ref l/\vs=[y]/\H l=aa (.lst xs)/\xs.length<cu/\Q .non (upd H l (.lst (xs++[y])))
theorem QX:tW X "list.append" akU:=by
 intro pins s σ H x vs v us Q I rx rv h
 obtain⟨l,xs,y,rfl,rfl,hH,hz,q⟩:=h
 cases rx
 obtain⟨u,rfl,ru⟩:=rv.one
 obtain⟨z,its,n,r,hl,e⟩:=I.Dg hH
 refine ZK Xv ⟨_,e,rfl⟩ F.entry_list_append (F.args_list_append_2 _ _) (PySem.list_append l its.toArray n u (by rw[gG];lia)) ⟨e,?_⟩
 refine⟨.non,_,I.VL (its':=its++[u]) hH e (by simp) (r.append (.cons ru .nil)) ?_,rfl,q⟩
 rw[gb,List.length_singleton];lia
def akV:V->List V->Hp->VK->Prop:=λx vs H Q=>∃l b xs zs,x=.ref l/\vs=[.ref b]/\H l=aa (.lst xs)/\H b=aa (.lst zs)/\xs.length+zs.length<=cu/\Q .non (upd H l (.lst (xs++zs)))
theorem aiA:tW X "list.extend" akV:=by
 intro pins s σ H x vs v us Q I rx rv h
 obtain⟨l,b,xs,zs,rfl,rfl,hH,hB,hz,q⟩:=h
 cases rx
 obtain⟨u,rfl,ru⟩:=rv.one
 cases ru
 obtain⟨z,its,n,r,hl,e⟩:=I.Dg hH
 obtain⟨z2,its2,n2,r2,hl2,e2⟩:=I.Dg hB
 have hsz:its.toArray.size+its2.toArray.size<=cu:=by rw[gG,gG];lia
 have an3:¬(!its.toArray.isEmpty&&Xb (its.toArray.size+its2.toArray.size))=ao:=by
  rw[ajx hsz,Bool.and_false];exact iI
 refine ZK afP ⟨_,e,rfl⟩ F.entry_list_extend (F.args_list_extend_2 _ _)
  (AutoSeq1.list_extend_list_list_0 l its.toArray n b its2.toArray n2 an3 (by rw[gG];lia) (by lia)) ⟨e,e2,?_⟩
 refine⟨.non,_,I.VL (its':=its++its2) hH e (by simp) (r.append r2) ?_,rfl,q⟩
 rw[gb];lia
def amF:V->List V->Hp->VK->Prop:=λx vs H Q=>∃l xs i k y,x=.ref l/\vs=[.int i]/\H l=aa (.lst xs)/\-(2^63)<=i/\i<2^63/\QW i xs.length=aa k/\xs[k]?=aa y/\Q y (upd H l (.lst (xs.eraseIdx k)))
theorem ajy:tW X "list.pop" amF:=by
 intro pins s σ H x vs v us Q I rx rv h
 obtain⟨l,xs,i,k,y,rfl,rfl,hH,h1,h2,hk,hy,q⟩:=h
 cases rx
 obtain⟨u,rfl,ru⟩:=rv.one
 obtain⟨t,rfl⟩:=ru
 obtain⟨z,its,n,r,hl,e⟩:=I.Dg hH
 obtain⟨w,hw,rw'⟩:=r.get hy
 refine ZK ags ⟨_,e,rfl⟩ F.entry_list_pop (F.args_list_pop_2 _ _)
  (MeetsSeq.list_pop_at l its.toArray n i t k w (fitsIndex_both h1 h2) (by rw[gG,<-hl];exact hk) (by rw[<-Ak];exact hw) (by rw[gG];lia)) ⟨e,?_⟩
 refine⟨y,_,I.VL (its':=its.eraseIdx k) hH e ?_ (r.eraseIdx k) ?_,rw',q⟩
 .show its.toArray.eraseIdxIfInBounds k=(its.eraseIdx k).toArray;rw[List.eraseIdxIfInBounds_toArray]
 .have:=aae xs k;lia
def adV:R2:=λx y H Q=>∃l b xs zs,x=.ref l/\y=.ref b/\H l=aa (.lst xs)/\H b=aa (.lst zs)/\xs.length+zs.length<=cu/\∀p,H p=aj->Q (.ref p) (upd H p (.lst (xs++zs)))
theorem amG:dm X (qj .Add) adV:=by
 intro pins s σ H x y v u Q I rx ry h
 obtain⟨l,b,xs,zs,rfl,rfl,hH,hB,hz,q⟩:=h
 cases rx;cases ry
 obtain⟨z,its,n,r,hl,e⟩:=I.Dg hH
 obtain⟨z2,its2,n2,r2,hl2,e2⟩:=I.Dg hB
 refine PySem.P.add_list e e2 ?_ (by rw[gG,gG];lia);have ea:its.toArray++its2.toArray=(its++its2).toArray:=by simp
 rw[ea]
 exact⟨.ref _,_,I.ao2 (t':=s.toks) (r.append r2) (by rw[gb];lia),rfl,q _ I.fresh⟩
end
section
variable{prog:bL}{w:bI}{A:cM}{E:Value->aD->Prop}{s:aD}
set_option maxRecDepth 100000 in
end
section
variable{X:Cx}
end
section
variable{κ:Type}[DecidableEq κ]
def oA(kvs:List (κ×V))(k:κ):Option V:=(kvs.find? λkv=>decide (kv.1=k)).map (·.2)
def putK(kvs:List (κ×V))(k:κ)(v:V):List (κ×V):=
 if(kvs.any λkv=>decide (kv.1=k))=ao then kvs.map (λkv=>if kv.1=k then(kv.1,v) else kv) else kvs++[(k,v)]
def adn(kvs:List (κ×V))(k:κ):List (κ×V):=kvs.filter λkv=>decide (kv.1≠k)
theorem J3{p:κ×V}{r:List (κ×V)}{k:κ}(e:p.1=k):oA (p::r) k=aa p.2:=by simp[oA,pK,e]
theorem J4{p:κ×V}{r:List (κ×V)}{k:κ}(e:¬p.1=k):oA (p::r) k=oA r k:=by simp[oA,pK,e]
theorem aaL(k:κ):∀kvs:List (κ×V),(kvs.any λkv=>decide (kv.1=k))=(oA kvs k).isSome
 |[]=>rfl
 |p::r=>by
  rw[IW];by_cases e:p.1=k
  .simp only[J3 e,gk e,Bool.true_or,Dz]
  .rw[J4 e,gM e,Bool.false_or];exact aaL k r
theorem Jp(kvs:List (κ×V))(k:κ)(v:V):(putK kvs k v).length<=kvs.length+1:=by
 unfold putK;split
 .rw[bw];lia
 .rw[gb,cZ,Ax];lia
theorem qC.Eo{o:Option V}{u:Option Value}(r:qC o u):o.isSome=u.isSome:=by
 cases o with
 |none=>cases u with
  |none=>rfl
  |some _=>exact(show False from r).elim
 |some _=>cases u with
  |none=>exact(show False from r).elim
  |some _=>rfl
theorem qC.getD{o:Option V}{u:Option Value}{d:V}{d':Value}(r:qC o u)(rd:RelV d d'):RelV (o.getD d) (u.getD d'):=by
 cases o with
 |none=>cases u with
  |none=>exact rd
  |some _=>exact(show False from r).elim
 |some _=>cases u with
  |none=>exact(show False from r).elim
  |some _=>exact r
theorem KV.val{kvs:List (κ×V)}{vs:List (κ×Value)}(r:KV kvs vs)(k:κ):qC (oA kvs k) (BK vs k):=by
 unfold KV at r;induction r with
 |nil=>exact nj
 |@cons p q ps qs h t ih=>
  obtain⟨h1,h2⟩:=h
  by_cases e:p.1=k
  .have e':q.1=k:=h1.symm.trans e;have b:BK (q::qs) k=aa q.2:=by simp[BK,pK,e']
   rw[J3 e,b];exact h2
  .have e':¬q.1=k:=λz=>e (h1.trans z)
   have b:BK (q::qs) k=BK qs k:=by simp[BK,pK,e']
   rw[J4 e,b];exact ih
theorem KV.any{kvs:List (κ×V)}{vs:List (κ×Value)}(r:KV kvs vs)(k:κ):(kvs.any λkv=>decide (kv.1=k))=vs.any λkv=>decide (kv.1=k):=by
 unfold KV at r;induction r with
 |nil=>rfl
 |cons h t ih=>rw[IW,IW,ih,h.1]
theorem KV.repl{kvs:List (κ×V)}{vs:List (κ×Value)}(r:KV kvs vs)(k:κ){y:V}{u:Value}(ry:RelV y u):
  KV (kvs.map λkv=>if kv.1=k then(kv.1,y) else kv) (vs.map λkv=>if kv.1=k then(kv.1,u) else kv):=by
 unfold KV at r⊢;induction r with
 |nil=>exact .nil
 |@cons p q ps qs h t ih=>
  rw[cJ,cJ];refine .cons ?_ ih
  obtain⟨h1,h2⟩:=h
  by_cases e:p.1=k
  .rw[bz e,bz (h1.symm.trans e)];exact⟨h1,ry⟩
  .rw[bH e,bH (λz=>e (h1.trans z))];exact⟨h1,h2⟩
theorem KV.put{kvs:List (κ×V)}{vs:List (κ×Value)}(r:KV kvs vs)(k:κ){y:V}{u:Value}(ry:RelV y u):KV (putK kvs k y) (stored vs k u):=by
 unfold putK stored;rw[r.any k];by_cases e:(vs.any λkv=>decide (kv.1=k))=ao
 .rw[bz e,bz e];exact r.repl k ry
 .rw[bH e,bH e];exact Paired.snoc r ⟨rfl,ry⟩
theorem KV.drop{kvs:List (κ×V)}{vs:List (κ×Value)}(r:KV kvs vs)(k:κ):KV (adn kvs k) (without vs k):=by
 unfold KV at r⊢;unfold adn without;induction r with
 |nil=>exact .nil
 |@cons p q ps qs h t ih=>
  obtain⟨h1,h2⟩:=h
  rw[Od,Od];by_cases e:p.1=k
  .have a:¬decide (p.1≠k)=ao:=by simp[e]
   have b:¬decide (q.1≠k)=ao:=by simp[h1.symm.trans e]
   rw[bH a,bH b];exact ih
  .have e':¬q.1=k:=λz=>e (h1.trans z)
   have a:decide (p.1≠k)=ao:=by simp[e]
   have b:decide (q.1≠k)=ao:=by simp[e']
   rw[bz a,bz b];exact .cons ⟨h1,h2⟩ ih
theorem KV.length{kvs:List (κ×V)}{vs:List (κ×Value)}(r:KV kvs vs):kvs.length=vs.length:=Paired.length r
end
theorem xT{P:bL}{w:bI}{k:Key}{u:Value}(r:RelV (kV k) u):(jy P w).is k u=ao:=by
 cases k with
 |inl i=>obtain⟨t,e⟩:=(show ∃t,u=JL i t from r);subst e;exact ahs P w i t
 |inr x=>obtain⟨t,e⟩:=(show ∃t,u=JM x t from r);subst e;exact aht P w x t
theorem amH{a b:Key}(e:kV a=kV b):a=b:=by
 cases a with
 |inl i=>cases b with
  |inl j=>have e':V.int i=V.int j:=e;injection e' with e';rw[e']
  |inr y=>exact nomatch(show V.int i=V.str y from e)
 |inr x=>cases b with
  |inl j=>exact nomatch(show V.str x=V.int j from e)
  |inr y=>have e':V.str x=V.str y:=e;injection e' with e';rw[e']
theorem abH:∀{a b:List Key},a.map kV=b.map kV->a=b
 |[],[],_=>rfl
 |[],_::_,e=>by simp at e
 |_::_,[],e=>by simp at e
 |x::xs,y::ys,e=>by
  rw[cJ,cJ] at e;injection e with e1 e2
  rw[amH e1,abH e2]
theorem aaf{P:bL}{w:bI}:∀{ks:List Key}{us:List Value},Vals (ks.map kV) us->ItemsAre (jy P w) ks us
 |[],_,r=>by rw[mW] at r;cases r;exact .nil
 |k::ks,_,r=>by
  rw[cJ] at r;cases r with
  |cons h t=>exact .cons (xT h) (aaf t)
abbrev KT(H:Hp):List (List Key×V)->List (List Key×aq×Value)->Prop:=Paired λp q=>p.1=q.1/\H q.2.1=aa (.tup (p.1.map kV))/\RelV p.2 q.2.2
theorem KT.val{H:Hp}{kvs:List (List Key×V)}{xs:List (List Key×aq×Value)}(r:KT H kvs xs)(k:List Key):qC (oA kvs k) ((xU xs k).map (·.2)):=by
 induction r with
 |nil=>exact nj
 |@cons p q ps qs h t ih=>
  obtain⟨h1,_,h2⟩:=h
  by_cases e:p.1=k
  .have e':q.1=k:=h1.symm.trans e;have b:xU (q::qs) k=aa q.2:=by simp[xU,pK,e']
   rw[J3 e,b];exact h2
  .have e':¬q.1=k:=λz=>e (h1.trans z)
   have b:xU (q::qs) k=xU qs k:=by simp[xU,pK,e']
   rw[J4 e,b];exact ih
theorem KT.repl{H:Hp}{kvs:List (List Key×V)}{xs:List (List Key×aq×Value)}(r:KT H kvs xs)(k:List Key){y:V}{u:Value}(ry:RelV y u):
  KT H (kvs.map λkv=>if kv.1=k then(kv.1,y) else kv) (xs.map (putAt k u)):=by
 induction r with
 |nil=>exact .nil
 |@cons p q ps qs h t ih=>
  rw[cJ,cJ];refine .cons ?_ ih
  obtain⟨h1,h2,h3⟩:=h
  unfold putAt;by_cases e:p.1=k
  .rw[bz e,bz (h1.symm.trans e)];exact⟨h1,h2,ry⟩
  .rw[bH e,bH (λz=>e (h1.trans z))];exact⟨h1,h2,h3⟩
theorem KT.put{H:Hp}{kvs:List (List Key×V)}{xs:List (List Key×aq×Value)}(r:KT H kvs xs)(k:List Key){b:aq}{y:V}{u:Value}(hb:H b=aa (.tup (k.map kV)))(ry:RelV y u):
  KT H (putK kvs k y) (storedH xs k b u):=by
 have e:(kvs.any λkv=>decide (kv.1=k))=(xU xs k).isSome:=by
  rw[aaL,(r.val k).Eo,Am]
 unfold putK storedH;rw[e];by_cases q:(xU xs k).isSome=ao
 .rw[bz q,bz q];exact r.repl k ry
 .rw[bH q,bH q];exact Paired.snoc r ⟨rfl,hb,ry⟩
theorem KT.keeps{H H':Hp}{kvs:List (List Key×V)}{xs:List (List Key×aq×Value)}(r:KT H kvs xs)(ht:∀b ys,H b=aa (.tup ys)->H' b=aa (.tup ys)):KT H' kvs xs:=
 Paired.Vy r λ_ _ z=>⟨z.1,ht _ _ z.2.1,z.2.2⟩
section
variable{P:bL}{w:bI}{H:Hp}{h:bC}{a:aq}
theorem ado{u:HO}(ok:iU P w H h)(e:Rd H a u):fL P w H h a u:=e.ok ok
theorem xV{kvs:List (Key×V)}(ok:iU P w H h)(e:Rd H a (.dK kvs)):kvs.length<=cu/\(a==qR)=aJ/\∃vs,KV kvs vs/\h.DictOf (jy P w) a vs:=
 show fL P w H h a (.dK kvs) from ado ok e
theorem Lp{kvs:List (Key×V)}(ok:iU P w H h)(e:H a=aa (.dK kvs)):kvs.length<=cu/\(a==qR)=aJ/\∃vs,KV kvs vs/\h.DictOf (jy P w) a vs:=xV ok (.inl e)
theorem Cg{ks:List Key}(ok:iU P w H h)(e:H a=aa (.tup (ks.map kV))):(Em (jy P w)).is h ks a:=by
 obtain⟨_,its,r,o,h1,h2,n,h3⟩:=(show fL P w H h a (.tup (ks.map kV)) from ok a _ e)
 exact⟨o,its.toArray,n,h1,h2,h3,by simpa using aaf r⟩
theorem zO{kvs:List (List Key×V)}(ok:iU P w H h)(e:Rd H a (.dT kvs)):kvs.length<=cu/\(a==qR)=aJ/\
  ∃xs,KT H kvs xs/\h.DictOfH (Em (jy P w)) a xs:=by
 obtain⟨z,y,xs,r,o,es,ep,h1,h2,h3,h4,h5⟩:=(show fL P w H h a (.dT kvs) from ado ok e)
 refine⟨z,y,xs,r,o,es,ep,h1,h2,h3,h4,λx hx=>?_,h5⟩
 have all:∀{l:List (List Key×V)}{m:List (List Key×aq×Value)},KT H l m->∀x∈m,(Em (jy P w)).is h x.1 x.2.1:=by
  intro l m q;induction q with
  |nil=>intro x hx;exact nomatch hx
  |@cons p q ps qs hq t ih=>
   intro x hx;rcases cB.mp hx with e|hx
   .subst e;exact Cg ok (by rw[<-hq.1];exact hq.2.1)
   .exact ih x hx
 exact all r x hx
theorem adp{kvs:List (List Key×V)}(ok:iU P w H h)(e:H a=aa (.dT kvs)):kvs.length<=cu/\(a==qR)=aJ/\
  ∃xs,KT H kvs xs/\h.DictOfH (Em (jy P w)) a xs:=zO ok (.inl e)
end
def nP(H:Hp)(a:aq)(y:V)(r:Option V):Prop:=
 (∃kvs k,Rd H a (.dK kvs)/\y=kV k/\r=oA kvs k)\/∃kvs k b,Rd H a (.dT kvs)/\y=.ref b/\H b=aa (.tup (k.map kV))/\r=oA kvs k
def tL(H:Hp)(a:aq)(y v:V)(H':Hp):Prop:=
 (∃kvs k,H a=aa (.dK kvs)/\y=kV k/\kvs.length<cu/\H'=upd H a (.dK (putK kvs k v)))\/
 ∃kvs k b,H a=aa (.dT kvs)/\y=.ref b/\H b=aa (.tup (k.map kV))/\kvs.length<cu/\H'=upd H a (.dT (putK kvs k v))
theorem nP.k{H:Hp}{a:aq}{kvs:List (Key×V)}{k:Key}(e:H a=aa (.dK kvs)):nP H a (kV k) (oA kvs k):=.inl ⟨kvs,k,.inl e,rfl,rfl⟩
theorem nP.t{H:Hp}{a b:aq}{kvs:List (List Key×V)}{k:List Key}(e:H a=aa (.dT kvs))(eb:H b=aa (.tup (k.map kV))):nP H a (.ref b) (oA kvs k):=.inr ⟨kvs,k,b,.inl e,rfl,eb,rfl⟩
theorem tL.k{H:Hp}{a:aq}{kvs:List (Key×V)}{k:Key}{v:V}(e:H a=aa (.dK kvs))(hl:kvs.length<cu):tL H a (kV k) v (upd H a (.dK (putK kvs k v))):=.inl ⟨kvs,k,e,rfl,hl,rfl⟩
theorem tL.t{H:Hp}{a b:aq}{kvs:List (List Key×V)}{k:List Key}{v:V}(e:H a=aa (.dT kvs))(eb:H b=aa (.tup (k.map kV)))(hl:kvs.length<cu):
  tL H a (.ref b) v (upd H a (.dT (putK kvs k v))):=.inr ⟨kvs,k,b,e,rfl,eb,hl,rfl⟩
section
variable{X:Cx}{pins:List (aq×Obj)}{σ:St}{H:Hp}{s:aD}{a:aq}{y v:V}{u r:Value}{o:Option V}{A:cM}{E:Value->aD->Prop}
theorem Inv.big(I:Inv X pins σ H s):qR<s.heap.objs.size:=by
 have h:iM<s.heap.objs.size:=(I.mod.glob.keeps I.bk).lt;exact Jg (by decide) h
theorem aiB{Q:Value->aD->Prop}(hu:A.units+1<gj)(I:Inv X pins σ H s)(g:nP H a y (aa v))(ry:RelV y u)(h:∀w' s',Inv X pins σ H s'->RelV v w'->Q w' s'):
  aR (model X.prog X.w) A (xH (.ref a) u) Q E s:=by
 rcases g with⟨kvs,k,e,ey,l⟩|⟨kvs,k,b,e,ey,eb,l⟩
 .subst ey
  obtain⟨z,hd,vs,rel,dd⟩:=xV I.hok e
  obtain⟨w',hw,rw'⟩:=qC.some_of (v:=v) (o:=BK vs k) (by rw[l];exact rel.val k)
  exact wpAny_getItem_of (xT ry) dd.mapOf hw (h w' _ (I.tok _) rw')
 .subst ey
  cases(show u=dH b from ry)
  obtain⟨z,hd,xs,rel,dd⟩:=zO I.hok e
  obtain⟨w',hw,rw'⟩:=qC.some_of (v:=v) (o:=(xU xs k).map (·.2)) (by rw[l];exact rel.val k)
  obtain⟨p,hp,hp2⟩:=Ai.mp hw
  refine wpAny_getItem_heap (Ia hu) (Cg I.hok eb) dd hp ?_;rw[hp2];exact h w' _ (I.tok _) rw'
theorem adW{Q:Value->aD->Prop}(hu:A.units+1<gj)(I:Inv X pins σ H s)(g:nP H a y o)(ry:RelV y u)(h:∀s',Inv X pins σ H s'->Q (.bool o.isSome) s'):
  aR (model X.prog X.w) A (fU .In u (.ref a)) Q E s:=by
 rcases g with⟨kvs,k,e,ey,l⟩|⟨kvs,k,b,e,ey,eb,l⟩
 .subst ey
  obtain⟨z,hd,vs,rel,dd⟩:=xV I.hok e
  refine wpAny_in_of (xT ry) hd dd.mapOf ?_;rw[<-(rel.val k).Eo,<-l];exact h _ (I.tok _)
 .subst ey
  cases(show u=dH b from ry)
  obtain⟨z,hd,xs,rel,dd⟩:=zO I.hok e
  refine wpAny_in_heap (Ia hu) (Cg I.hok eb) hd dd ?_;have q:=(rel.val k).Eo;rw[Am] at q;rw[<-q,<-l];exact h _ (I.tok _)
theorem abI{Q:Value->aD->Prop}(hu:A.units+1<gj)(I:Inv X pins σ H s)(g:nP H a y o)(ry:RelV y u)(h:∀s',Inv X pins σ H s'->Q (.bool (!o.isSome)) s'):
  aR (model X.prog X.w) A (fU .NotIn u (.ref a)) Q E s:=by
 rcases g with⟨kvs,k,e,ey,l⟩|⟨kvs,k,b,e,ey,eb,l⟩
 .subst ey
  obtain⟨z,hd,vs,rel,dd⟩:=xV I.hok e
  refine wpAny_notIn_of (xT ry) hd dd.mapOf ?_;rw[<-(rel.val k).Eo,<-l];exact h _ (I.tok _)
 .subst ey
  cases(show u=dH b from ry)
  obtain⟨z,hd,xs,rel,dd⟩:=zO I.hok e
  refine wpAny_notIn_heap (Ia hu) (Cg I.hok eb) hd dd ?_;have q:=(rel.val k).Eo;rw[Am] at q;rw[<-q,<-l];exact h _ (I.tok _)
theorem zx{h':bC}{t':Nat}{ob:HO}(I:Inv X pins σ H s)(mu:GX (H a))(hs:zb a s.heap h')(he:∃q,h'.get? a=aa q)(new:fL X.prog X.w (upd H a ob) h' a ob):
  Inv X pins σ (upd H a ob) {s with heap:=h',toks:=t'}:=
 I.write (x:=a) (e:=a) mu (.inl rfl) (λb q hb z=>(hs.2 b hb).trans z) he new
theorem K8{P:bL}{w:bI}{H':Hp}{h':bC}{kvs:List (Key×V)}{vs:List (Key×Value)}(z:kvs.length<=cu)(hd:(a==qR)=aJ)(rel:KV kvs vs)(dd:h'.DictOf (jy P w) a vs):
  fL P w H' h' a (.dK kvs):=⟨z,hd,vs,rel,dd⟩
theorem aag{H':Hp}{Q:Unit->aD->Prop}(hu:A.units+1<gj)(I:Inv X pins σ H s)(g:tL H a y v H')(ry:RelV y u)(rv:RelV v r)(h:∀s',Inv X pins σ H' s'->Q () s'):
  aR (model X.prog X.w) A (setItem (.ref a) u r) Q E s:=by
 rcases g with⟨kvs,k,e,ey,l,eH⟩|⟨kvs,k,b,e,ey,eb,l,eH⟩
 .subst ey eH
  obtain⟨z,hd,vs,rel,dd⟩:=Lp I.hok e
  have hz:vs.length<=cu:=by rw[<-rel.length];exact z
  have hl:(putK kvs k v).length<=cu:=by have:=Jp kvs k v;lia
  refine wpAny_setItem_pairs (hsz:=hz) (xT ry) dd λh' uY hs=>h _ ?_
  have he:∃q,h'.get? a=aa q:=let ⟨q,_,_,hq,_⟩:=uY;⟨q,hq⟩
  exact zx I (by rw[e];exact nj) hs he (K8 hl hd (rel.put k rv) uY)
 .subst ey eH
  cases(show u=dH b from ry)
  obtain⟨z,hd,xs,rel,dd⟩:=adp I.hok e
  have hz:xs.length<=cu:=by rw[<-Paired.length rel];exact z
  have hl:(putK kvs k v).length<=cu:=by have:=Jp kvs k v;lia
  refine wpAny_setItem_heap (hsz:=hz) (Ia hu) (Cg I.hok eb) dd λh' uY hs=>h _ ?_
  obtain⟨q,es,ep,hq,h2,h3,h4,_,h5⟩:=uY
  refine zx I (by rw[e];exact nj) hs ⟨q,hq⟩ ⟨hl,hd,_,(rel.put k eb rv).keeps λc ys ec=>?_,q,es,ep,hq,h2,h3,h4,h5⟩;rw[cV (Va ec e (λz=>nomatch z))];exact ec
end
section
variable{X:Cx}{pins:List (aq×Obj)}{σ:St}{H:Hp}{s:aD}{a:aq}{kvs:List (Key×V)}{k:Key}{u:Value}{A:cM}{E:Value->aD->Prop}
theorem an4{Q:Value->aD->Prop}(I:Inv X pins σ H s)(e:Rd H a (.dK kvs))(h:∀t s',Inv X pins σ H s'->Q (.int kvs.length t) s'):aR (model X.prog X.w) A (call (.builtin "len") [.ref a]) Q E s:=by
 obtain⟨z,hd,vs,rel,dd⟩:=xV I.hok e
 refine call_len_dict hd dd (by rw[<-rel.length];rw[iK] at z;lia) ?_;rw[<-rel.length];exact h _ _ (I.tok _)
end
theorem ahu{X:Cx}{pins:List (aq×Obj)}{σ:St}{H:Hp}{s:aD}{a:aq}{y:V}{o:Option V}(I:Inv X pins σ H s)(g:nP H a y o):s.TypeIs (.ref a) "dict":=by
 rcases g with⟨kvs,k,e,_,_⟩|⟨kvs,k,b,e,_,_,_⟩
 .obtain⟨_,_,vs,_,dd⟩:=xV I.hok e
  exact dd.typeIs
 .obtain⟨_,_,xs,_,dd⟩:=zO I.hok e
  exact dd.typeIs
section
variable{X:Cx}{o i e value:Expr}{pos pos' tpos:Pos}{td ty tv:TE}
end
theorem Rm{P:bL}{w:bI}{H:Hp}(h:bC)(hb:qR<h.objs.size):fL P w H (h.push {cls:=.type "dict",data:=.dict #[]}) h.objs.size (.dK []):=
 ⟨m9 _,beq_eq_false_iff_ne.mpr (lg (eO hb)),[],.nil,Heap.DictOf.new h⟩
def amI:TE:=λ_ H Q=>∀p,H p=aj->Q (.ref p) (upd H p (.dK []))
section
variable{X:Cx}{pos:Pos}
theorem ajz:PE X (.Dict [] [] pos) amI:=λpins s σ H Q I h=>
 wpAny_Dict_empty ⟨.ref s.heap.objs.size,_,I.laid (a:=s.heap.objs.size) (o:=.dK []) (t':=s.toks) (λ_ _ q=>cW _ q) (cg _) (Rm s.heap I.big),rfl,h _ (I.hok.fresh (cg _))⟩
end
def Uq:List (TE×TE)->St->Hp->(List (V×V)->Hp->Prop)->Prop
 |[],_,H,Q=>Q [] H
 |(tk,tv)::r,σ,H,Q=>tk σ H λx H1=>tv σ H1 λy H2=>Uq r σ H2 λps H3=>Q ((x,y)::ps) H3
abbrev VV:List (V×V)->List (Value×Value)->Prop:=Paired λp q=>RelV p.1 q.1/\RelV p.2 q.2
def MJ(X:Cx)(pos:Pos)(keys:List (Option Expr))(values:List Expr)(wg:List (TE×TE)):Prop:=
 ∀(pins:List (aq×Obj))(s:aD)(σ:St)(H:Hp)(Q:List (V×V)->Hp->Prop),Inv X pins σ H s->Uq wg σ H Q->
  aR (model X.prog X.w) X.A (evalPairs (pairTrees keys values X.env pos)) (λvs s'=>∃ps H',Inv X pins σ H' s'/\VV ps vs/\Q ps H') X.xe s
theorem akW{X:Cx}{pos:Pos}:MJ X pos [] [] []:=λpins s σ H Q I h=>pairTrees_nil_walk ⟨[],H,I,.nil,h⟩
theorem ajA{X:Cx}{pos:Pos}{k v:Expr}{ks:List (Option Expr)}{vs:List Expr}{tk tv:TE}{wg:List (TE×TE)}(hk:PE X k tk)(hv:PE X v tv)(hr:MJ X pos ks vs wg):
  MJ X pos (aa k::ks) (v::vs) ((tk,tv)::wg):=λpins s σ H Q I h=>
 pairTrees_cons_walk (bO (hk pins s σ H _ I h) λu s1 ⟨x,H1,I1,rx,q1⟩=>bO (hv pins s1 σ H1 _ I1 q1) λw2 s2 ⟨y,H2,I2,ry,q2⟩=>
  bO (hr pins s2 σ H2 _ I2 q2) λws s3 ⟨ps,H3,I3,rel,q3⟩=>⟨(x,y)::ps,H3,I3,.cons ⟨rx,ry⟩ rel,q3⟩)
def Fw(kvs more:List (Key×V)):List (Key×V):=more.foldl (λacc kv=>putK acc kv.1 kv.2) kvs
theorem KV.merge:∀{more:List (Key×V)}{rs:List (Key×Value)}{kvs:List (Key×V)}{vs:List (Key×Value)},KV more rs->KV kvs vs->KV (Fw kvs more) (merged vs rs):=by
 intro more rs kvs vs r;unfold KV at r;induction r generalizing kvs vs with
 |nil=>intro q;exact q
 |@cons p q ps qs h t ih=>
  intro r0;have e:KV (putK kvs p.1 p.2) (stored vs q.1 q.2):=by
   have:=r0.put p.1 h.2;rw[<-h.1];exact this
  exact ih e
theorem YT:∀(more kvs:List (Key×V)),(Fw kvs more).length<=kvs.length+more.length
 |[],kvs=>by show kvs.length<=kvs.length+0;lia
 |p::r,kvs=>by
  have h1:=YT r (putK kvs p.1 p.2);have h2:=Jp kvs p.1 p.2
  show(Fw (putK kvs p.1 p.2) r).length<=_
  rw[cZ];lia
theorem ZL{P:bL}{w:bI}:∀{kvs:List (Key×V)}{ws:List (Value×Value)},VV (kvs.map λkv=>(kV kv.1,kv.2)) ws->∃rs,Carries (jy P w) ws rs/\KV kvs rs
 |[],_,r=>by rw[mW] at r;cases r;exact⟨[],nj,.nil⟩
 |p::kvs,_,r=>by
  rw[cJ] at r;cases r with
  |@cons a b as bs h t=>
   obtain⟨rs,c,q⟩:=ZL (P:=P) (w:=w) t
   obtain⟨b1,b2⟩:=b
   exact⟨(p.1,b2)::rs,⟨xT h.1,rfl,c⟩,.cons ⟨rfl,h.2⟩ q⟩
def an5(wg:List (TE×TE)):TE:=λσ H Q=>∀p,H p=aj->Uq wg σ (upd H p (.dK [])) λps H2=>H2 p=aa (.dK [])/\∃kvs:List (Key×V),ps=kvs.map (λkv=>(kV kv.1,kv.2))/\kvs.length<=15/\Q (.ref p) (upd H2 p (.dK (Fw [] kvs)))
theorem akX{X:Cx}{pos:Pos}{keys:List (Option Expr)}{values:List Expr}{wg:List (TE×TE)}(h:MJ X pos keys values wg)(hall:keys.all (·.isSome)=ao)(hl:keys.length=values.length)(h0:keys≠[])
  (h15:keys.length<=15):PE X (.Dict keys values pos) (an5 wg):=by
 intro pins s σ H Q I q;have hn:=I.hok.fresh (cg s.heap.objs.size);have I1:=I.laid (a:=s.heap.objs.size) (o:=.dK []) (h':=s.heap.push {cls:=.type "dict",data:=.dict #[]}) (t':=s.toks) (λ_ _ q=>cW _ q) (cg _) (Rm s.heap I.big);refine wpAny_Dict_walk (knd:=jy X.prog X.w) hall hl h0 h15 (bO (h pins _ σ _ _ I1 (q _ hn)) λws s2 aP=>?_)
 obtain⟨ps,H2,I2,rel,e,kvs,ep,lk,q2⟩:=aP
 subst ep
 obtain⟨rs,c,rk⟩:=ZL (P:=X.prog) (w:=X.w) rel
 obtain⟨z,hd,Dq,r0,dd⟩:=Lp I2.hok e
 cases r0
 refine⟨rs,c,dd,λh' uY hs=>⟨.ref s.heap.objs.size,_,?_,rfl,q2⟩⟩
 have hz:(Fw [] kvs).length<=cu:=by
  have h1:=YT kvs [];rw[Ax] at h1;rw[iK];lia
 have he:∃q,h'.get? s.heap.objs.size=aa q:=let ⟨q,_,_,hq,_⟩:=uY;⟨q,hq⟩
 exact zx I2 (by rw[e];exact nj) hs he (K8 hz hd (rk.merge .nil) uY)
structure M1(X:Cx)(o:Expr)(m:Str)(apos:Pos)(e:Expr)(cpos:Pos):Prop where
 base:vm o m X.env (eval o X.env)=eval o X.env
 few:((gH cpos (bJ [e] X.env)).all (λx=>!x.1)&&(zq cpos (zf [] X.env)).all (λx=>x.1.isSome)
  &&decide (([e]:List Expr).length+([]:List oh).length+(if([]:List oh).isEmpty then 0 else 1)<30))=ao
 line:(apos.endLine==cpos.line)=ao
 trees:gH cpos (bJ [e] X.env)=[(aJ,eval e X.env)]
structure M2(X:Cx)(o:Expr)(m:Str)(apos:Pos)(e f:Expr)(cpos:Pos):Prop where
 base:vm o m X.env (eval o X.env)=eval o X.env
 few:((gH cpos (bJ [e,f] X.env)).all (λx=>!x.1)&&(zq cpos (zf [] X.env)).all (λx=>x.1.isSome)
  &&decide (([e,f]:List Expr).length+([]:List oh).length+(if([]:List oh).isEmpty then 0 else 1)<30))=ao
 line:(apos.endLine==cpos.line)=ao
 trees:gH cpos (bJ [e,f] X.env)=[(aJ,eval e X.env),(aJ,eval f X.env)]
def IsD(H:Hp)(a:aq):Prop:=(∃kvs,Rd H a (.dK kvs))\/∃kvs,Rd H a (.dT kvs)
theorem amJ{X:Cx}{pins:List (aq×Obj)}{σ:St}{H:Hp}{s:aD}{a:aq}(I:Inv X pins σ H s)(d:IsD H a):
  s.TypeIs (.ref a) "dict"/\(∀b,dH a=.ref b->∃ob,s.heap.get? b=aa ob/\ob.dict=aj)/\(a==qR)=aJ:=by
 rcases d with⟨kvs,e⟩|⟨kvs,e⟩
 .obtain⟨_,hd,vs,_,dd⟩:=xV I.hok e
  refine⟨dd.typeIs,λb q=>?_,hd⟩
  cases q
  obtain⟨ob,_,_,h1,h2,_⟩:=dd
  exact⟨ob,h1,h2.2.1⟩
 .obtain⟨_,hd,xs,_,dd⟩:=zO I.hok e
  refine⟨dd.typeIs,λb q=>?_,hd⟩
  cases q
  obtain⟨ob,_,_,h1,h2,_⟩:=dd
  exact⟨ob,h1,h2.2.1⟩
section
variable{X:Cx}{pins:List (aq×Obj)}{σ:St}{H:Hp}{s:aD}{a:aq}{y d:V}{u r:Value}{o:Option V}{A:cM}{E:Value->aD->Prop}
theorem acB{Q:Value->aD->Prop}(hu:A.units+1<gj)(I:Inv X pins σ H s)(g:nP H a y o)(ry:RelV y u)(rd:RelV d r)(h:∀w' s',Inv X pins σ H s'->RelV (o.getD d) w'->Q w' s'):
  aR (model X.prog X.w) A (call (.builtin "dict.get") [.ref a,u,r]) Q E s:=by
 rcases g with⟨kvs,k,e,ey,l⟩|⟨kvs,k,b,e,ey,eb,l⟩
 .subst ey
  obtain⟨z,hd,vs,rel,dd⟩:=xV I.hok e
  refine call_meetsIn Xk dd.typeIs afn (afe _ _ _) (meets_dict_get_default (jy X.prog X.w) a (xT ry) hd r) ⟨_,dd.mapOf,h _ _ (I.tok _) ?_⟩;rw[l]
  exact(rel.val k).getD rd
 .subst ey
  cases(show u=dH b from ry)
  obtain⟨z,hd,xs,rel,dd⟩:=zO I.hok e
  refine call_meetsIn Xk dd.typeIs afn (afe _ _ _) (meetsH_dict_get_default (Em (jy X.prog X.w)) a b hd r) ⟨Ia hu,k,xs,Cg I.hok eb,dd,h _ _ (I.tok _) ?_⟩;rw[l]
  exact(rel.val k).getD rd
end
section
variable{X:Cx}{o e f:Expr}{apos cpos:Pos}{td ty tx:TE}
end
section
variable{X:Cx}{pins:List (aq×Obj)}{σ:St}{H:Hp}{s:aD}{a:aq}{kvs:List (Key×V)}{A:cM}{E:Value->aD->Prop}
end
section
variable{X:Cx}{pins:List (aq×Obj)}{σ:St}{H:Hp}{s:aD}{a:aq}{y:V}{u:Value}{A:cM}{E:Value->aD->Prop}
end
end L2
namespace Att
open PySem PySem.W PySem.Calls PyProof.Rows
theorem agt{P:Params}{h:bC}:∀(ns:List Int)(vs:List Value),WellAll P h vs (ns.map WData.int)->IntsAre vs ns:=by
 intro ns;induction ns with
 |nil=>
  intro vs w;rw[mW] at w;cases w;exact .nil
 |cons n ns ih=>
  intro vs w;rw[cJ] at w;cases w with
  |cons a b=>
   cases a;exact .cons _ _ (ih _ b)
theorem aiC{l:OpenLaw}{n:Nat}(hn:l.most=aa n){P:Params}{h:bC}{args:List WData}{vals:List Value}
  (hpre:l.row.toRowW.claim.pre args=ao)(hwl:WellAll P h vals args):
  ∃a vs ns,vals=[dH a]/\args=[WData.list (ns.map WData.int)]/\h.get? a=aa {cls:=.type "list",data:=.seq vs.toArray}/\IntsAre vs ns/\ns.length<=n:=by
 have hsh:WShape.hasAll [] args [.list .int]=ao:=(pre_splitW hpre).1;have hc:l.pre.holds [] {args:=args}=ao:=(pre_splitW hpre).2
 obtain⟨d,r,rfl,h1,h2⟩:=hasAllW_cons hsh
 obtain rfl:=hasAllW_nil h2
 obtain⟨xs,rfl,h3⟩:=hasW_list h1
 obtain⟨ns,rfl⟩:=items_int h3
 have hlen:ns.length<=n:=by
  unfold OpenLaw.pre at hc;have h4:(WTm.not (.lt (.lit (.int (n:Int))) (.len (.arg 0)))).holds [] {args:=[.list (ns.map .int)]}=ao:=by
   have h4:=(holds_andW hc).1;rw[hn] at h4;exact h4
  have h5:=condW_of h4 (w_not (w_lt w_lit (w_len_list (w_arg rfl))));rw[bw] at h5;refine Nat.le_of_not_lt λq=>?_
  have q':(n:Int)<((ns.length:Nat):Int):=by lia
  first
   |(rw[gk q'] at h5;exact absurd h5 (by decide))
   |(simp at h5;lia)
 cases hwl with
 |cons w1 w2=>
  cases w2;cases w1 with
  |list ho hall=>exact⟨_,_,ns,rfl,rfl,ho,agt ns _ hall,hlen⟩
theorem aiD(l:OpenLaw)(args:List WData):l.row.toRowW.claim.post args (.bool ao) args=ao:=
 postW_of (r:=l.row.toRowW) (X:=(ao==ao))
  (show WShape.has [] (.bool ao) .bool=ao by first|rfl|decide|simp[WShape.has,WShape.arms,WShape.armsAll])
  (show(WTm.eq .res (.lit (.bool ao))).value [] {args:=args,res:=aa (.bool ao),after:=args}=aa (.bool (ao==ao)) from w_eq_bool (w_res rfl) w_lit) rfl
theorem ahv{l:OpenLaw}{n:Nat}{q:bL}{loose:List Str}{XP:(Str->Option Value)->bC->Prop}{YP:bI->bC->Prop}{d:DefRec}
  (hn:l.most=aa n)(hdf:d.params.defaults=[])
  (call:∀(w:bI)(s₀ s₁:aD)(mg mb:Str->Option Value)(fa:aq)(o:Obj)(pm cd doc:Value)(a:aq)(vs:List Value)(ns:List Int),
   Ground q loose [] XP w s₀ mg mb s₁.heap->YP w s₁.heap->
   s₁.heap.get? fa=aa o->o.data=.func (docDef d.name d.params d.body d.scope pm cd doc)->s₁.heap.CodeRec cd d.name->mg d.name=aa (.ref fa)->
   s₁.heap.get? a=aa {cls:=.type "list",data:=.seq vs.toArray}->IntsAre vs ns->ns.length<=n->s₁.gens=#[]->
   mC (model l.prog w) BL (.call (.ref fa) ⟨[.ref a],[]⟩) (λr s'=>r=.ok (.ret (.bool ao))/\OldK s₁.heap s'.heap/\s'.os=s₁.os/\AllBare s'.gens) s₁):
  WalkO q loose XP YP l.row.toRowW d [] (λf vs=>ZM f vs):=by
 intro w s₀ s₁ mg mb G Y fa o pm cd doc dV kV ho hd hcd hD hmg hg args vals as hpre hlay hrd hwl hlo;obtain rfl:dV=.none:=Dflts.none hD hdf;obtain rfl:kV=.none:=Dflts.noKw hD
 obtain⟨a,vs,ns,rfl,rfl,hobj,hints,hlen⟩:=aiC hn hpre hwl
 refine enter_call (Je (call w s₀ s₁ mg mb fa o pm cd doc a vs ns G Y ho (fd_plain hd) hcd hmg hobj hints hlen hg) λr s' hq=>?_)
 obtain⟨rfl,h2,h3,h4⟩:=hq
 exact⟨.inl ⟨.bool ao,.bool ao,[],rfl,λ_=>rfl,.bool ao,aiD l _,λ_=>⟨yQ,λ_ hm=>(nomatch hm)⟩⟩,h2,h3,h4⟩
section
variable{prog:bL}{w:bI}{A:cM}{E:Value->aD->Prop}{s:aD}{K:Frag}
def ledger(h:bC)(L d:aq):List (aq×Obj):=(fB h.objs.size).filterMap λa=>if a=L\/a=d then aj else(h.get? a).map λo=>(a,o)
end
end Att
namespace L2
open PySem PySem.Spec PyProof.Rows
theorem JP:∀{vs:List Value}{ns:List Int},IntsAre vs ns->Vals (ns.map V.int) vs
 |_,_,.nil=>.nil
 |_,_,.cons n t h=>.cons ⟨t,rfl⟩ (JP h)
def Only(H:Hp):Prop:=∀b,H b=aj\/∃o xs,H b=aa (.m6 o (.lst xs))
theorem ajB{P:bL}{w:bI}{K:aM}{mg mb:Str->Option Value}{CX:qL}{k:Nat}{fa a:aq}{fd:dZ}{x:Str}{sp:Sp}{s₁:aD}{vs:List Value}{ns:List Int}
  (KX:K.In s₁.heap)(hns:s₁.heap.Ns iM mg)(hb:s₁.heap.Ns builtinsNs mb)(hbb:∀x:Str,x≠"__name__"->mb x=uv x)(hlim:s₁.heap.NoLimit)(hg:s₁.gens=#[])
  (ha:s₁.heap.get? a=aa {cls:=.type "list",data:=.seq vs.toArray})(hi:IntsAre vs ns)(hl:ns.length<=cu)(hr:jg k BL)
  (F:∀base:bC,K.In base->base.Ns iM mg->dX P w K mg base CX k fa fd [x] sp)(hbind:∀(s:aD)(u:Value),zu s fd ⟨[u],[]⟩ [(x,u)])
  (hsp:∀H:Hp,Only H->bR K H a (ns.map V.int)->sp [.ref a] H (λv _=>v=.bl ao) λ_ _ _=>False)
  (We:∀H e s',CX [] H s₁ (λ_ _ _=>False) e s'->False):
  mC (model P w) BL (.call (.ref fa) ⟨[.ref a],[]⟩) (λr s'=>r=.ok (.ret (.bool ao))/\OldK s₁.heap s'.heap/\s'.os=s₁.os/\AllBare s'.gens) s₁:=by
 have rv:=JP hi;have lenV:=hi.length;have core:∀H:Hp,Only H->bR K H a (ns.map V.int)->iU P w H s₁.heap->(∀b,H b≠aj->b=a)->(H a≠aj->K.lookup a=aj)->
   mC (model P w) BL (.call (.ref fa) ⟨[.ref a],[]⟩) (λr s'=>r=.ok (.ret (.bool ao))/\OldK s₁.heap s'.heap/\s'.os=s₁.os/\AllBare s'.gens) s₁:=by
  intro H hO hS hok hA hK;have abJ:∀{b:aq}{o:Obj},s₁.heap.get? b=aa o->H b=aj->(vO s₁.heap H).get? b=aa o:=λe n=>ajo e n
  have G7:∀{b:aq}{o:Obj}{es:Array DictEntry}{ep:Nat},s₁.heap.get? b=aa o->o.data=.dict es ep->H b=aj:=λ{b o es ep} e d=>by
   cases q:H b with
   |none=>rfl
   |some u=>
    have e':b=a:=hA b (by rw[q];simp);subst e';rw[ha] at e;cases e;have d':Data.seq vs.toArray _=Data.dict es ep:=d;cases d'
  have MK:∀{b:aq}{m:Str->Option Value},s₁.heap.Ns b m->(vO s₁.heap H).Ns b m:=λ{b m} ⟨o,es,ep,e,d,r⟩=>⟨o,es,ep,abJ e (G7 e d),d,r⟩
  have hKb:K.In (vO s₁.heap H):=λb o e=>abJ (KX b o e) (by
   cases q:H b with
   |none=>rfl
   |some u=>
    have e':b=a:=hA b (by rw[q];simp);subst e';rw[hK (by rw[q];simp)] at e;cases e)
  have hM:Mod K mg (vO s₁.heap H):=⟨hKb,MK hns,⟨mb,MK hb,hbb⟩,let ⟨mc,h1,h2⟩:=hlim;⟨mc,MK h1,h2⟩⟩
  have e0:zU P w K mg (vO s₁.heap H) BL [] s₁ H:=⟨rfl,hM,λb o e=>akG e,ag5 (aio _ _),trivial,λb hb=>absurd (show b∈([]:List aq) from hb) (by simp),hok,.of_eq hg⟩
  refine Je ((F _ hKb (MK hns)).run BL [] s₁ H ⟨[.ref a],[]⟩ [.ref a] [.ref a] _ _ hr e0 (hbind s₁ (.ref a)) (.cons rfl .nil) (hsp H hO hS)) λr s' h=>?_
  cases r with
  |error e=>exact(We H e s' h).elim
  |ok fl=>
   cases fl with
   |next=>exact rR h
   |brk=>exact rR h
   |cont=>exact rR h
   |ret u=>
    obtain⟨v,H',os,bare,un,hok',r',q⟩:=h
    have q':v=.bl ao:=q;subst q';obtain rfl:u=qQ ao:=r'
    refine⟨rfl,OldK.of_keep λb o e=>?_,os,bare⟩
    cases q:H b with
    |none=>exact un.keep b o e q (by intro z;exact absurd (show b∈([]:List aq) from z) (by simp)) (by simp)
    |some u=>
     rcases hO b with z|⟨ob,xs,z⟩
     .rw[q] at z;cases z
     .have z2:=un.qD b ob _ z
      obtain⟨e1,_⟩:=hok b _ z
      obtain⟨e2,_⟩:=hok' b _ z2
      rw[e] at e1;cases e1;exact e2
 cases hk:K.lookup a with
 |some o=>
  have e:=KX a o hk;rw[ha] at e;cases e;refine core (λ_=>aj) (λ_=>.inl rfl) (.inr ⟨_,vs.toArray,_,hk,rfl,rfl,rfl,by rw[gG,lenV];exact hl,by simpa using rv⟩) (λb u z=>by have z':(aj:Option HO)=aa u:=z;cases z') (λb z=>absurd rfl z) λz=>absurd rfl z
 |none=>
  refine core (λb=>if b=a then aa (.m6 {cls:=.type "list",data:=.seq vs.toArray} (.lst (ns.map V.int))) else aj) (λb=>?_) (.inl (.inr ⟨{cls:=.type "list",data:=.seq vs.toArray},bz rfl⟩)) (λb u z=>?_) (λb z=>?_) λ_=>hk
  .by_cases hb:b=a
   .exact .inr ⟨_,_,bz hb⟩
   .exact .inl (bH hb)
  .by_cases hb:b=a
   .have z':=(bz hb).symm.trans z;cases z';subst hb
    exact⟨ha,by rw[bw];exact hl,vs,_,rv,ha⟩
   .have z':=(bH hb).symm.trans z;cases z'
  .by_cases hb:b=a
   .exact hb
   .exact absurd (bH hb) z
theorem akY{l:Yj}{n k:Nat}{q:bL}{loose:List Str}{XP:(Str->Option Value)->bC->Prop}{YP:bI->bC->Prop}{d:DefRec}{K:Params->aM}{CX:bI->qL}{sp:bI->Sp}{x:Str}
  (hn:l.most=aa n)(hn2:n<=cu)(hdf:d.params.defaults=[])(hr:jg k BL)
  (hY:∀(w:bI)(h:bC),YP w h->(K w.params).In h)
  (F:∀(w:bI)(mg:Str->Option Value)(fa:aq)(h:bC),(K w.params).In h->h.Ns iM mg->mg d.name=aa (.ref fa)->
   ∃fd:dZ,(∀(s:aD)(u:Value),zu s fd ⟨[u],[]⟩ [(x,u)])/\
    ∀base:bC,(K w.params).In base->base.Ns iM mg->dX l.prog w (K w.params) mg base (CX w) k fa fd [x] (sp w))
  (hsp:∀(w:bI)(H:Hp)(a:aq)(ns:List Int),ns.length<=n->Only H->bR (K w.params) H a (ns.map V.int)->sp w [.ref a] H (λv _=>v=.bl ao) λ_ _ _=>False)
  (We:∀(w:bI)(H:Hp)(s:aD)(e:Value)(s':aD),CX w [] H s (λ_ _ _=>False) e s'->False):
  agK q loose XP YP l.row.toRowW d [] (λf vs=>ZM f vs):=by
 refine Att.ahv hn hdf λw s₀ s₁ mg mb fa o pm cd doc a vs ns G Y ho hd hcd hmg hobj hints hlen hg=>?_
 have KX:=hY w _ Y
 obtain⟨fd,hb,hF⟩:=F w mg fa _ KX G.T.g hmg
 exact ajB KX G.T.g G.T.b G.T.builtins G.T.nolimit hg hobj hints (j7 hlen hn2) hr hF hb (λH hO hS=>hsp w H a ns hlen hO hS) λH e s'=>We w H s₁ e s'
def BP(s:dM):Arguments:=match s with
 |.FunctionDef _ a _ _ _ _ _ _ _ _=>a
 |_=>{posonlyargs:=[],args:=[],vararg:=aj,kwonlyargs:=[],kw_defaults:=[],kwarg:=aj,defaults:=[]}
def xK(s:dM):List dM:=match s with
 |.FunctionDef _ _ b _ _ _ _ _ _ _=>b
 |_=>[]
def dw(s:dM):jO:=match s with
 |.FunctionDef _ _ _ _ _ _ sc _ _ _=>sc
 |_=>{kind:=.function,names:=[],isGenerator:=aJ,isCoroutine:=aJ}
abbrev fZ:qL:=λ_ _ _ _ _ _=>False
abbrev E0:XK:=λ_ _ _=>False
theorem an6{X:Cx}:Passes fZ X E0:=λ_ _ _ _ _ _ _ h=>h.elim
structure gC(K:aM)(x qual:Str)(st:dM)(f:aq)(fd:dZ):Prop where
 ex:∃(oc:Value)(od:Option aq)(kV doc pm:Value)(an:Option aq)(cdv ct:Value)(osl:Array (Option Value)),
  fd=zc x qual (BP st) (xK st) (dw st) .none kV doc pm an cdv ct/\K.lookup f=aa ⟨oc,od,.func fd,osl⟩/\OD K cdv qual=ao
 kp:wU K (.ref f)=ao
section
variable{P:bL}{w:bI}{K:aM}{mg:Str->Option Value}{base:bC}
theorem gC.ok{x qual:Str}{st:dM}{f:aq}{fd:dZ}{N ps:List Str}{k:Nat}{sp:Sp}(F:gC K x qual st f fd)(S:iQ N ps (dw st))(len:∀vs H Q E,sp vs H Q E->vs.length=ps.length)
  (hbody:∀(cdv:Value)(A:cM)(outer:List Env)(s:aD)(H:Hp)(vs:List V)(Q:VK)(E:XK),jg k (A.deeper (envOfC qual (dw st) s.heap.objs.size f cdv))->sp vs H Q E->
   ∃t,jG (zV fZ P w K mg base N qual (dw st) f cdv A outer s H E).vX (xK st) t/\t {nx:=λ_ H'=>Q .non H',rt:=Q} (start N vs) H):dX P w K mg base fZ (k+1) f fd ps sp:=by
 obtain⟨oc,od,kV,doc,pm,an,cdv,ct,osl,rfl,lk,hcd⟩:=F.ex
 refine an1 lk hcd S len λA outer s H vs Q E hr hsp=>?_
 obtain⟨t,h,q⟩:=hbody cdv A outer s H vs Q E hr hsp
 exact⟨t,h.vX,q⟩
theorem gC.binds{x qual:Str}{st:dM}{f:aq}{fd:dZ}{ps:List Str}(F:gC K x qual st f fd)
  (h:∀(kV doc pm:Value)(an:Option aq)(cdv ct:Value)(us:List Value),us.length=ps.length->bindArgs (zc x qual (BP st) (xK st) (dw st) .none kV doc pm an cdv ct) ⟨us,[]⟩=pure (ps.zip us)):Binds K fd ps []:=by
 obtain⟨oc,od,kV,doc,pm,an,cdv,ct,osl,rfl,lk,hcd⟩:=F.ex
 exact .all (h kV doc pm an cdv ct)
theorem Ur{x qual:Str}{st:dM}{f:aq}{oc:Value}{od an:Option aq}{osl:Array (Option Value)}{kV doc pm cdv ct:Value}(l:K.lookup f=aa ⟨oc,od,.func (zc x qual (BP st) (xK st) (dw st) .none kV doc pm an cdv ct),osl⟩)
  (c:OD K cdv qual=ao)(k:wU K (.ref f)=ao):gC K x qual st f (zc x qual (BP st) (xK st) (dw st) .none kV doc pm an cdv ct):=⟨⟨oc,od,kV,doc,pm,an,cdv,ct,osl,rfl,l,c⟩,k⟩
end
section
variable{X:Cx}
theorem pv(i:Nat){x:Str}{pos:Pos}(hN:X.N[i]?=aa x:=by rfl)(hv:Mu X.env.scope x:=by first|exact dg rfl|exact nF (dg rfl)|exact nF (nF rfl))(hd:(x==("__debug__":Str))=aJ:=by decide)
  (hcd:(x==("__classdict__":Str))=aJ:=by decide):PE X (.Name x pos) (qF i):=amh hN hv hd hcd
end
theorem ym{A B:Prop}(h:B):if aJ=ao then A else B:=by
 rw[bH iI];exact h
theorem yo{A B:Prop}(h:A):if ao=ao then A else B:=by
 rw[bz rfl];exact h
def bN(H H':Hp):Prop:=∀b o,H b=aa o->H' b=aa o
theorem bN.refl(H:Hp):bN H H:=λ_ _ h=>h
theorem bN.trans{H H1 H2:Hp}(a:bN H H1)(b:bN H1 H2):bN H H2:=λc o h=>b c o (a c o h)
theorem bN.free{H H':Hp}(e:bN H H'){l:aq}(h:H' l=oK):H l=oK:=by
 cases q:H l with
 |none=>rfl
 |some o=>
  rw[e l o q] at h;cases h
theorem bN.seq{K:aM}{H H':Hp}{a:aq}{xs:List V}(e:bN H H')(h:bR K H a xs):bR K H' a xs:=by
 rcases h with(h|⟨o,h⟩)|h
 .exact .inl (.inl (e _ _ h))
 .exact .inl (.inr ⟨o,e _ _ h⟩)
 .exact .inr h
section
variable{X:Cx}
theorem aiE:ie X (.builtin "len") (λxs H Q=>∃a kvs,xs=[V.ref a]/\H a=aa (.dK kvs)/\Q (.int kvs.length) H):=by
 intro pins s σ H xs us Q I r h
 obtain⟨a,kvs,rfl,ha,q⟩:=h
 obtain⟨u,rfl,ru⟩:=vals1 r
 cases ru;exact an4 I (.inl ha) λt s' I'=>⟨.int kvs.length,H,I',⟨t,rfl⟩,q⟩
end
section
variable{κ:Type}[DecidableEq κ]
end
def Cx.blk(X:Cx)(N:List Str)(scope:jO)(cl:List (Str×aq))(C:aq)(s:aD)(H:Hp)(fp:List aq):Cx:=
 {X with N:=N,s₀:=s,H₀:=H,env:=Rn scope cl C X.env,outer:=X.stack,ex:=fp,fn:=λ_=>aJ,pn:=[],xe:=λ_ _=>False}
theorem Qf(f:Str×Bv->List (Str×aq)->Sem (ForInStep (List (Str×aq))))
  (hf:∀n k r,f (n,k) r=if k==qi then(do let c <-cellOf env n;pure (.yield ((n,c)::r))) else pure (.yield r)):
  ∀(names:List (Str×Bv))(cs:List (Str×aq)),(∀y∈names,y.2=.free->∃c,env.cells.lookup y.1=aa c)->(∀n c,cs.lookup n=aa c->env.cells.lookup n=aa c)->
   ∃cl,(forIn names cs f:Sem (List (Str×aq)))=pure cl/\(∀n c,cl.lookup n=aa c->env.cells.lookup n=aa c)/\
    ∀n,((∃c,cs.lookup n=aa c)\/∃y∈names,y.1=n/\y.2=.free)->∃c,cl.lookup n=aa c
 |[],cs,_,h2=>⟨cs,rfl,h2,λn h=>h.elim id λ⟨_,hy,_⟩=>nomatch hy⟩
 |(n,k)::r,cs,h1,h2=>by
  rw[List.forIn_cons,hf];by_cases hk:k=.free
  .subst hk
   obtain⟨c,hc⟩:=h1 (n,.free) dN rfl
   have hc':env.cells.lookup n=aa c:=hc;have e:cellOf env n=pure c:=by unfold cellOf;rw[hc']
   obtain⟨cl,q1,q2,q3⟩:=Qf f hf r ((n,c)::cs) (λy hy=>h1 y (fP _ hy)) (λm d hm=>by
    rw[Ao] at hm;by_cases hb:(m==n)=ao
    .rw[hb] at hm;have:=eq_of_beq hb;subst this;cases hm;exact hc'
    .rw[X6] at hb;rw[hb] at hm;exact h2 m d hm)
   refine⟨cl,?_,q2,λm hm=>q3 m ?_⟩
   .rw[bz (show(qi==qi)=ao from rfl),e];simp only[pure_bind];exact q1
   .by_cases hb:m=n
    .subst hb;exact .inl ⟨c,by simp[Ao]⟩
    .rcases hm with⟨d,hm⟩|⟨y,hy,e1,e2⟩
     .refine .inl ⟨d,?_⟩;rw[Ao,beq_eq_false_iff_ne.mpr hb];exact hm
     .rcases cB.mp hy with rfl|hy
      .exact absurd e1.symm hb
      .exact .inr ⟨y,hy,e1,e2⟩
  .have hb:(k==qi)=aJ:=beq_eq_false_iff_ne.mpr hk
   obtain⟨cl,q1,q2,q3⟩:=Qf f hf r cs (λy hy=>h1 y (fP _ hy)) h2
   refine⟨cl,?_,q2,λm hm=>q3 m ?_⟩
   .rw[hb];simp only[pH,if_false,pure_bind];exact q1
   .rcases hm with hm|⟨y,hy,e1,e2⟩
    .exact .inl hm
    .rcases cB.mp hy with rfl|hy
     .exact absurd e2 hk
     .exact .inr ⟨y,hy,e1,e2⟩
theorem JC(h1:∀y∈scope.names,y.2=.free->∃c,env.cells.lookup y.1=aa c):
  ∃cl,closureFor scope env=pure cl/\(∀n c,cl.lookup n=aa c->env.cells.lookup n=aa c)/\∀y∈scope.names,y.2=.free->∃c,cl.lookup y.1=aa c:=by
 unfold closureFor
 obtain⟨cl,q1,q2,q3⟩:=Qf (env:=env) (λx r=>if(x.2==qi)=ao then(do let c <-cellOf env x.1;pure (.yield ((x.1,c)::r))) else pure (.yield r)) (λn k r=>rfl) scope.names [] h1 (λn c h=>by simp at h)
 have q:=congrArg (λt:Sem (List (Str×aq))=>t >>= λcs=>pure cs) q1;simp only[pure_bind] at q
 exact⟨cl,q,q2,λy hy e=>q3 y.1 (.inr ⟨y,hy,rfl,e⟩)⟩
theorem Zc{scope:jO}{env:Env}{x:Str}:∀{names:List (Str×Bv)},
  (names.map λ(n,k)=>if(k==qi&&env.scope.kind==.function&&env.kindOf n==aa .cell) then(n,Pk) else(n,k)).lookup x=
   (names.lookup x).map λk=>if(k==qi&&env.scope.kind==.function&&env.kindOf x==aa .cell) then Pk else k
 |[]=>rfl
 |(n,k)::r=>by
  have ih:=@Zc scope env x r;show List.lookup x ((if(k==qi&&env.scope.kind==.function&&env.kindOf n==aa .cell)=ao then(n,Pk) else(n,k))::_)=_;cases hx:x==n with
  |true=>
   have e:=eq_of_beq hx;subst e;by_cases hc:(k==qi&&env.scope.kind==.function&&env.kindOf x==aa .cell)=ao
   .rw[bz hc];simp only[Ao,beq_self_eq_true,j6,hc,if_true]
   .rw[bH hc];simp only[Ao,beq_self_eq_true,j6,hc,if_false];rfl
  |false=>
   by_cases hc:(k==qi&&env.scope.kind==.function&&env.kindOf n==aa .cell)=ao
   .rw[bz hc];simp only[Ao,hx];exact ih
   .rw[bH hc];simp only[Ao,hx];exact ih
def frees(js:List Nat)(σ:St):St:=js.map λj=>(σ[j]?).join
section
variable{X:Cx}{pins:List (aq×Obj)}{σ:St}{H:Hp}{s s1:aD}{NT NF:List Str}{js:List Nat}{scope:jO}{cl:List (Str×aq)}{fp:List aq}
structure qz(X:Cx)(NT NF:List Str)(js:List Nat)(scope:jO):Prop where
 kind:scope.kind=.function
 names:∀y∈scope.names,y.2=.local->scope.names.lookup y.1=aa .local
 cell:∀y∈scope.names,y.2≠.cell
 free:∀y∈scope.names,y.2=.free->X.env.scope.names.lookup y.1=aa .cell\/X.env.scope.names.lookup y.1=aa .free
 len:js.length=NF.length
 fr:∀(k:Nat)(j:Nat)(x:Str),js[k]?=aa j->NF[k]?=aa x->X.N[j]?=aa x/\scope.names.lookup x=aa .free
 tg:∀x∈NT,scope.names.lookup x=aa .local
 nd:(NT++NF).Nodup
theorem Inv.blk(I:Inv X pins σ H s)(B:qz X NT NF js scope)(q2:∀n c,cl.lookup n=aa c->X.env.cells.lookup n=aa c)(q3:∀y∈scope.names,y.2=.free->∃c,cl.lookup y.1=aa c)
  (hf:∀b∈fp,kI X pins H b)(hlt:∀b∈fp,b<s.heap.objs.size){m:Str->Option Value}(hns:s1.heap.Ns s.heap.objs.size m)(keep:∀b o,s.heap.get? b=aa o->s1.heap.get? b=aa o)
  (hos:s1.os=s.os)(hg:AllBare s1.gens):
  Inv (X.blk (NT++NF) scope cl s.heap.objs.size s H fp) [] (gR NT.length aj++frees js σ) H s1:=by
 have look:∀x,(X.blk (NT++NF) scope cl s.heap.objs.size s H fp).env.kindOf x=(scope.names.lookup x).map λk=>if(k==qi&&X.env.scope.kind==.function&&X.env.kindOf x==aa .cell) then Pk else k:=λx=>Zc (scope:=scope)
 have amK:∀x,((X.blk (NT++NF) scope cl s.heap.objs.size s H fp).env.kindOf x=aa .cell\/(X.blk (NT++NF) scope cl s.heap.objs.size s H fp).env.kindOf x=aa .free)->scope.names.lookup x=aa .free:=λx h=>by
  rw[look] at h;cases e:scope.names.lookup x with
  |none=>rw[e] at h;simp at h
  |some k=>
   rw[e] at h;by_cases hk:k=.free
   .rw[hk]
   .have hb:(k==qi)=aJ:=beq_eq_false_iff_ne.mpr hk;simp only[j6,hb,Yu,pH,if_false,N7] at h;rcases h with h|h
    .subst h;exact absurd rfl (B.cell _ (wK e))
    .exact absurd h hk
 have ltC:∀c x,X.env.cells.lookup x=aa c->c<s.heap.objs.size:=λc x e=>by
  obtain⟨v,q⟩:=I.cell x c e
  exact q.lt
 refine⟨⟨I.ok.mod,B.kind,I.ok.glob,I.ok.blt,cg _,λx y c h1 h2=>I.ok.inj x y c (q2 x c h1) (q2 y c h2),λx hx=>?_,λx c h _=>(nomatch(show aJ=ao from h)),I.ok.hd,I.ok.frames,.inl rfl,λb hb=>⟨eO (hlt b hb),λx c e=>(hf b hb).2.2.2.2.1 x c (q2 x c e)⟩,I.bs,j7 I.ok.uX I.sz,λb o e hb=>?_,λb hb hb2=>?_,I.stack,I.abB⟩,
  hos,hg,Un.kept keep,⟨m,hns,λi x v h1 h2 h3=>?_⟩,λx c e=>?_,I.hok.fresh (cg _),λx c e=>I.sW x c (q2 x c e),λp hp=>(nomatch(show p∈([]:List (aq×Obj)) from hp)),I.hok.kept keep,?_⟩
 .exact q3 _ (wK (amK x hx)) rfl
 .rcases(hf b hb).2.2.2.1 with z|z
  .exact I.ok.Gy b o e z
  .exact absurd (pG (cF e) (j7 I.ok.uX z)) (wW _)
 .obtain⟨_,f1,f2,_⟩:=hf b hb
  rcases cB.mp (I.BZ b hb2) with z|z
  .exact f1 z
  .exact f2 z
 .have h1':(NT++NF)[i]?=aa x:=h1;by_cases hi:i<NT.length
  .rw[p6 (by simpa using hi),Xd] at h2;split at h2<;>cases h2
  .have hi':NT.length<=i:=by lia
   rw[pF (by simpa using hi')] at h2;rw[pF hi'] at h1';simp only[Xj] at h2;unfold frees at h2;rw[iJ] at h2;cases ej:js[i-NT.length]? with
   |none=>rw[ej] at h2;cases h2
   |some j=>
    rw[ej] at h2;have h2':(σ[j]?).join=aa v:=by simpa using h2
    obtain⟨g1,g2⟩:=B.fr _ j x ej h1'
    have hj:σ[j]?=aa (aa v):=by
     cases e:σ[j]? with
     |none=>rw[e] at h2';cases h2'
     |some o=>rw[e] at h2';simp at h2';rw[h2']
    have hk:=B.free _ (wK g2) rfl;have hk':X.env.scope.names.lookup x=aa .cell\/X.env.scope.names.lookup x=aa .free:=hk
    obtain⟨m0,hn0,hl0⟩:=I.loc
    obtain⟨u,r,l⟩:=hl0 j x v g1 hj (.inr hk')
    refine⟨u,r,.inr ⟨?_,?_⟩⟩
    .rw[look,g2];by_cases hc:(qi==qi&&X.env.scope.kind==.function&&X.env.kindOf x==aa .cell)=ao
     .left;simp only[j6,hc,if_true]
     .right;simp only[j6,hc,if_false];rfl
    .rcases l with⟨k0,_⟩|⟨_,c,e,z⟩
     .have k0':X.env.scope.names.lookup x=aa .local:=k0;rcases hk' with z|z<;>rw[z] at k0'<;>cases k0'
     .obtain⟨c',hc'⟩:=q3 _ (wK g2) rfl
      have hc2:cl.lookup x=aa c':=hc';have e2:=q2 x c' hc2;rw[e] at e2;cases e2
      obtain⟨o,ho,hd⟩:=z
      exact⟨c,hc2,o,keep c o ho,hd⟩
 .obtain⟨v,o,ho,hd⟩:=I.cell x c (q2 x c e)
  exact⟨v,o,keep c o ho,hd⟩
 .show(gR NT.length aj++frees js σ).length=(NT++NF).length
  unfold frees;simp[B.len]
theorem Inv.Vi(I:Inv X pins σ H s)(hf:∀b∈fp,kI X pins H b)(J:Inv (X.blk N scope cl s.heap.objs.size s H fp) Vb σ' H' s'):Inv X pins σ H' s':=
 I.call' J.os J.base J.hok J.bare λb hb=>⟨(hf b hb).2.2.2.1,(hf b hb).2.1,(hf b hb).2.2.2.2.1,(hf b hb).2.2.2.2.2⟩
end
theorem akZ(a:List α)(x y:α)(b:List α)(h:a.length=n):(a++x::b).set n y=a++y::b:=by
 subst h;rw[List.set_append_right _ _ (cg _),PK];rfl
inductive iD where
 |one|many (n:Nat)
def yE(K:aM):iD->V->Hp->List V->Prop
 |.one,x,_,vs=>vs=[x]
 |.many n,x,H,vs=>∃a,x=.ref a/\dj K H a vs/\vs.length=n
def isNm(e:Expr)(x:Str):Prop:=∃pos,e=.Name x pos
def pU(tg:Expr)(NT:List Str):iD->Prop
 |.one=>∃x,isNm tg x/\NT=[x]
 |.many n=>∃es k pos,tg=.Tuple es k pos/\Paired isNm es NT/\NT.length=n
theorem ZP:∀{es:List Expr}{NT:List Str},Paired isNm es NT->rT es env=es.map λe=>(aJ,assign e env)
 |_,_,.nil=>rfl
 |_,_,.cons ⟨pos,e⟩ t=>by
  subst e
  show(aJ,assign _ env)::rT _ env=_
  rw[ZP t];rfl
section
variable{X:Cx}{pins:List (aq×Obj)}{H:Hp}{E:Value->aD->Prop}
theorem aiF(p:Paired isNm es NT):∀{pre NF:List Str}{σp fs:St}{s:aD}{vs:List V}{us:List Value}{Q:Unit->aD->Prop},
  X.N=pre++NT++NF->X.N.Nodup->(∀x∈NT,X.env.scope.names.lookup x=aa .local)->σp.length=pre.length->vs.length=NT.length->
  Inv X pins (σp++(gR NT.length aj++fs)) H s->Vals vs us->(∀s',Inv X pins (σp++(vs.map aa++fs)) H s'->Q () s')->
  aR (model X.prog X.w) X.A (DW (es.map λe=>assign e X.env) us) Q E s:=by
 induction p with
 |nil=>
  intro pre NF σp fs s vs us Q hN nd hl hp hv I r q;cases vs with
  |cons _ _=>simp at hv
  |nil=>
   cases r;exact assignInOrder_nil (q s I)
 |@cons e x es NT he t ih=>
  intro pre NF σp fs s vs us Q hN nd hl hp hv I r q;cases vs with
  |nil=>simp at hv
  |cons v vs=>
   cases r with
   |cons r rr=>
    obtain⟨pos,rfl⟩:=he
    have hx:=hl x dN;have hi:X.N[pre.length]?=aa x:=by
     rw[hN,mR,pF (cg _)];simp
    refine assignInOrder_cons (Ih (uy I nd hi (.inl hx) r (λs' I'=>?_) (.inr hx)));have e1:(σp++(gR (x::NT).length aj++fs)).set pre.length (aa v)=(σp++[aa v])++(gR NT.length aj++fs):=by
     exact(akZ σp aj (aa v) (gR NT.length aj++fs) hp).trans (List.append_cons σp (aa v) (gR NT.length aj++fs))
    rw[e1] at I';refine ih (pre:=pre++[x]) (NF:=NF) (σp:=σp++[aa v]) (by rw[hN];simp) nd (λy hy=>hl y (fP _ hy)) (by simp[hp]) (by simpa using hv) I' rr λs2 I2=>q s2 ?_
    have e2:σp++[aa v]++(vs.map aa++fs)=σp++((v::vs).map aa++fs):=by simp
    rw[e2] at I2;exact I2
theorem amL(tk:pU tg NT T)(hN:X.N=NT++NF)(nd:X.N.Nodup)(hc:X.calm=ao)
  (hl:∀x∈NT,X.env.scope.names.lookup x=aa .local)(I:Inv X pins (gR NT.length aj++fs) H s)(r:RelV v u)(hv:yE X.K T v H vs)
  (q:∀s',Inv X pins (vs.map aa++fs) H s'->Q () s'):aR (model X.prog X.w) X.A (assign tg X.env u) Q E s:=by
 cases T with
 |one=>
  obtain⟨x,⟨pos,rfl⟩,rfl⟩:=tk
  have hv':vs=[v]:=hv;subst hv';have hx:=hl x dN;exact Ih (uy I nd (i:=0) (by rw[hN];rfl) (.inl hx) r (λs' I'=>q s' I') (.inr hx))
 |many n=>
  obtain⟨es,k,pos,rfl,p,hn⟩:=tk
  obtain⟨a,rfl,hq,hlen⟩:=hv
  cases r
  obtain⟨its,rv,ht,hz⟩:=I.tuple hq
  have e:=ZP (env:=X.env) p;have hpl:=p.length;refine assign_Tuple_tuple (I.ok.hd hc) ht (by rw[e];simp only[bw,gG];rw[<-rv.length];lia) (by rw[e];simp) λh' hx=>?_
  have I1:Inv X pins (gR NT.length aj++fs) H {s with heap:=h'}:=I.kept (t':=s.toks) λb o e=>hx b o (eO (cF e)) e
  rw[e,dW];exact aiF p (pre:=[]) (σp:=[]) (by rw[hN];rfl) nd hl rfl (by lia) I1 (by simpa using rv) q
end
def turnOf(target iter:Expr)(ifs:List Expr)(it:Value)(env:Env)(emit:Sem Unit)(more:Sem PySem.Fin):Sem PySem.Fin:=do
 uC iter.pos
 match <-nD it with
 |none=>pure (.done .next)
 |some v=>
  yU target it v
  assign target env v
  let mut ok:=ao
  for c in ifs do
   if ok then ok <-isTrue c env (eval c env)
  if ok then emit
  more
theorem ahN(elt target iter:Expr)(ifs:List Expr)(scope:jO)(pos:Pos)(it acc:Value)(env:Env):
  Er (.ListComp elt [⟨target,iter,ifs,0⟩] scope pos) 0 it acc env=turnOf target iter ifs it env (do let _ <-call (.builtin "list.append") [acc,<-eval elt env]) (again (.compLoop (.ListComp elt [⟨target,iter,ifs,0⟩] scope pos) 0 it acc env)):=by rfl
theorem ahO(kx vx target iter:Expr)(ifs:List Expr)(scope:jO)(pos:Pos)(it:Value)(D:aq)(env:Env):
  Er (.DictComp kx vx [⟨target,iter,ifs,0⟩] scope pos) 0 it (.ref D) env=turnOf target iter ifs it env (do
      let kv <-eval kx env
      let vv <-qX [kv] (eval vx env)
      uC {kx.pos with endLine:=vx.pos.endLine,endCol:=vx.pos.endCol}
      qX [kv,vv] (dictSet D kv vv)) (again (.compLoop (.DictComp kx vx [⟨target,iter,ifs,0⟩] scope pos) 0 it (.ref D) env)):=by rfl
theorem aiG(elt target iter:Expr)(ifs:List Expr)(scope:jO)(pos:Pos)(it acc:Value)(env:Env):
  Er (.SetComp elt [⟨target,iter,ifs,0⟩] scope pos) 0 it acc env=turnOf target iter ifs it env (do let v <-eval elt env;uC elt.pos;let _ <-call (.builtin "set.add") [acc,v]) (again (.compLoop (.SetComp elt [⟨target,iter,ifs,0⟩] scope pos) 0 it acc env)):=by rfl
def oF(X:Cx)(ifs:List Expr)(t:TT):Prop:=
 ∀(pins:List (aq×Obj))(s:aD)(σ:St)(H:Hp)(Q:Bool->Hp->Prop),Inv X pins σ H s->t σ H Q->
  aR (model X.prog X.w) X.A (forIn ifs ao λc r=>if r=ao then do let ok <-isTrue c X.env (eval c X.env);pure (agu ok) else pure (agu r)) (TP X pins σ Q) X.xe s
def ao3:TT:=λ_ H Q=>Q ao H
theorem ak0:oF X [] ao3:=λ_ _ _ H _ I h=>wpAny_tests_nil ⟨H,I,h⟩
theorem ak1(h:PT X c t):oF X [c] t:=λpins s σ H Q I q=>wpAny_tests_one (h pins s σ H Q I q)
abbrev TM:=St->Hp->(Hp->Prop)->Prop
def PM(X:Cx)(emit:Sem Unit)(t:TM):Prop:=
 ∀(pins:List (aq×Obj))(s:aD)(σ:St)(H:Hp)(Q:Hp->Prop),Inv X pins σ H s->t σ H Q->
  aR (model X.prog X.w) X.A emit (λ_ s'=>∃H',Inv X pins σ H' s'/\Q H') X.xe s
def Tg(D:aq)(te:TE):TM:=λσ H Q=>te σ H λy H1=>∃xs,H1 D=aa (.lst xs)/\xs.length<cu/\Q (upd H1 D (.lst (xs++[y])))
theorem aiH(he:PE X elt te):PM X (do let _ <-call (.builtin "list.append") [.ref D,<-eval elt X.env]) (Tg D te):=by
 intro pins s σ H Q I h;refine aG (bO (he pins s σ H _ I h) λv s1 aP=>?_)
 obtain⟨y,H1,I1,r1,xs,hD,hz,q⟩:=aP
 refine aG (bO (QX (X:=X) pins s1 σ H1 (.ref D) [y] (.ref D) [v] (λ_ H'=>Q H') I1 rfl (.cons r1 .nil) ⟨D,xs,y,rfl,rfl,hD,hz,q⟩) λ_ s2 ⟨_,H2,I2,_,q2⟩=>bh ⟨H2,I2,q2⟩)
def yp(K:aM)(T:iD)(ts:TT)(em:TM)(fs:St)(J:It)(H0:Hp)(done:Hp->Prop):Prop:=
 ∃W:Nat->Nat->Hp->Prop,(∃m,W 0 m H0)/\∀i m H,W i m H->
  (J.stop i H/\done H)\/(J.go i H/\∀x H',J.yC i H x H'->∃vs,yE K T x H' vs/\
   ts (vs.map aa++fs) H' λb H2=>if b=ao then em (vs.map aa++fs) H2 λH3=>∃m',m'<m/\W (i+1) m' H3 else ∃m',m'<m/\W (i+1) m' H2)
section
variable{X:Cx}{NT NF:List Str}{tg iter e:Expr}{ifs:List Expr}{T:iD}{ts:TT}{em:TM}{emit:Sem Unit}{acc:Value}{fp:List aq}{it:aq}{J:It}{tn:Nat->bC->Prop}
theorem ajC{fs:St}{vs:List V}{pins:List (aq×Obj)}{H:Hp}{s:aD}(hv:vs.length=NT.length)(I:Inv X pins (vs.map aa++fs) H s):Inv X pins (gR NT.length aj++fs) H s:=
 I.weak (by simp[hv]) λi v h=>by
  by_cases hi:i<NT.length
  .rw[p6 (by simpa using hi),Xd] at h;split at h<;>cases h
  .rw[pF (by simp;lia)] at h⊢;simpa[hv] using h
theorem yE.len{tg:Expr}{K:aM}{x:V}{H:Hp}{vs:List V}(tk:pU tg NT T)(h:yE K T x H vs):vs.length=NT.length:=by
 cases T with
 |one=>obtain⟨y,_,rfl⟩:=tk;rw[show vs=[x] from h];rfl
 |many n=>obtain⟨_,_,_,_,_,e⟩:=tk;obtain⟨_,_,_,e'⟩:=h;lia
theorem Ro{R:sH->aD->Prop}{fs:St}{H:Hp}{s:aD}{done:Hp->Prop}(hx:X.xe=λ_ _=>False)(hT:Er e 0 (.ref it) acc X.env=turnOf tg iter ifs (.ref it) X.env emit (again (.compLoop e 0 (.ref it) acc X.env)))
  (hq:(DY e 0 (.ref it) acc X.env).isFrame=aJ)(hqu:(DY e 0 (.ref it) acc X.env).quiet=ao)(hA:X.A.under (DY e 0 (.ref it) acc X.env)=X.A)
  (tk:pU tg NT T)(hN:X.N=NT++NF)(nd:X.N.Nodup)(hc:X.calm=ao)(hl:∀x∈NT,X.env.scope.names.lookup x=aa .local)
  (hts:oF X ifs ts)(hem:PM X emit em)(TT:Turn X.prog X.w X.K tg J fp it tn)(hf:∀b∈fp,kI X [] H b)(I:Inv X [] (gR NT.length aj++fs) H s)(st:tn 0 s.heap)(hb:yp X.K T ts em fs J H done)
  (hR:∀H' s' σ',Inv X [] σ' H' s'->done H'->R (.ok .next) s'):
  mC (model X.prog X.w) X.A (.compLoop e 0 (.ref it) acc X.env) R s:=by
 obtain⟨W,⟨m0,w0⟩,turn⟩:=hb
 have stat:∀{H':Hp},(∀b∈fp,H' b=aj)->∀b∈fp,kI X [] H' b:=λhn b hb=>⟨hn b hb,(hf b hb).2⟩
 have noE:∀{α:Type}{t:Sem α}{Q:α->aD->Prop}{E:Value->aD->Prop}{s:aD},aR (model X.prog X.w) X.A t Q (λ_ _=>False) s->aR (model X.prog X.w) X.A t Q E s:=λh=>pN h (λ_ _ z=>z) λ_ _ z=>z.elim
 have noX:∀{α:Type}{t:Sem α}{Q:α->aD->Prop}{E:Value->aD->Prop}{s:aD},aR (model X.prog X.w) X.A t Q X.xe s->aR (model X.prog X.w) X.A t Q E s:=λh=>noE (by rw[hx] at h;exact h)
 refine codeAny_loop hqu (λn s'=>∃i H',Inv X [] (gR NT.length aj++fs) H' s'/\tn i s'.heap/\(∀b∈fp,H' b=aj)/\W i n H') ?_ m0 ⟨0,H,I,st,λb hb=>(hf b hb).1,w0⟩;rintro n s3 ⟨i,H3,I3,st3,G5,w3⟩;rw[hA];show aR _ X.A (if(DY e 0 (.ref it) acc X.env).isFrame=ao then(Er e 0 (.ref it) acc X.env).onRaise (leaving X.env) else(Er e 0 (.ref it) acc X.env).onRaise (λx=>do noteFrame x X.env;theTreesLotGoes x)) _ _ s3;rw[hq,bH iI];refine wpAny_noted (noE ?_);rw[hT];unfold turnOf;refine aG (vh (aG ?_));rcases turn i n H3 w3 with⟨stop,qn⟩|⟨go,step⟩
 .refine bO (TT.done X rfl rfl rfl hc i [] s3 _ H3 _ I3 (stat G5) st3 stop) λr s4 aP=>?_
  obtain⟨hr,I4⟩:=aP
  subst hr;exact bh (hR H3 s4 _ I4 qn)
 .refine bO (TT.item X rfl rfl rfl hc i [] s3 _ H3 _ I3 (stat G5) st3 go) λr s4 aP=>?_
  obtain⟨u,hr,h4⟩:=aP
  subst hr;refine aG (bO h4 λ_ s5 aP=>?_)
  obtain⟨x,H5,I5,r5,y5,Ad,V9⟩:=aP
  have Wa:=I5.pinned (stat V9) (TT.obj _ _ Ad)
  obtain⟨vs,hv,q5⟩:=step x H5 y5
  have hvl:=yE.len tk hv;refine aG (amL tk hN nd hc hl Wa r5 hv λs6 I6=>?_);refine aG (noX (bO (hts _ s6 _ H5 _ I6 q5) λb s7 aP=>?_))
  obtain⟨H7,I7,q7⟩:=aP
  have acC:∀{s8:aD}{H8:Hp},Inv X ([]++Ft fp s5.heap) (vs.map aa++fs) H8 s8->(∃m',m'<n/\W (i+1) m' H8)->
    (DY e 0 (.ref it) acc X.env=DY e 0 (.ref it) acc X.env)/\∃m,m<n/\∃i H',Inv X [] (gR NT.length aj++fs) H' s8/\tn i s8.heap/\(∀b∈fp,H' b=aj)/\W i m H':=λ{s8 H8} I8 n8=>by
   obtain⟨m',hm,w8⟩:=n8
   refine⟨rfl,m',hm,i+1,H8,ajC hvl I8.J1,TT.keep _ _ _ Ad λb hb o e=>(I8.pin (b,o) (fK _ (fK _ (Jz hb e)))).1,λb hb=>?_,w8⟩
   obtain⟨o,e,d⟩:=TT.obj _ _ Ad b hb
   exact(I8.pin (b,o) (fK _ (fK _ (Jz hb e)))).2.1
  cases b with
  |false=>exact bh (acC I7 q7)
  |true=>exact aG (noX (bO (hem _ s7 _ H7 _ I7 q7) λ_ s8 ⟨H8,I8,q8⟩=>bh (acC I8 q8)))
end
structure Bk where
 cl:List (Str×aq)
 C:aq
 s:aD
 H:Hp
 fp:List aq
abbrev Cx.bk(X:Cx)(N:List Str)(scope:jO)(b:Bk):Cx:=X.blk N scope b.cl b.C b.s b.H b.fp
section
variable{X:Cx}{NT NF:List Str}{js:List Nat}{elt kx vx tg iter e:Expr}{ifs:List Expr}{T:iD}{wi:TI}{ts:Bk->TT}{te tk' tv:Bk->TE}{scope:jO}{pos:Pos}
def Wf(K:aM)(wi:TI)(T:iD)(ts:Bk->TT)(te:Bk->TE)(js:List Nat):TE:=λσ H Q=>wi σ H λJ H1=>∀D,H1 D=aj->∀b,yp K T (ts b) (Tg D (te b)) (frees js σ) J (upd H1 D (.lst [])) (Q (.ref D))
theorem acD{pins:List (aq×Obj)}{σ:St}{s2:aD}{H2:Hp}{cl:List (Str×aq)}{it:aq}{fp:List aq}{tn:Nat->bC->Prop}{J:It}{Q:Hp->Prop}{RR:Value->aq->sH->aD->Prop}{E:Value->aD->Prop}
  (B:qz X NT NF js scope)(tk:pU tg NT T)(hc:X.calm=ao)
  (hin:∀b,oF (X.bk (NT++NF) scope b) ifs (ts b)/\PE (X.bk (NT++NF) scope b) elt (te b))
  (q2:∀n c,cl.lookup n=aa c->X.env.cells.lookup n=aa c)(q3:∀y∈scope.names,y.2=.free->∃c,cl.lookup y.1=aa c)
  (I2:Inv X pins σ H2 s2)(TT:Turn X.prog X.w X.K tg J fp it tn)(st2:tn 0 s2.heap)(f2:∀b∈fp,kI X pins H2 b)
  (q:∀b,yp X.K T (ts b) (Tg s2.heap.objs.size (te b)) (frees js σ) J (upd H2 s2.heap.objs.size (.lst [])) Q)
  (hR:∀C H' s' m,Inv X pins σ H' s'->kI X pins H' C->s'.heap.Ns C m->Q H'->RR (.ref s2.heap.objs.size) C (.ok .next) s'):
  aR (model X.prog X.w) X.A (newList []) (λacc s₃=>aR (model X.prog X.w) X.A (Yw scope X.env.globals cl [] X.env.qual aj .none (aa X.env)) (λcenv s₄=>
   mC (model X.prog X.w) X.A (.compStart (.ListComp elt [⟨tg,iter,ifs,0⟩] scope pos) 0 (.ref it) acc {cenv with scope:=relabel scope X.env}) (RR acc cenv.locals) s₄) E s₃) E s2:=by
 refine mQ ?_;have hD:H2 s2.heap.objs.size=aj:=I2.hok.fresh (cg _);have I3:Inv X pins σ (upd H2 s2.heap.objs.size (.lst [])) {s2 with heap:=s2.heap.push {cls:=.type "list",dict:=aj,data:=.seq ([]:List Value).toArray}}:=
  I2.laid (t':=s2.toks) (λb o e=>cW _ e) (cg _) ⟨m9 _,[],0,.nil,iH _ rfl⟩
 have hsz:(s2.heap.push {cls:=.type "list",dict:=aj,data:=.seq ([]:List Value).toArray}).objs.size=s2.heap.objs.size+1:=wV ..;refine Xm B.cell (by intro y hy;simp at hy) (λh₁ hns₁ hsb₁=>?_) B.kind;have uZ:∀b∈fp,b<s2.heap.objs.size:=λb hb=>by
  obtain⟨o,e,_⟩:=TT.obj 0 _ st2 b hb
  exact cF e
 have f3:∀b∈fp,kI X pins (upd H2 s2.heap.objs.size (.lst [])) b:=λb hb=>⟨by rw[cV (eO (uZ b hb))];exact(f2 b hb).1,(f2 b hb).2⟩
 have keep:∀b o,(s2.heap.push {cls:=.type "list",dict:=aj,data:=.seq ([]:List Value).toArray}).get? b=aa o->h₁.get? b=aa o:=λb o e=>
  hsb₁.extBut b o (eO (cF e)) (cW _ e)
 have yF:∀b∈fp,b<(s2.heap.push {cls:=.type "list",dict:=aj,data:=.seq ([]:List Value).toArray}).objs.size:=λb hb=>by have:=uZ b hb;rw[hsz];exact wO this
 have I4:=I3.blk (s1:={s2 with heap:=h₁,toks:=s2.toks+([]:List (Str×Value)).length}) B q2 q3 f3 yF hns₁ keep rfl I2.bare;have yG:tn 0 h₁:=TT.keep 0 _ _ st2 λb _ o e=>keep b o (cW _ e)
 obtain⟨i1,i2⟩:=hin ⟨cl,(s2.heap.push {cls:=.type "list",dict:=aj,data:=.seq ([]:List Value).toArray}).objs.size,{s2 with heap:=s2.heap.push {cls:=.type "list",dict:=aj,data:=.seq ([]:List Value).toArray}},upd H2 s2.heap.objs.size (.lst []),fp⟩
 have loop:mC (model X.prog X.w) X.A (.compLoop (.ListComp elt [⟨tg,iter,ifs,0⟩] scope pos) 0 (.ref it) (.ref s2.heap.objs.size) (Rn scope cl (s2.heap.push {cls:=.type "list",dict:=aj,data:=.seq ([]:List Value).toArray}).objs.size X.env))
   (RR (.ref s2.heap.objs.size) (s2.heap.push {cls:=.type "list",dict:=aj,data:=.seq ([]:List Value).toArray}).objs.size) {s2 with heap:=h₁,toks:=s2.toks+([]:List (Str×Value)).length}:=by
  refine Ro (X:=X.blk (NT++NF) scope cl (s2.heap.push {cls:=.type "list",dict:=aj,data:=.seq ([]:List Value).toArray}).objs.size {s2 with heap:=s2.heap.push {cls:=.type "list",dict:=aj,data:=.seq ([]:List Value).toArray}} (upd H2 s2.heap.objs.size (.lst [])) fp)
   (T:=T) (fs:=frees js σ) (done:=Q) rfl (ahN elt tg iter ifs scope pos _ _ _) rfl rfl rfl tk rfl B.nd hc (λx hx=>Xn (B.tg x hx)) i1 (aiH i2) TT (λb hb=>?_) I4 yG (q _) λH' s' σ' J' qd=>?_
  .exact⟨(f3 b hb).1,eO (yF b hb),λhb2=>by
    rcases cB.mp (I3.BZ b hb2) with z|z
    .exact(f3 b hb).2.1 z
    .exact(f3 b hb).2.2.1 z,.inl hb,λx c e=>(f3 b hb).2.2.2.2.1 x c (q2 x c e),λp hp=>(nomatch(show p∈([]:List (aq×Obj)) from hp))⟩
  .obtain⟨m,hn,_⟩:=J'.loc
   exact hR _ H' s' m (I3.Vi f3 J') (I3.vQ (cg _) J'.free) hn qd
 exact codeAny_compStart_list loop (TT.self _ 0 _ _ _ yG loop)
theorem an7(B:qz X NT NF js scope)(tk:pU tg NT T)(hc:X.calm=ao)(hi:PI X tg iter wi)
  (hin:∀b,oF (X.bk (NT++NF) scope b) ifs (ts b)/\PE (X.bk (NT++NF) scope b) elt (te b))
  (hs:∀x,vf iter X.env x=pure x:=by intro _;rfl):PE X (.ListComp elt [⟨tg,iter,ifs,0⟩] scope pos) (Wf X.K wi T ts te js):=by
 intro pins s σ H Q I h
 obtain⟨cl,hclos,q2,q3⟩:=JC (env:=X.env) (scope:=scope) λy hy e=>I.ok.has y.1 (B.free y hy e)
 rw[eval_ListComp];refine Nu (use:=aj) rfl hs hclos B.kind B.names (bO (hi pins s σ H _ I h) λv s1 h1=>bO h1 λitv s2 aP=>?_)
 obtain⟨it,fp,tn,J,H2,e,I2,TT,st2,f2,q⟩:=aP
 subst e;refine acD (Q:=λH'=>Q (.ref s2.heap.objs.size) H') (RR:=λacc C=>Rp (model X.prog X.w) X.A X.xe aj (EP X pins σ Q) acc C) B tk hc hin q2 q3 I2 TT st2 f2 (q _ (I2.hok.fresh (cg _))) λC H' s' m I' fC hn qd=>?_
 refine⟨m,hn,λh' sb=>⟨.ref s2.heap.objs.size,H',?_,rfl,qd⟩⟩
 exact I'.turned (t':=s'.toks) (λb o hb e=>(sb.2 b hb).trans e) fC.1 fC.2.1 fC.2.2.2.1 fC.2.2.2.2.1 fC.2.2.2.2.2
theorem ajD(B:qz X NT NF js scope)(tk:pU tg NT T)(hc:X.calm=ao)(hi:PI X tg iter wi)
  (hin:∀b,oF (X.bk (NT++NF) scope b) ifs (ts b)/\PE (X.bk (NT++NF) scope b) elt (te b))
  (hsw:ux (.ListComp elt [⟨tg,iter,ifs,0⟩] scope pos) (aa (.Name y pos')) spos.line X.env=pure ao)
  (hN:X.N.Nodup)(hI:X.N[i]?=aa y)(hy:X.env.scope.names.lookup y=aa .local)
  (hs:∀x,vf iter X.env x=pure x:=by intro _;rfl):PS X (.Assign [.Name y pos'] (.ListComp elt [⟨tg,iter,ifs,0⟩] scope pos) spos) (Df (Wf X.K wi T ts te js) (xR i)):=by
 intro pins s σ H D I h
 obtain⟨cl,hclos,q2,q3⟩:=JC (env:=X.env) (scope:=scope) λy hy e=>I.ok.has y.1 (B.free y hy e)
 rw[afr _ _ _ _ hsw];refine aG (vh (aG ?_));show aR _ X.A (do let _ <-YW (.ListComp elt [⟨tg,iter,ifs,0⟩] scope pos) scope X.env _ (newList []) aJ (eval iter X.env) (aa (assign (.Name y pos') X.env))) _ _ s;refine aG (pN (Nu (use:=aa (assign (.Name y pos') X.env)) (Q:=λ_ s'=>SP X pins D .next s') rfl hs hclos B.kind B.names
  (bO (hi pins s σ H _ I h) λv s1 h1=>bO h1 λitv s2 ⟨it,fp,tn,J,H2,e,I2,TT,st2,f2,q⟩=>?_)) (λ_ s' hq=>bh (bh hq)) λ_ _ e=>e)
 subst e;refine acD (Q:=λH'=>D.nx (σ.set i (aa (.ref s2.heap.objs.size))) H') (RR:=λacc C=>Rp (model X.prog X.w) X.A X.xe (aa (assign (.Name y pos') X.env)) (λ_ s'=>SP X pins D .next s') acc C) B tk hc hin q2 q3 I2 TT st2 f2 (q _ (I2.hok.fresh (cg _))) λC H' s' m I' fC hn qd=>?_
 show aR _ X.A (assign (.Name y pos') X.env (.ref s2.heap.objs.size)) _ _ _;refine Ih (QL I' hN hI (.inl hy) (v:=.ref s2.heap.objs.size) rfl (λs3 I3 aP=>?_) (.inr hy))
 obtain⟨a,sb,ha⟩:=aP
 have Wg:C≠a:=by
  rcases ha with z|z
  .rw[z];exact fC.2.1
  .exact λw=>fC.2.2.2.2.1 y a z w.symm
 refine⟨m,hn.sameBut sb Wg,λh' sb'=>⟨_,H',?_,qd⟩⟩
 exact I3.turned (t':=s3.toks) (λb o hb e=>(sb'.2 b hb).trans e) fC.1 fC.2.1 fC.2.2.2.1 fC.2.2.2.2.1 fC.2.2.2.2.2
end
def Wh(z:Str):It:=⟨λi _=>i<z.cps.size,λi H x H'=>H'=H/\∃c,z.cps[i]?=aa c/\x=.str ⟨#[c]⟩,λi _=>z.cps.size<=i⟩
theorem ajE{P:bL}{w:bI}{K:aM}{tg:Expr}{z:Str}{t:Tok}{ty:String}{it:aq}(hty:ty="str_ascii_iterator"\/ty="str_iterator")(hgo:∀i u,yU tg i u=pure ()):
  Turn P w K tg (Wh z) [it] it (λi h=>h.IsStrIter it ty z t i) where
 mem:=by simp
 obj:=λi h st b hb=>by
  have e:b=it:=by simpa using hb
  subst e
  obtain⟨o,e,c,d⟩:=st
  exact⟨o,e,λv q=>by rw[d] at q;cases q⟩
 keep:=λi h h' st k=>let ⟨o,ho,r⟩:=st;⟨o,k it (by simp) o ho,r⟩
 item:=by
  intro X hP hw hK hc i pins s σ H E I hf st hg;subst hP hw hK
  obtain⟨f0,f1,f2,f3,f4,f5⟩:=hf it (by simp)
  have hi:i<z.cps.size:=hg;have W:zP X.prog X.w X.A it [it] [it] z.cps.size (SignAt z) (λi h=>h.IsStrIter it ty z t i):=by
   rcases hty with rfl|rfl
   .exact Walks.strAscii (I.ok.hd hc) it z t
   .exact Walks.strWide (I.ok.hd hc) it z t
  refine W.item i s _ _ hi st λv h' tk hv st' kk=>?_
  obtain⟨c,u,hc',rfl⟩:=hv
  have I1:Inv X pins σ H {s with heap:=h',toks:=tk}:=I.turned (λb o hb e=>kk b o (by simpa using hb) e) f0 f1 f3 f4 f5
  refine⟨_,rfl,?_⟩
  rw[hgo];exact bh ⟨.str ⟨#[c]⟩,H,I1,⟨u,rfl⟩,⟨rfl,c,hc',rfl⟩,st',λb hb=>(hf b hb).1⟩
 done:=by
  intro X hP hw hK hc i pins s σ H E I hf st hg;subst hP hw hK
  obtain⟨f0,f1,f2,f3,f4,f5⟩:=hf it (by simp)
  have hi:z.cps.size<=i:=hg;rcases hty with rfl|rfl
  .exact wpAny_pyNext_ascii_end (I.ok.hd hc) st (by simpa using hi) λh' eb=>⟨rfl,I.turned (t':=s.toks) (λb o hb e=>eb b o hb e) f0 f1 f3 f4 f5⟩
  .exact wpAny_pyNext_wide_end (I.ok.hd hc) st (by simpa using hi) λh' eb=>⟨rfl,I.turned (t':=s.toks) (λb o hb e=>eb b o hb e) f0 f1 f3 f4 f5⟩
 self:=λ_ _ _ _ _ st h=>by
  rcases hty with rfl|rfl
  .exact wpAny_pyIter_striter_ascii st h
  .exact wpAny_pyIter_striter_wide st h
section
variable{X:Cx}{tg:Expr}
def ao4(tl:TE):TI:=λσ H R=>tl σ H λx H1=>∃z,x=.str z/\R (Wh z) H1
theorem acE{l:Expr}{tl:TE}(hl:PE X l tl)(hgo:∀i u,yU tg i u=pure ():=by intro _ _;rfl):PI X tg l (ao4 tl):=by
 intro pins s σ H R I h;refine bO (hl pins s σ H _ I h) λv s1 aP=>?_
 obtain⟨x,H1,I1,r1,q1⟩:=aP
 obtain⟨z,e,q⟩:=q1
 subst e
 obtain⟨t,rfl⟩:=r1
 have fin:∀(o:Obj)(ty:String),(ty="str_ascii_iterator"\/ty="str_iterator")->Heap.IsStrIter (s1.heap.push o) s1.heap.objs.size ty z t 0->PIE X pins σ tg R (.ref s1.heap.objs.size) {s1 with heap:=s1.heap.push o}:=λo ty hty st=>by
  refine⟨s1.heap.objs.size,[s1.heap.objs.size],_,_,H1,rfl,I1.kept (t':=s1.toks) λb o e=>cW _ e,ajE hty hgo,st,λb hb=>?_,q⟩
  have e:b=s1.heap.objs.size:=by simpa using hb
  subst e;exact I1.vQ (cg _) (I1.hok.fresh (cg _))
 cases ha:z.cps.all (·<128)
 .exact wpAny_pyIter_wide ha (fin _ _ (.inr rfl) ⟨_,iH _ rfl,rfl,rfl⟩)
 .exact wpAny_pyIter_ascii ha (fin _ _ (.inl rfl) ⟨_,iH _ rfl,rfl,rfl⟩)
theorem aiI:dm X (fU .LtE) (λx y H Q=>∃i j,x=.str i/\y=.str j/\Q (.bl (!(decide (j.cps.toList<i.cps.toList)))) H):=by
 intro pins s σ H x y v u Q I rx ry h
 obtain⟨i,j,rfl,rfl,q⟩:=h
 obtain⟨t,rfl⟩:=rx
 obtain⟨t',rfl⟩:=ry
 exact PySem.P.le_str (gJ I q rfl)
theorem JD:∀{ys:List Str}{us:List Value},Vals (ys.map V.str) us->StrsAre us ys
 |[],_,h=>by cases h;exact .nil
 |y::ys,_,h=>by
  cases h with
  |cons r rr=>
   obtain⟨t,rfl⟩:=r
   exact .cons y t (JD rr)
theorem ak2:tW X "str.join" (λx xs H Q=>∃z p ys,x=.str z/\xs=[.ref p]/\bR X.K H p (ys.map V.str)/\(ys.map (·.length)).sum+ys.length*z.length<=16777216/\Q (.str (Txt.join z ys)) H):=by
 intro pins s σ H x xs v us Q I rx r h
 obtain⟨z,p,ys,rfl,rfl,hp,hz,q⟩:=h
 obtain⟨t,rfl⟩:=rx
 obtain⟨u,rfl,ru⟩:=vals1 r
 cases ru
 obtain⟨its,rv,pl,_⟩:=I.list hp
 exact join_list pl.isList (by simpa using JD rv) hz λt' k=>⟨.str _,H,I.tok _,⟨_,rfl⟩,q⟩
end
section
variable{X:Cx}
theorem part_of(h:uG v o):∃l:Option (Int×Tok),v=partValue l/\l.map (·.1)=o:=by
 cases h with
 |none=>exact⟨aj,rfl,rfl⟩
 |int i t=>exact⟨aa (i,t),rfl,rfl⟩
theorem amM:vZ X (λx lo hi H Q=>∃z,x=.str z/\z.length<=cu/\Q (.str (Txt.slice z lo hi)) H):=by
 intro pins s σ H x v vl vu lo hi sl Q I rx hs pl pu h
 obtain⟨z,rfl,hz,q⟩:=h
 obtain⟨t,rfl⟩:=rx
 obtain⟨l,rfl,rfl⟩:=part_of pl
 obtain⟨u,rfl,rfl⟩:=part_of pu
 refine⟨"str",_,F.slot_str_getitem.lookup,ZJ s z t,?_⟩
 exact wpAny_getItem_str_slice (l:=l) (u:=u) (st:=aj) hs rfl (post_val_or_str ⟨j7 (Txt.slice_le z _ _) hz,λt' k=>⟨.str _,H,I.tok _,⟨t',rfl⟩,q⟩⟩)
theorem aaM:∀{bs:List Bool}{us:List Value},Vals (bs.map V.bl) us->us=bs.map qQ
 |[],_,h=>by cases h;rfl
 |b::bs,_,h=>by
  cases h with
  |cons r rr=>
   cases r;rw[aaM rr];rfl
theorem ajF(hc:X.calm=ao):ie X (.builtin "all") (λxs H Q=>∃(p:aq)(bs:List Bool),xs=[.ref p]/\bR X.K H p (bs.map V.bl)/\Q (.bl (bs.all id)) H):=by
 intro pins s σ H xs us Q I r h
 obtain⟨p,bs,rfl,hp,q⟩:=h
 obtain⟨u,rfl,ru⟩:=vals1 r
 cases ru
 obtain⟨its,rv,pl,_⟩:=I.list hp
 have hl:=pl.isList;have e0:=aaM rv;subst e0;have hlt:p<s.heap.objs.size:=by obtain⟨_,e,_⟩:=hl;exact cF e
 refine call_all_walk (XF hl ?_)
 refine⟨s.heap.objs.size,[s.heap.objs.size,p],[s.heap.objs.size],(bs.map qQ).toArray.size,_,_,λi=>(bs[i]?).getD ao,rfl,ahP (A:=X.A.in1) (I.ok.hd hc) _ p (eO hlt) (bs.map qQ).toArray,
  ⟨⟨_,iH _ rfl,rfl,rfl⟩,hl.push _⟩,λi v s' Q' E' hP hQ=>?_,λh' tk hk=>?_⟩
 .have hP':(bs.map qQ)[i]?=aa v:=by simpa using hP
  rw[iJ] at hP';cases e:bs[i]? with
  |none=>rw[e] at hP';cases hP'
  |some b=>
   rw[e] at hP';cases hP';simp only[e,Ik] at hQ;exact wN hQ
 .have e:((fB (bs.map qQ).toArray.size).all λi=>(bs[i]?).getD ao)=bs.all id:=by
   have:(bs.map qQ).toArray.size=bs.length:=by simp
   rw[this,rO,oG,oG];constructor
   .intro h b hb
    obtain⟨i,hi,rfl⟩:=wL hb
    have:=h i (qP.mpr hi);simpa[jJ hi] using this
   .intro h i hi;have hi':=qP.mp hi;simp only[jJ hi',Ik];exact h _ (yS hi')
  rw[e]
  refine⟨.bl _,H,I.kept λb x e=>hk b x (λhm=>?_) (cW _ e),rfl,q⟩
  rw[iY.mp hm] at e;exact wW _ (cF e)
end
mutual
def RD(K:aM)(H:Hp):au->V->Prop
 |.none,v=>v=.non
 |.bool b,v=>v=.bl b
 |.int i,v=>v=.int i
 |.str x,v=>v=.str x
 |.tuple ds,v=>∃a vs,v=.ref a/\dj K H a vs/\pD K H ds vs
 |.list ds,v=>∃a vs,v=.ref a/\bR K H a vs/\pD K H ds vs
 |.dict _,_=>False
def pD(K:aM)(H:Hp):List au->List V->Prop
 |[],vs=>vs=[]
 |d::ds,vs=>∃v r,vs=v::r/\RD K H d v/\pD K H ds r
end
theorem dj.same{K:aM}{H H':Hp}{a:aq}{xs:List V}(e:∀b ys,H b=aa (.tup ys)->H' b=aa (.tup ys))(ef:∀b o u,H b=aa (.m6 o u)->H' b=aa (.m6 o u))(h:dj K H a xs):dj K H' a xs:=by
 rcases h with(h|⟨o,h⟩)|h
 .exact .inl (.inl (e _ _ h))
 .exact .inl (.inr ⟨o,ef _ _ _ h⟩)
 .exact .inr h
mutual
theorem RD.same{K:aM}{H H':Hp}(e:bN H H'):∀{d:au}{v:V},RD K H d v->RD K H' d v
 |.none,_,h=>h
 |.bool _,_,h=>h
 |.int _,_,h=>h
 |.str _,_,h=>h
 |.tuple ds,v,h=>by
  obtain⟨a,vs,e1,q,r⟩:=h
  exact⟨a,vs,e1,q.same (λb ys z=>e _ _ z) (λb o u z=>e _ _ z),pD.same e r⟩
 |.list ds,v,h=>by
  obtain⟨a,vs,e1,q,r⟩:=h
  exact⟨a,vs,e1,e.seq q,pD.same e r⟩
theorem pD.same{K:aM}{H H':Hp}(e:bN H H'):∀{ds:List au}{vs:List V},pD K H ds vs->pD K H' ds vs
 |[],_,h=>h
 |d::ds,vs,h=>by
  obtain⟨v,r,e1,q,t⟩:=h
  exact⟨v,r,e1,RD.same e q,pD.same e t⟩
end
section
variable{X:Cx}{pins:List (aq×Obj)}{σ:St}{H:Hp}{s:aD}
mutual
theorem RD.reads(I:Inv X pins σ H s):∀{d:au}{v:V}{u:Value},RD X.K H d v->RelV v u->∃as,Reads s.heap u d as
 |.none,_,_,h,r=>by
  cases(show _=V.non from h)
  cases r
  exact⟨_,.none⟩
 |.bool b,_,_,h,r=>by
  cases(show _=V.bl b from h)
  cases r
  exact⟨_,.bool b⟩
 |.int i,_,_,h,r=>by
  cases(show _=V.int i from h)
  obtain⟨t,rfl⟩:=r
  exact⟨_,.int i t⟩
 |.str x,_,_,h,r=>by
  cases(show _=V.str x from h)
  obtain⟨t,rfl⟩:=r
  exact⟨_,.str x t⟩
 |.tuple ds,v,u,h,r=>by
  obtain⟨a,vs,e1,q,t⟩:=h
  subst e1;cases r
  obtain⟨its,rv,⟨o,e,c,n,d⟩,_⟩:=I.tuple q
  obtain⟨as,R⟩:=pD.reads I t rv
  exact⟨_,.tuple e c d (by simpa using R)⟩
 |.list ds,v,u,h,r=>by
  obtain⟨a,vs,e1,q,t⟩:=h
  subst e1;cases r
  obtain⟨its,rv,⟨o,n,e,c,_,d⟩,_⟩:=I.list q
  obtain⟨as,R⟩:=pD.reads I t rv
  exact⟨_,.list e c d (by simpa using R)⟩
theorem pD.reads(I:Inv X pins σ H s):∀{ds:List au}{vs:List V}{us:List Value},pD X.K H ds vs->Vals vs us->∃as,ReadsAll s.heap us ds as
 |[],_,_,h,r=>by
  cases(show _=[] from h)
  cases r
  exact⟨_,.nil⟩
 |d::ds,vs,us,h,r=>by
  obtain⟨v,rr,e1,q,t⟩:=h
  subst e1;cases r with
  |cons r1 r2=>
   obtain⟨as,R⟩:=RD.reads I q r1
   obtain⟨bs,R2⟩:=pD.reads I t r2
   exact⟨_,.cons R R2⟩
end
end
section
variable{X:Cx}
end
def acF(mL:jO)(N0 NT NF:List Str)(js:List Nat)(scope:jO):Bool:=
 scope.kind==.function&&scope.names.all (λy=>!(y.2==.local)||scope.names.lookup y.1==some .local)&&scope.names.all (λy=>!(y.2==.cell))&&
  scope.names.all (λy=>!(y.2==.free)||(mL.names.lookup y.1==aa .cell||mL.names.lookup y.1==aa .free))&&js.length==NF.length&&
  (js.zip NF).all (λp=>N0[p.1]?==aa p.2&&scope.names.lookup p.2==aa .free)&&NT.all (λx=>scope.names.lookup x==aa .local)&&decide (NT++NF).Nodup
theorem o7.ok(h:acF mL N0 NT NF js scope=ao)(ho:X.env.scope=mL)(hN:X.N=N0):qz X NT NF js scope:=by
 unfold acF at h;simp only[jK] at h
 obtain⟨⟨⟨⟨⟨⟨⟨h1,h2⟩,h3⟩,h4⟩,h5⟩,h6⟩,h7⟩,h8⟩:=h
 refine⟨eq_of_beq h1,λy hy e=>?_,λy hy e=>?_,λy hy e=>?_,by simpa using h5,λk j x ej ex=>?_,λx hx=>?_,of_decide_eq_true h8⟩
 .have:=oG.mp h2 y hy;rw[e] at this;simpa using this
 .have:=oG.mp h3 y hy;rw[e] at this;simp at this
 .have:=oG.mp h4 y hy;rw[e] at this;rw[ho];simpa using this
 .have hm:(j,x)∈js.zip NF:=by
   have:(js.zip NF)[k]?=aa (j,x):=by
    rw[List.getElem?_zip_eq_some]
    exact⟨ej,ex⟩
   exact p7 this
  have:=oG.mp h6 _ hm;simp only[jK] at this;rw[hN]
  exact⟨eq_of_beq this.1,eq_of_beq this.2⟩
 .exact eq_of_beq (oG.mp h7 x hx)
structure dR(P:bL)(w:bI)(K:aM)(mg:Str->Option Value)(base:bC)(x:Str)(k:Nat)(ps:List Str)(sp:Sp):Prop where
 ex:∃(f:aq)(fd:dZ),mg x=aa (.ref f)/\wU K (.ref f)=ao/\Binds K fd ps []/\dX P w K mg base fZ k f fd ps sp
section
variable{X:Cx}{x:Str}{k:Nat}{ps:List Str}{sp:Sp}{p pos:Pos}{e:Expr}{es:List Expr}{t:TA}
theorem adq(F:dR X.prog X.w X.K X.mg X.base x k ps sp)(hr:jg k X.A)(hg:Gl X x)(ha:PA X (e::es) t)(hdb:(x==("__debug__":Str))=aJ:=by decide)
  (he:bJ (e::es) X.env=(aJ,eval e X.env)::bJ es X.env:=by rfl)(hpl:(gH pos (bJ es X.env)).any (·.1)=aJ:=by rfl):
  PE X (.Call (.Name x p) (e::es) [] pos) (Vf sp [] E0 t):=by
 obtain⟨f,fd,h1,h2,h3,h4⟩:=F.ex
 exact akN h4 hr hg h1 h2 h3 .nil an6 ha hdb he hpl
theorem ahw:ie X (.builtin "isinstance") (λxs H Q=>∃x n t b,xs=[x,.ty n]/\nO X.K H x t/\Az X.K t (.type n)=aa b/\Q (.bl b) H):=by
 intro pins s σ H xs us Q I r h
 obtain⟨x,n,t,b,rfl,ty,e,q⟩:=h
 obtain⟨u,u2,rfl,r1,r2⟩:=vals2 r
 cases r2;exact aiw I r1 ty e λtk=>⟨.bl b,H,I.tok tk,rfl,q⟩
end
structure Fx(K:aM)(T:iD)(J:It)(n:Nat)(vs:Nat->List V)(G:Hp->Prop):Prop where
 go:∀i H,i<n->G H->J.go i H
 yC:∀i H x H',i<n->G H->J.yC i H x H'->H'=H/\yE K T x H (vs i)
 stop:∀H,G H->J.stop n H
section
variable{K:aM}{T:iD}{J:It}{n:Nat}{vs:Nat->List V}{G:Hp->Prop}{ts:TT}{te:TE}{fs:St}{H1:Hp}{D:aq}{done:Hp->Prop}
end
theorem ak3(h:n<=m)(hm:m<=16777216:=by decide):n<=cu:=by rw[iK];lia
section
variable{K:aM}{T:iD}{J:It}{n:Nat}{vs:Nat->List V}{G:Hp->Prop}{te:TE}{fs:St}{H1:Hp}{D:aq}{done:Hp->Prop}
end
section
variable{X:Cx}
theorem tW.r{id:String}{r:V->List V->Hp->VK->Prop}(h:tW X id r):Dp X id r:=h
end
def Ext(p:aq)(H H':Hp):Prop:=∀b o,H b=aa o->b≠p->H' b=aa o
theorem Ext.refl(p:aq)(H:Hp):Ext p H H:=λ_ _ h _=>h
theorem Ext.trans(a:Ext p H H1)(b:Ext p H1 H2):Ext p H H2:=λc o h hc=>b c o (a c o h hc) hc
theorem bN.ext(s:bN H H'):Ext p H H':=λb o h _=>s b o h
theorem Ext.upd:Ext p H (upd H p o):=λb u h hb=>by rw[cV hb];exact h
theorem bN.upd(h:H p=aj):bN H (L2.upd H p o):=λb u e=>by rw[cV (pM e h)];exact e
def VM(D:aq)(tk tv:TE):TM:=λσ H Q=>tk σ H λy H1=>tv σ H1 λz H2=>∃kvs k,H2 D=aa (.dK kvs)/\y=kV k/\kvs.length<cu/\Q (upd H2 D (.dK (putK kvs k z)))
theorem amN(hu:X.A.units+1<gj)(hk:PE X kx tk)(hv:PE X vx tv):PM X (do
      let kv <-eval kx X.env
      let vv <-qX [kv] (eval vx X.env)
      uC {kx.pos with endLine:=vx.pos.endLine,endCol:=vx.pos.endCol}
      qX [kv,vv] (dictSet D kv vv)) (VM D tk tv):=by
 intro pins s σ H Q I h;refine aG (bO (hk pins s σ H _ I h) λkv s1 aP=>?_)
 obtain⟨y,H1,I1,r1,q1⟩:=aP
 refine aG (mV (bO (hv pins s1 σ H1 _ I1 q1) λvv s2 aP=>?_))
 obtain⟨z,H2,I2,r2,kvs,k,hD,ey,hl,q2⟩:=aP
 subst ey;refine aG (vh (mV ?_))
 obtain⟨z1,hd,vs,rel,dd⟩:=Lp I2.hok hD
 have hz:vs.length<=cu:=by rw[<-rel.length];exact z1
 have hl2:(putK kvs k z).length<=cu:=by have:=Jp kvs k z;lia
 refine wpAny_dictSet_pairs (hsz:=hz) (xT r1) dd λh' uY hs=>⟨_,?_,q2⟩
 have he:∃q,h'.get? D=aa q:=let ⟨q,_,_,hq,_⟩:=uY;⟨q,hq⟩
 exact zx I2 (by rw[hD];exact nj) hs he (K8 hl2 hd (rel.put k r2) uY)
section
variable{X:Cx}{NT NF:List Str}{js:List Nat}{elt kx vx tg iter e:Expr}{ifs:List Expr}{T:iD}{wi:TI}{ts:Bk->TT}{te tk' tv:Bk->TE}{scope:jO}{pos:Pos}
def tDC(K:aM)(wi:TI)(T:iD)(ts:Bk->TT)(tk' tv:Bk->TE)(js:List Nat):TE:=λσ H Q=>wi σ H λJ H1=>∀D,H1 D=aj->∀b,yp K T (ts b) (VM D (tk' b) (tv b)) (frees js σ) J (upd H1 D (.dK [])) (Q (.ref D))
theorem amO{pins:List (aq×Obj)}{σ:St}{s2:aD}{H2:Hp}{cl:List (Str×aq)}{it:aq}{fp:List aq}{tn:Nat->bC->Prop}{J:It}{Q:Hp->Prop}{RR:Value->aq->sH->aD->Prop}{E:Value->aD->Prop}
  (B:qz X NT NF js scope)(tk:pU tg NT T)(hc:X.calm=ao)(hu:X.A.units+1<gj)
  (hin:∀b,oF (X.bk (NT++NF) scope b) ifs (ts b)/\PE (X.bk (NT++NF) scope b) kx (tk' b)/\PE (X.bk (NT++NF) scope b) vx (tv b))
  (q2:∀n c,cl.lookup n=aa c->X.env.cells.lookup n=aa c)(q3:∀y∈scope.names,y.2=.free->∃c,cl.lookup y.1=aa c)
  (I2:Inv X pins σ H2 s2)(TT:Turn X.prog X.w X.K tg J fp it tn)(st2:tn 0 s2.heap)(f2:∀b∈fp,kI X pins H2 b)
  (q:∀b,yp X.K T (ts b) (VM s2.heap.objs.size (tk' b) (tv b)) (frees js σ) J (upd H2 s2.heap.objs.size (.dK [])) Q)
  (hR:∀C H' s' m,Inv X pins σ H' s'->kI X pins H' C->s'.heap.Ns C m->Q H'->RR (.ref s2.heap.objs.size) C (.ok .next) s'):
  aR (model X.prog X.w) X.A (newDict) (λacc s₃=>aR (model X.prog X.w) X.A (Yw scope X.env.globals cl [] X.env.qual aj .none (aa X.env)) (λcenv s₄=>
   mC (model X.prog X.w) X.A (.compStart (.DictComp kx vx [⟨tg,iter,ifs,0⟩] scope pos) 0 (.ref it) acc {cenv with scope:=relabel scope X.env}) (RR acc cenv.locals) s₄) E s₃) E s2:=by
 refine mQ ?_;have hD:H2 s2.heap.objs.size=aj:=I2.hok.fresh (cg _);have I3:Inv X pins σ (upd H2 s2.heap.objs.size (.dK [])) {s2 with heap:=s2.heap.push {cls:=.type "dict",dict:=aj,data:=.dict #[]}}:=
  I2.laid (t':=s2.toks) (λb o e=>cW _ e) (cg _) (Rm s2.heap I2.big)
 have hsz:(s2.heap.push {cls:=.type "dict",dict:=aj,data:=.dict #[]}).objs.size=s2.heap.objs.size+1:=wV ..;refine Xm B.cell (by intro y hy;simp at hy) (λh₁ hns₁ hsb₁=>?_) B.kind;have uZ:∀b∈fp,b<s2.heap.objs.size:=λb hb=>by
  obtain⟨o,e,_⟩:=TT.obj 0 _ st2 b hb
  exact cF e
 have f3:∀b∈fp,kI X pins (upd H2 s2.heap.objs.size (.dK [])) b:=λb hb=>⟨by rw[cV (eO (uZ b hb))];exact(f2 b hb).1,(f2 b hb).2⟩
 have keep:∀b o,(s2.heap.push {cls:=.type "dict",dict:=aj,data:=.dict #[]}).get? b=aa o->h₁.get? b=aa o:=λb o e=>
  hsb₁.extBut b o (eO (cF e)) (cW _ e)
 have yF:∀b∈fp,b<(s2.heap.push {cls:=.type "dict",dict:=aj,data:=.dict #[]}).objs.size:=λb hb=>by have:=uZ b hb;rw[hsz];exact wO this
 have I4:=I3.blk (s1:={s2 with heap:=h₁,toks:=s2.toks+([]:List (Str×Value)).length}) B q2 q3 f3 yF hns₁ keep rfl I2.bare;have yG:tn 0 h₁:=TT.keep 0 _ _ st2 λb _ o e=>keep b o (cW _ e)
 obtain⟨i1,i2,i3⟩:=hin ⟨cl,(s2.heap.push {cls:=.type "dict",dict:=aj,data:=.dict #[]}).objs.size,{s2 with heap:=s2.heap.push {cls:=.type "dict",dict:=aj,data:=.dict #[]}},upd H2 s2.heap.objs.size (.dK []),fp⟩
 have loop:mC (model X.prog X.w) X.A (.compLoop (.DictComp kx vx [⟨tg,iter,ifs,0⟩] scope pos) 0 (.ref it) (.ref s2.heap.objs.size) (Rn scope cl (s2.heap.push {cls:=.type "dict",dict:=aj,data:=.dict #[]}).objs.size X.env))
   (RR (.ref s2.heap.objs.size) (s2.heap.push {cls:=.type "dict",dict:=aj,data:=.dict #[]}).objs.size) {s2 with heap:=h₁,toks:=s2.toks+([]:List (Str×Value)).length}:=by
  refine Ro (X:=X.blk (NT++NF) scope cl (s2.heap.push {cls:=.type "dict",dict:=aj,data:=.dict #[]}).objs.size {s2 with heap:=s2.heap.push {cls:=.type "dict",dict:=aj,data:=.dict #[]}} (upd H2 s2.heap.objs.size (.dK [])) fp)
   (T:=T) (fs:=frees js σ) (done:=Q) rfl (ahO kx vx tg iter ifs scope pos _ _ _) rfl rfl rfl tk rfl B.nd hc (λx hx=>Xn (B.tg x hx)) i1 (amN hu i2 i3) TT (λb hb=>?_) I4 yG (q _) λH' s' σ' J' qd=>?_
  .exact⟨(f3 b hb).1,eO (yF b hb),λhb2=>by
    rcases cB.mp (I3.BZ b hb2) with z|z
    .exact(f3 b hb).2.1 z
    .exact(f3 b hb).2.2.1 z,.inl hb,λx c e=>(f3 b hb).2.2.2.2.1 x c (q2 x c e),λp hp=>(nomatch(show p∈([]:List (aq×Obj)) from hp))⟩
  .obtain⟨m,hn,_⟩:=J'.loc
   exact hR _ H' s' m (I3.Vi f3 J') (I3.vQ (cg _) J'.free) hn qd
 exact codeAny_compStart_dict loop (TT.self _ 0 _ _ _ yG loop)
theorem ajG(B:qz X NT NF js scope)(tk:pU tg NT T)(hc:X.calm=ao)(hu:X.A.units+1<gj)(hi:PI X tg iter wi)
  (hin:∀b,oF (X.bk (NT++NF) scope b) ifs (ts b)/\PE (X.bk (NT++NF) scope b) kx (tk' b)/\PE (X.bk (NT++NF) scope b) vx (tv b))
  (hsw:ux (.DictComp kx vx [⟨tg,iter,ifs,0⟩] scope pos) (aa (.Name y pos')) spos.line X.env=pure ao)
  (hN:X.N.Nodup)(hI:X.N[i]?=aa y)(hy:X.env.scope.names.lookup y=aa .local)
  (hs:∀x,vf iter X.env x=pure x:=by intro _;rfl):PS X (.Assign [.Name y pos'] (.DictComp kx vx [⟨tg,iter,ifs,0⟩] scope pos) spos) (Df (tDC X.K wi T ts tk' tv js) (xR i)):=by
 intro pins s σ H D I h
 obtain⟨cl,hclos,q2,q3⟩:=JC (env:=X.env) (scope:=scope) λy hy e=>I.ok.has y.1 (B.free y hy e)
 rw[afr _ _ _ _ hsw];refine aG (vh (aG ?_));show aR _ X.A (do let _ <-YW (.DictComp kx vx [⟨tg,iter,ifs,0⟩] scope pos) scope X.env _ (newDict) aJ (eval iter X.env) (aa (assign (.Name y pos') X.env))) _ _ s;refine aG (pN (Nu (use:=aa (assign (.Name y pos') X.env)) (Q:=λ_ s'=>SP X pins D .next s') rfl hs hclos B.kind B.names
  (bO (hi pins s σ H _ I h) λv s1 h1=>bO h1 λitv s2 ⟨it,fp,tn,J,H2,e,I2,TT,st2,f2,q⟩=>?_)) (λ_ s' hq=>bh (bh hq)) λ_ _ e=>e)
 subst e;refine amO (hu:=hu) (Q:=λH'=>D.nx (σ.set i (aa (.ref s2.heap.objs.size))) H') (RR:=λacc C=>Rp (model X.prog X.w) X.A X.xe (aa (assign (.Name y pos') X.env)) (λ_ s'=>SP X pins D .next s') acc C) B tk hc (hin:=hin) q2 q3 I2 TT st2 f2 (q _ (I2.hok.fresh (cg _))) λC H' s' m I' fC hn qd=>?_
 show aR _ X.A (assign (.Name y pos') X.env (.ref s2.heap.objs.size)) _ _ _;refine Ih (QL I' hN hI (.inl hy) (v:=.ref s2.heap.objs.size) rfl (λs3 I3 aP=>?_) (.inr hy))
 obtain⟨a,sb,ha⟩:=aP
 have Wg:C≠a:=by
  rcases ha with z|z
  .rw[z];exact fC.2.1
  .exact λw=>fC.2.2.2.2.1 y a z w.symm
 refine⟨m,hn.sameBut sb Wg,λh' sb'=>⟨_,H',?_,qd⟩⟩
 exact I3.turned (t':=s3.toks) (λb o hb e=>(sb'.2 b hb).trans e) fC.1 fC.2.1 fC.2.2.2.1 fC.2.2.2.2.1 fC.2.2.2.2.2
end
section
variable{X:Cx}
theorem ak4{K:aM}{t:Value}{c d:Value}{p q:Bool}(e1:Az K t c=aa p)(e2:Az K t d=aa q):OJ K t [c,d]=aa (p||q):=by
 unfold OJ;rw[e1];cases p with
 |true=>rfl
 |false=>
  unfold OJ;rw[e2];cases q with
  |true=>rfl
  |false=>rfl
end
structure Fy(K:aM)(T:iD)(J:It)(n:Nat)(vs:Nat->List V)(G:Hp->Prop):Prop where
 go:∀i H,i<n->G H->J.go i H
 yC:∀i H x H',i<n->G H->J.yC i H x H'->bN H H'/\yE K T x H' (vs i)
 stop:∀H,G H->J.stop n H
section
variable{K:aM}{T:iD}{J:It}{n:Nat}{vs:Nat->List V}{G:Hp->Prop}{ts:TT}{te:TE}{fs:St}{H1:Hp}{D:aq}{done:Hp->Prop}
end
theorem Inv.Ez{X:Cx}{pins:List (aq×Obj)}{σ:St}{H H':Hp}{s:aD}{h':bC}{t':Nat}{ch:List aq}(I:Inv X pins σ H s)(k:∀b o,b∉ch->s.heap.get? b=aa o->h'.get? b=aa o)(hf:∀b∈ch,kI X pins H b)
  (hs:bN H H')(hfr:∀b o,s.heap.get? b=aa o->H b=aj->H' b=aj)(hn:∀b u,H' b=aa u->H b=aa u\/fL X.prog X.w H' h' b u):Inv X pins σ H' {s with heap:=h',toks:=t'}:=by
 have G3:∀b u,H b=aa u->b∉ch:=λb u e z=>by rw[(hf b z).1] at e;cases e
 refine I.step (g':=s.gens) (d':=s.drawn) (ch:=ch) (λb hb=>⟨(hf b hb).2.2.2.1,(hf b hb).2.1,(hf b hb).2.2.2.2.1,(hf b hb).2.2.2.2.2⟩) (λb o _ _ hc e _=>k b o hc e) (λb o _ _ hc e _=>⟨o.slots,k b o hc e⟩) (λb o _ e n=>hfr b o e n)
  (λb o hc e=>⟨o,k b o hc e⟩) (λ_ _ e=>hs _ _ e) (λ_ _ _ e=>hs _ _ e) (λb ps e=>⟨#[],by rw[hs _ _ e];simp⟩) (λm hm=>?_) (λb u e=>?_) I.bare
 .obtain⟨o,es,ep,ho,r⟩:=hm
  exact⟨o,es,ep,k _ o (λz=>(hf _ z).2.1 rfl) ho,r⟩
 .rcases hn b u e with z|z
  .refine(I.hok b u z).stay (λc v hc q=>k c v ?_ q) (λ_ q=>hs _ _ q) λ_ _ q=>hs _ _ q
   rcases hc with y|y
   .rw[y];exact G3 b u z
   .exact G3 c _ y
  .exact z
def Wi(K:aM)(a b:aq):It:=⟨λi H=>∃xs ys,bR K H a xs/\bR K H b ys/\i<min xs.length ys.length,
 λi H v H'=>∃p x y,H p=aj/\v=.ref p/\H'=upd H p (.tup [x,y])/\∀xs ys,bR K H a xs->bR K H b ys->xs[i]?=aa x/\ys[i]?=aa y,
 λi H=>∃xs ys,bR K H a xs/\bR K H b ys/\i=min xs.length ys.length⟩
theorem ajH{P:bL}{w:bI}{K:aM}{es:List Expr}{k:Nat}{ps:Pos}{a b z TI TO i1 i2:aq}(D:ZipApart z TI TO i1 i2 a b):
  Turn P w K (.Tuple es k ps) (Wi K a b) [z,TI,TO,i1,i2] z (λi h=>IsZip h z TI TO .none/\IsPair h TI (.ref i1) (.ref i2)/\(∃c d,IsPair h TO c d)/\h.IsListIter i1 a i/\h.IsListIter i2 b i) where
 mem:=by simp
 obj:=λi h st c hc=>by
  obtain⟨h1,h2,⟨_,_,h3⟩,⟨o4,e4,_,d4⟩,⟨o5,e5,_,d5⟩⟩:=st
  simp only[cB,mj,or_false] at hc;rcases hc with rfl|rfl|rfl|rfl|rfl
  .exact⟨_,h1,λv q=>by cases q⟩
  .exact⟨_,h2,λv q=>by cases q⟩
  .exact⟨_,h3,λv q=>by cases q⟩
  .exact⟨_,e4,λv q=>by rw[d4] at q;cases q⟩
  .exact⟨_,e5,λv q=>by rw[d5] at q;cases q⟩
 keep:=λi h h' st kk=>by
  obtain⟨h1,h2,⟨c,d,h3⟩,h4,h5⟩:=st
  exact⟨kk z (by simp) _ h1,kk TI (by simp) _ h2,⟨c,d,kk TO (by simp) _ h3⟩,h4.at λo e=>kk i1 (by simp) o e,h5.at λo e=>kk i2 (by simp) o e⟩
 item:=by
  intro X hP hw hK hc i pins s σ H E I hf st hg;subst hP hw hK
  obtain⟨xs,ys,ha,hb,hi⟩:=hg
  obtain⟨its,r1,p1,_⟩:=I.list ha
  obtain⟨its2,r2,p2,_⟩:=I.list hb
  have l1:=r1.length;have l2:=r2.length;have W:=ahx (prog:=X.prog) (w:=X.w) (A:=X.A) (I.ok.hd hc) z TI TO i1 i2 a b D its.toArray its2.toArray
  obtain⟨s1,s2,s3,s4,s5⟩:=st
  refine W.item i s _ E (by simp;lia) ⟨s1,s2,s3,s4,s5,p1.isList,p2.isList⟩ λT vals h' tk hv hT ht hm kk=>?_
  obtain⟨x,y,hx,hy,rfl⟩:=hv
  refine⟨_,rfl,W.go es k ps i T _ _ E hm λh2 st2 tX=>?_⟩
  have gx:xs[i]?=aa (xs.getD i .non):=by
   have:i<xs.length:=by lia
   simp[rY,this]
  have gy:ys[i]?=aa (ys.getD i .non):=by
   have:i<ys.length:=by lia
   simp[rY,this]
  obtain⟨u1,hu1,q1⟩:=r1.get gx
  obtain⟨u2,hu2,q2⟩:=r2.get gy
  have ex:u1=x:=by
   have:its[i]?=aa x:=by simpa using hx
   rw[hu1] at this;exact gP this
  have ey:u2=y:=by
   have:its2[i]?=aa y:=by simpa using hy
   rw[hu2] at this;exact gP this
  subst ex ey;have wf:∀c,c∈[z,TO,i1,i2]->kI X pins H c:=λc hc=>hf c (by simp at hc⊢;rcases hc with rfl|rfl|rfl|rfl<;>simp)
  have G8:H T=aj:=I.hok.fresh hT;have nT:T∉[z,TO,i1,i2]:=W.apart i T _ hm;have kT:h2.get? T=h'.get? T:=by
   obtain⟨o,e,_⟩:=id ht
   rw[tX T o nT e];exact e.symm
  obtain⟨oT,eT,cT,nT',dT⟩:=id ht
  refine⟨.ref T,upd H T (.tup [xs.getD i .non,ys.getD i .non]),I.Ez (λc o hc e=>tX c o hc (kk c o hc e)) wf (bN.upd G8) (λc o e n=>?_) (λc u e=>?_),rfl,⟨T,_,_,G8,rfl,rfl,λxs' ys' h1 h2=>?_⟩,?_,λc hc=>?_⟩
  .rw[cV]
   .exact n
   .intro z;subst z;exact absurd (cF e) (Qw.mpr hT)
  .by_cases G9:c=T
   .subst G9;rw[dO] at e;cases e;refine .inr ⟨by show 2<=cu;decide,[u1,u2],.cons q1 (.cons q2 .nil),oT,kT.trans eT,cT,nT',by simpa using dT⟩
   .rw[cV G9] at e;exact .inl e
  .rw[I.J0 h1 ha,I.J0 h2 hb]
   exact⟨gx,gy⟩
  .exact⟨st2.1,st2.2.1,st2.2.2.1,st2.2.2.2.1,st2.2.2.2.2.1⟩
  .rw[cV]
   .exact(hf c hc).1
   .intro z;subst z
    obtain⟨o,e,_⟩:∃o,s.heap.get? c=aa o/\True:=by
     simp only[cB,mj,or_false] at hc
     obtain⟨c1,d1,s3⟩:=s3
     obtain⟨o4,e4,_⟩:=s4
     obtain⟨o5,e5,_⟩:=s5
     rcases hc with rfl|rfl|rfl|rfl|rfl
     .exact⟨_,s1,trivial⟩
     .exact⟨_,s2,trivial⟩
     .exact⟨_,s3,trivial⟩
     .exact⟨_,e4,trivial⟩
     .exact⟨_,e5,trivial⟩
    exact absurd (cF e) (Qw.mpr hT)
 done:=by
  intro X hP hw hK hc i pins s σ H E I hf st hg;subst hP hw hK
  obtain⟨xs,ys,ha,hb,hi⟩:=hg
  obtain⟨its,r1,p1,_⟩:=I.list ha
  obtain⟨its2,r2,p2,_⟩:=I.list hb
  have l1:=r1.length;have l2:=r2.length;have W:=ahx (prog:=X.prog) (w:=X.w) (A:=X.A) (I.ok.hd hc) z TI TO i1 i2 a b D its.toArray its2.toArray
  obtain⟨s1,s2,s3,s4,s5⟩:=st
  have e:i=min its.toArray.size its2.toArray.size:=by simp;lia
  subst e;refine W.done s _ E ⟨s1,s2,s3,s4,s5,p1.isList,p2.isList⟩ λh' tk kk=>⟨rfl,?_⟩
  have wf:∀c,c∈[z,TO,i1,i2]->kI X pins H c:=λc hc=>hf c (by simp at hc⊢;rcases hc with rfl|rfl|rfl|rfl<;>simp)
  exact I.Ez kk wf (bN.refl H) (λ_ _ _ n=>n) λ_ _ e=>.inl e
 self:=λ_ _ _ _ _ st h=>agg st.1 h
def ao5(K:aM)(t:TA):TI:=λσ H R=>t σ H λvs H1=>∃a b xs ys,vs=[.ref a,.ref b]/\bR K H1 a xs/\bR K H1 b ys/\R (Wi K a b) H1
theorem amP{X:Cx}{es:List Expr}{k:Nat}{ps:Pos}{x y:Expr}{t:TA}{p pos:Pos}(hg:Gl X "zip")(hm:X.mg "zip"=aj)(ha:PA X [x,y] t)(hs:bJ [x,y] X.env=[(aJ,eval x X.env),(aJ,eval y X.env)]:=by rfl)(hs2:bJ [y] X.env=[(aJ,eval y X.env)]:=by rfl):
  PI X (.Tuple es k ps) (.Call (.Name "zip" p) [x,y] [] pos) (ao5 X.K t):=by
 intro pins s σ H R I h;refine Call_ (vD I hg hm art (HJ (bO (ha pos pins s σ H _ I h) λus s1 aP=>?_) (by rw[hs,hs2]) (by rw[hs2];rfl)))
 obtain⟨vs,H1,I1,r1,q1⟩:=aP
 obtain⟨a,b,xs,ys,e,h1,h2,q⟩:=q1
 subst e;cases r1 with
 |cons r rr=>
  cases rr with
  |cons r' rr=>
   cases rr;cases r;cases r'
   obtain⟨its,v1,p1,_⟩:=I1.list h1
   obtain⟨its2,v2,p2,_⟩:=I1.list h2
   have lt1:a<s1.heap.objs.size:=by obtain⟨_,e,_⟩:=p1.isList;exact cF e
   have uZ:b<s1.heap.objs.size:=by obtain⟨_,e,_⟩:=p2.isList;exact cF e
   refine call_zip_2 p1.isList p2.isList λh' g1 g2 g3 g4 g5 hsz kk=>?_
   refine agg g1 ?_;have I2:Inv X pins σ H1 {s1 with heap:=h'}:=I1.kept (t':=s1.toks) kk
   refine⟨s1.heap.objs.size+4,[s1.heap.objs.size+4,s1.heap.objs.size+2,s1.heap.objs.size+3,s1.heap.objs.size,s1.heap.objs.size+1],_,_,H1,rfl,I2,ajH (zipApart_new lt1 uZ),⟨g1,g2,⟨_,_,g3⟩,g4,g5⟩,λc hc=>?_,q⟩
   refine I1.vQ ?_ (I1.hok.fresh ?_)
   all_goals
    simp only[cB,mj,or_false] at hc;rcases hc with rfl|rfl|rfl|rfl|rfl<;>lia
theorem ahQ(I:Inv X pins σ H s)(rx:RelV x u)(ty:nO X.K H x t)(e:OJ X.K t its=aa b)
  (hc:s.heap.IsTuple c its.toArray)(h:∀tk,Q (.bool b) {s with toks:=tk}):aR (model X.prog X.w) A (call (.builtin "isinstance") [u,.ref c]) Q E s:=by
 obtain⟨⟨oc,od,oda,osl⟩,g1,g2,g3,g4⟩:=hc
 simp only at g2 g4;subst g2 g4;cases ty with
 |non=>cases(show u=mX from rx);exact ur afV I.ji nj g1 e (λz=>nomatch z) h
 |bl y=>cases(show u=qQ y from rx);exact ur afW I.ji nj g1 e (λz=>nomatch z) h
 |int i=>obtain⟨t,q⟩:=(show ∃t,u=JL i t from rx);cases q;exact ur agc I.ji nj g1 e (λz=>nomatch z) h
 |str y=>obtain⟨t,q⟩:=(show ∃t,u=JM y t from rx);cases q;exact ur agd I.ji nj g1 e (λz=>nomatch z) h
 |flt y=>obtain⟨t,q⟩:=(show ∃t,u=Zq y t from rx);cases q;exact ur afM I.ji nj g1 e (λz=>nomatch z) h
 |@lst a xs ea=>
  cases(show u=dH a from rx)
  obtain⟨_,_,n,_,h1⟩:=(show fL X.prog X.w H s.heap a (.lst xs) from I.hok a _ ea)
  exact ur NQ I.ji ⟨_,h1,rfl⟩ g1 e (λz=>nomatch z) h
 |@m6 a ob xs ea=>
  cases(show u=dH a from rx)
  obtain⟨_,_,_,n,_,h1⟩:=(show fL X.prog X.w H s.heap a (.m6 ob (.lst xs)) from I.hok a _ ea)
  exact ur NQ I.ji ⟨_,h1,rfl⟩ g1 e (λz=>nomatch z) h
 |@tup a xs ea=>
  cases(show u=dH a from rx)
  obtain⟨_,_,_,p⟩:=(show fL X.prog X.w H s.heap a (.tup xs) from I.hok a _ ea)
  obtain⟨o,h1,h2,_⟩:=p
  exact ur afN I.ji ⟨o,h1,h2⟩ g1 e (λz=>nomatch z) h
 |@dK a kvs ea=>
  cases(show u=dH a from rx)
  obtain⟨_,_,vs,_,p⟩:=(show fL X.prog X.w H s.heap a (.dK kvs) from I.hok a _ ea)
  obtain⟨o,es,ep,h1,h2,_⟩:=p
  exact ur NZ I.ji ⟨o,h1,h2.1⟩ g1 e (λz=>nomatch z) h
 |@dT a kvs ea=>
  cases(show u=dH a from rx)
  obtain⟨_,_,xs,_,o,es,ep,h1,h2,_⟩:=(show fL X.prog X.w H s.heap a (.dT kvs) from I.hok a _ ea)
  exact ur NZ I.ji ⟨o,h1,h2.1⟩ g1 e (λz=>nomatch z) h
 |@ins a C dx fs ea cl ha hn htk hm=>
  cases(show u=dH a from rx)
  obtain⟨mA,O,_⟩:=abE I.hok ea
  obtain⟨od,J,_⟩:=O.look
  exact ur (age (cl.get _) cl.hd ha hn htk hm) I.ji J g1 e (λz=>nomatch z) h
theorem ag6:ie X (.builtin "isinstance") (λxs H Q=>∃x c m n t p q,xs=[x,.ref c]/\H c=aa (.tup [.ty m,.ty n])/\nO X.K H x t/\Az X.K t (.type m)=aa p/\Az X.K t (.type n)=aa q/\Q (.bl (p||q)) H):=by
 intro pins s σ H xs us Q I r h
 obtain⟨x,c,m,n,t,p,q,rfl,hc,ty,e1,e2,k⟩:=h
 obtain⟨u,u2,rfl,r1,r2⟩:=vals2 r
 cases r2
 obtain⟨_,its,rv,ob,g1,g2,g3⟩:=(show fL X.prog X.w H s.heap c (.tup [.ty m,.ty n]) from I.hok c _ hc)
 cases rv with
 |cons a1 rv=>
  cases rv with
  |cons a2 rv=>
   cases rv;cases a1;cases a2;exact ahQ I r1 ty (ak4 e1 e2) ⟨ob,g1,g2,g3⟩ λtk=>⟨.bl (p||q),H,I.tok tk,rfl,k⟩
end L2
namespace L2
open PySem PySem.Spec PyProof.Rows PySem.W
section
variable{N:Nat}{lt:Nat->Nat->Bool}{α β:Type}
def fM(N:Nat)(lt:Nat->Nat->Bool):KasT α->(α->Prop)->Prop
 |.ret a,R=>R a
 |.ask i j k,R=>i<N/\j<N/\fM N lt (k (lt i j)) R
theorem fM.mono:∀{t:KasT α},fM N lt t R->(∀a,R a->S a)->fM N lt t S
 |.ret a,h,f=>f a h
 |.ask i j k,h,f=>⟨h.1,h.2.1,fM.mono h.2.2 f⟩
theorem fM.bind:∀{t:KasT α},fM N lt t (λa=>fM N lt (f a) R)->fM N lt (t.bind f) R
 |.ret a,h=>h
 |.ask i j k,h=>⟨h.1,h.2.1,fM.bind h.2.2⟩
theorem fM.wp(ask:∀i j,i<N->j<N->∀C:Bool->aD->Prop,C (lt i j) s->cmp i j C s)(q:∀a,R a->Q a s):∀{t:KasT α},fM N lt t R->t.kasWp cmp Q s
 |.ret a,h=>q a h
 |.ask i j k,h=>ask i j h.1 h.2.1 _ (fM.wp ask q h.2.2)
def KP(N:Nat)(p:Array Nat):Prop:=p.toList.Perm (fB N)
theorem KP.ix(h:KP N p)(h0:0<N)(i:Nat):p.getD i 0<N:=by
 by_cases hi:i<p.size
 .have:p.getD i 0∈p.toList:=by simp[ahR,hi]
  exact qP.mp (h.mem_iff.mp this)
 .simpa[ahR,hi] using h0
theorem KP.rev(h:KP N p)(i j:Nat):KP N (kas_rev p i j):=((mirror_perm p i j _).toList).trans h
theorem KP.bub(h:KP N p)(i j:Nat):KP N (bubble p i j):=((bubble_perm p i j).toList).trans h
theorem Us(h:KP N p)(h0:0<N):∀f n,fM N lt (kas_asc p f n) λ_=>True
 |0,n=>trivial
 |f+1,n=>by
  refine⟨h.ix h0 _,h.ix h0 _,?_⟩
  dsimp only;split
  .exact trivial
  .exact Us h h0 f (n+1)
theorem Kr(h0:0<N):∀f (p:Array Nat) n q,KP N p->fM N lt (kas_desc f p n q) λr=>KP N r.1
 |0,p,n,q,h=>h
 |f+1,p,n,q,h=>by
  refine⟨h.ix h0 _,h.ix h0 _,?_⟩
  dsimp only;split
  .split
   .exact Kr h0 f _ _ _ (h.rev _ _)
   .exact Kr h0 f _ _ _ h
  .refine⟨h.ix h0 _,h.ix h0 _,?_⟩
   dsimp only;split
   .exact h
   .exact Kr h0 f _ _ _ h
theorem aaN(h0:0<N)(h:KP N p)(n nrem:Nat):fM N lt (kas_tail3 n nrem p) λr=>KP N r.2:=
 fM.bind (fM.mono (Us (h.rev 0 n) h0 _ _) λ_ _=>h.rev 0 n)
theorem Zx(h0:0<N)(h:KP N p)(n nrem:Nat):fM N lt (kas_descPart n nrem p) λr=>KP N r.2:=by
 refine fM.bind (fM.mono (Kr h0 _ p _ _ h) λr hr=>?_);split
 .exact aaN h0 (KP.rev hr _ _) _ _
 .exact aaN h0 hr _ _
theorem ajI(h0:0<N)(h:KP N p)(nrem:Nat):fM N lt (kas_count nrem p) λr=>KP N r.2:=by
 refine fM.bind (fM.mono (Us h h0 _ _) λn _=>?_);split
 .exact h
 .split
  .refine⟨h.ix h0 _,h.ix h0 _,?_⟩
   dsimp only;split
   .exact h
   .exact Zx h0 (h.rev _ _) _ _
  .exact Zx h0 h _ _
theorem Rq(h0:0<N)(h:KP N p)(k:Nat):∀f l r,fM N lt (kas_place p k f l r) λ_=>True
 |0,l,r=>trivial
 |f+1,l,r=>by
  unfold kas_place;split
  .exact trivial
  .refine⟨h.ix h0 _,h.ix h0 _,?_⟩
   dsimp only;split
   .exact Rq h0 h k f _ _
   .exact Rq h0 h k f _ _
theorem acG(h0:0<N):∀f (p:Array Nat) k,KP N p->fM N lt (kas_bin f p k) (KP N)
 |0,p,k,h=>h
 |f+1,p,k,h=>fM.bind (fM.mono (Rq h0 h k _ _ _) λl _=>acG h0 f _ _ (h.bub _ _))
theorem abK(h0:0<N):fM N lt (kas_sort N) (KP N):=by
 refine fM.bind (fM.mono (ajI h0 (p:=List.toArray (fB N)) (yW _) N) λr hr=>?_);split
 .exact acG h0 _ _ _ hr
 .exact hr
end
def kLt:Key->Key->Bool
 |.inl i,.inl j=>decide (i<j)
 |.inr x,.inr y=>decide (x.cps.toList<y.cps.toList)
 |_,_=>aJ
def fD:List Key->List Key->Bool
 |a::r,b::t=>if a=b then fD r t else kLt a b
 |_,_=>aJ
def bV:Key->Bool
 |.inl _=>ao
 |.inr _=>aJ
section
variable{prog:bL}{w:bI}{A:cM}{E:Value->aD->Prop}{s:aD}{Q:Bool->aD->Prop}
theorem ajJ(ra:RelV (kV a) u)(rb:RelV (kV b) v)(ht:bV a=bV b)(h:Q (kLt a b) s):aR (model prog w) A (oneLt' f u v) Q E s:=by
 cases a with
 |inl i=>
  cases b with
  |inr y=>cases ht
  |inl j=>
   obtain⟨t,rfl⟩:=ra
   obtain⟨t',rfl⟩:=rb
   cases f with
   |true=>exact oneLt_int h
   |false=>exact kat_one _ _ (lt_int h)
 |inr x=>
  cases b with
  |inl y=>cases ht
  |inr y=>
   obtain⟨t,rfl⟩:=ra
   obtain⟨t',rfl⟩:=rb
   cases f with
   |true=>exact oneLt_str h
   |false=>exact kat_one _ _ (lt_str h)
theorem abL(ht:bV a=bV b):tV (kV a) (kV b)=decide (a=b):=by
 cases a with
 |inl i=>
  cases b with
  |inr y=>cases ht
  |inl j=>show(i==j)=_;rw[rO];simp
 |inr x=>
  cases b with
  |inl y=>cases ht
  |inr y=>show(x==y)=_;rw[rO];simp
theorem J5(a:Key):qx (kV a)=ao:=by cases a<;>rfl
theorem aaO:∀{ks js:List Key}{us vs:List Value}{i:Nat},Vals (ks.map kV) us->Vals (js.map kV) vs->ks.map bV=js.map bV->Q (fD ks js) s->KatLex prog w A ao aJ Q (us.zip vs) i s
 |[],[],_,_,_,ra,rb,_,h=>by
  cases ra;cases rb;exact kat_nil h
 |[],_::_,_,_,_,_,_,e,_=>by cases e
 |_::_,[],_,_,_,_,_,e,_=>by cases e
 |a::ks,b::js,us,vs,i,ra,rb,e,h=>by
  cases ra with
  |cons r1 ra=>
   cases rb with
   |cons r2 rb=>
    have e1:bV a=bV b:=(Bb e).1;have e2:=(Bb e).2;refine kat_cons (Uo r1 r2 (J5 a) (J5 b) prog w _ _ ?_);rw[abL e1];unfold fD at h;by_cases hab:a=b
    .rw[bz hab] at h;rw[gk hab];exact kat_yes (aaO ra rb e2 h)
    .rw[bH hab] at h;rw[gM hab];exact kat_no (ajJ r1 r2 e1 h)
end
section
variable{prog:bL}{w:bI}{A:cM}{E:Value->aD->Prop}{s:aD}{vs:List Value}{κ:SortKind}{lt:Nat->Nat->Bool}{Rl:List Nat->Prop}
def Kp(a:aq)(h h':bC):Prop:=∀b o,b≠a->h.get? b=aa o->h'.get? b=aa o
theorem ZQ(ho:s.heap.get? a=aa (seqObj "list" vs.toArray n))(h64:vs.length<64)(hg:2<=vs.length->fM vs.length lt (kas_sort vs.length) λp=>KP vs.length p/\Rl p.toList)(hsm:vs.length<2->Rl (fB vs.length))
  (hk:2<=vs.length->∀s':aD,Kp a s.heap s'.heap->∀Q:SortKind->aD->Prop,Q κ s'->aR (model prog w) A (keyKind' vs.toArray) Q (λ_ _=>False) s')
  (hl:2<=vs.length->∀s':aD,Kp a s.heap s'.heap->∀i j,i<vs.length->j<vs.length->∀C:Bool->aD->Prop,C (lt i j) s'->kas_ask prog w A κ vs i j C s')
  (h:∀(p:List Nat)(h':bC)(c:Nat),p.Perm (fB vs.length)->Rl p->Kp a s.heap h'->h'.get? a=aa (seqObj "list" (p.map λi=>vs.getD i mX).toArray c)->P (.done (.ret .none)) {s with heap:=h'}):
  aR (model prog w) A (lA.«list.sort» ⟨[.ref a],[]⟩) P E s:=by
 have lta:a<s.heap.objs.size:=cF ho
 obtain⟨e1,ho1⟩:∃e1,(s.heap.update a (nq λ_=>(#[]:Array Value))).get? a=aa (seqObj "list" #[] e1):=⟨_,get?_update_seq ho λ_=>#[]⟩
 have sz:vs.length<=cu:=by rw[iK];lia
 have kp:Kp a s.heap (((s.heap.update a (nq λ_=>(#[]:Array Value))).push (seqObj "tuple" vs.toArray 0)).push (seqObj "list" #[] 0)):=λb o hb e=>
  cW _ (cW _ (((rN s.heap a _).2 b hb).trans e))
 have Hf:(((s.heap.update a (nq λ_=>(#[]:Array Value))).push (seqObj "tuple" vs.toArray 0)).push (seqObj "list" #[] 0)).get? a=aa (seqObj "list" #[] e1):=cW _ (cW _ ho1);rw[list_sort_plain];refine aG (listItems_at ho rfl (aG (listUpdate_at ho rfl (aG (seqEpoch_at ho1 rfl (aG (wpAny_newTuple (aG (Ea (mV ?_) (m9 _))) (by show vs.length<=_;exact sz))))) (by rw[gG];exact sz) (m9 _))));show aR (model prog w) A _ P E {s with heap:=((s.heap.update a (nq λ_=>(#[]:Array Value))).push (seqObj "tuple" vs.toArray 0)).push (seqObj "list" #[] 0)};dsimp only;have fin:∀(p:List Nat),p.Perm (fB vs.length)->Rl p->∀out:Array Value,out=(p.map λi=>vs.getD i mX).toArray->
   P (.done (.ret .none)) {s with heap:=(((s.heap.update a (nq λ_=>(#[]:Array Value))).push (seqObj "tuple" vs.toArray 0)).push (seqObj "list" #[] 0)).update a (nq λ_=>out)}:=λp hp hrl out eo=>by
  subst eo;refine h p _ _ hp hrl (λb o hb e=>((rN _ a _).2 b hb).trans (kp b o hb e)) (get?_update_seq Hf _)
 by_cases h2:vs.toArray.size<2
 .rw[bz h2,bz h2];refine aG (bh ?_);rw[StateT.run_pure];refine aG (bh ?_);dsimp only;have hz:(pairsOf vs).size<=cu:=by rw[pairsOf_size];exact sz
  refine aG (seqEpoch_at Hf rfl (aG (listUpdate_at Hf rfl ?_ (hsz2:=by rw[Array.size_map];show(pairsOf vs).size<=_;lia))));simp only[bne_self_eq_false,pH,if_false];refine bh (fin (fB vs.length) (yW _) (hsm (by simpa using h2)) _ ?_);apply Array.toList_inj.mp
  show((vs.toArray.zip vs.toArray).map (·.2)).toList=_
  rw[Array.toList_map,Array.toList_zip,List.map_snd_zip (cg _)];show vs=_;refine Aq (by simp) λi h1 h3=>?_
  simp[rY,h1]
 .have h2':2<=vs.length:=by simpa using h2
  rw[bH h2,bH h2];refine aG (pN (hk h2' _ kp (λk s'=>k=κ/\s'={s with heap:=((s.heap.update a (nq λ_=>(#[]:Array Value))).push (seqObj "tuple" vs.toArray 0)).push (seqObj "list" #[] 0)}) ⟨rfl,rfl⟩) (λk s0 hk0=>?_) λ_ _ x=>x.elim)
  obtain⟨rfl,rfl⟩:=hk0
  refine aG (pN (kat_run (ks:=vs) (vs:=vs) (Q:=λst' s'=>∃p:Array Nat,(KP vs.length p/\Rl p.toList)/\arrOf st'=p.map (kas_item (vs.toArray.zip vs.toArray))/\failedOf st'=aj/\s'={s with heap:=((s.heap.update a (nq λ_=>(#[]:Array Value))).push (seqObj "tuple" vs.toArray 0)).push (seqObj "list" #[] 0)})
   rfl h2' h64 (G:=λp s'=>(KP vs.length p/\Rl p.toList)/\s'={s with heap:=((s.heap.update a (nq λ_=>(#[]:Array Value))).push (seqObj "tuple" vs.toArray 0)).push (seqObj "list" #[] 0)}) (λp st' s' a1 a2 a3 a4=>⟨p,a4.1,a2,a3,a4.2⟩) (fM.wp (lt:=lt) (hl h2' _ kp) (λp hp=>⟨hp,rfl⟩) (hg h2'))) ?_ λ_ _ e=>e)
  rintro⟨⟨⟩,st'⟩ s' ⟨p,⟨hp,hrl⟩,har,hf,rfl⟩
  dsimp only;have hout:=kat_snds (ks:=vs) (vs:=vs) rfl har;have hps:p.toList.length=vs.length:=by rw[hp.length_eq,lZ]
  rw[hout];refine aG (seqEpoch_at Hf rfl (aG (listUpdate_at Hf rfl ?_ (m9 _) (by rw[gG,bw,hps];lia))));rw[hf];simp only[bne_self_eq_false,pH,if_false];exact bh (fin p.toList hp hrl _ rfl)
theorem Zy(h64:vs.length<64)(hg:2<=vs.length->fM vs.length lt (kas_sort vs.length) λp=>KP vs.length p/\Rl p.toList)(hsm:vs.length<2->Rl (fB vs.length))
  (hc:∀R:List Value->aD->Prop,(∀us h1 tk,s.heap.objs.size<=h1.objs.size->(∀b o,s.heap.get? b=aa o->h1.get? b=aa o)->us=vs->R us {s with heap:=h1,toks:=tk})->aR (model prog w) A.in1 (collect (.ref r)) R E s)
  (hk:2<=vs.length->∀s':aD,(∀b o,s.heap.get? b=aa o->s'.heap.get? b=aa o)->∀Q:SortKind->aD->Prop,Q κ s'->aR (model prog w) A.in1.in1 (keyKind' vs.toArray) Q (λ_ _=>False) s')
  (hl:2<=vs.length->∀s':aD,(∀b o,s.heap.get? b=aa o->s'.heap.get? b=aa o)->∀i j,i<vs.length->j<vs.length->∀C:Bool->aD->Prop,C (lt i j) s'->kas_ask prog w A.in1.in1 κ vs i j C s')
  (h:∀(p:List Nat)(D:aq)(h':bC)(c tk:Nat),p.Perm (fB vs.length)->Rl p->s.heap.objs.size<=D->(∀b o,s.heap.get? b=aa o->h'.get? b=aa o)->h'.get? D=aa (seqObj "list" (p.map λi=>vs.getD i mX).toArray c)->Q (.ref D) {s with heap:=h',toks:=tk}):
  aR (model prog w) A (call (.builtin "sorted") [.ref r]) Q E s:=by
 refine HN kind_sorted plain_sorted entry_sorted (args_sorted1 _) ?_;unfold lA.«sorted»;refine aG (m:=JF "sorted" 1 1 _) (bh (aG (hc _ λus h1 tk hsz kk eu=>?_)));subst eu;refine aG (Ea ?_ (by rw[iK];lia));have hoL:(h1.push (seqObj "list" us.toArray 0)).get? h1.objs.size=aa (seqObj "list" us.toArray 0):=iH _ rfl;have ltD:∀b o,s.heap.get? b=aa o->b≠h1.objs.size:=λb o e=>eO (cF (kk b o e))
 have up:∀s':aD,Kp h1.objs.size (h1.push (seqObj "list" us.toArray 0)) s'.heap->∀b o,s.heap.get? b=aa o->s'.heap.get? b=aa o:=λs' k b o e=>k b o (ltD b o e) (cW _ (kk b o e))
 refine aG (mV (nY slot_list_sort ⟨_,hoL,rfl⟩ entry_list_sort (ZQ (κ:=κ) (lt:=lt) (s:={s with heap:=h1.push (seqObj "list" us.toArray 0),toks:=tk}) hoL h64 hg hsm (λh2 s' k=>hk h2 s' (up s' k)) (λh2 s' k=>hl h2 s' (up s' k)) λp h' c hp hrl k e=>⟨_,rfl,?_⟩) (args_list_sort _)));exact bh ⟨_,rfl,h p h1.objs.size h' c tk hp hrl hsz (up {s with heap:=h'} k) e⟩
end
def yq(h:bC)(d:aq)(es:Array DictEntry)(ep:Nat):Prop:=∃o,h.get? d=aa o/\o.ExactDict/\o.data=.dict es ep
section
variable{prog:bL}{w:bI}{A:cM}{E:Value->aD->Prop}{s:aD}{d it:aq}{es:Array DictEntry}{ep i:Nat}
theorem yq.ty(h:yq s.heap d es ep):s.TypeIs (.ref d) "dict":=let ⟨o,ho,hc,_⟩:=h;⟨o,ho,hc.1⟩
theorem ajK(hd:(d==qR)=aJ)(hm:yq s.heap d es ep)
  (hQ:Q (.ref s.heap.objs.size) {s with heap:=s.heap.push {cls:=.type "dict_keyiterator",data:=.fields #[.ref d,.int 0 0,.int es.size 0,.int ep 0]}}):aR (model prog w) A (Cd (.ref d)) Q E s:=by
 obtain⟨o,ho,hc,hdat⟩:=id hm
 have hT:=hm.ty;refine XH hT agh (nY agh hT F.entry_dict_iter ?_ (F.args_dict_iter_1 _));unfold lA.«dict.__iter__»;refine aG ?_;unfold aq5;refine aG (wpAny_notOrdered_dict hT ?_);show aR _ _ (pure (dH d)) _ _ s
 refine bh ?_;show aR _ _ (afs d >>= _) _ _ s
 unfold afs;rw[bH (by rw[hd];exact iI)];refine aG (bh (aG (XJ ho hdat (aG (Yk ho hdat ?_)))));refine aG (mQ (bh ⟨_,rfl,"dict_keyiterator",_,⟨_,iH _ rfl,rfl⟩,F.slot_dict_keyiterator_next.lookup,?_⟩));simpa[je] using hQ
theorem ajL(hit:s.heap.IsKeyIter it d i es.size ep)(hm:yq s.heap d es ep)(hlt:i<es.size)
  (hQ:∀h',h'.IsKeyIter it d (i+1) es.size ep->zb it s.heap h'->Q (aa es[i].key) {s with heap:=h'}):aR (model prog w) A (nD (.ref it)) Q E s:=by
 obtain⟨o,ho,hc,hd⟩:=id hit;obtain⟨od,hod,hcd,hdd⟩:=id hm
 unfold nD;refine aG (Eb (yM (name:=gf "__next__") hit.typeIs Nm (nY Nm hit.typeIs ae0 ?_ (aeZ _))));refine aG (bh ?_);refine aG ?_;refine aG ?_
 first|refine aG (Nk hit.typeIs (bh (aG (yX ho hd ?_))))|refine aG (Nv hit.typeIs (bh (aG (yX ho hd ?_))))
 have own:ae1 "dict_keyiterator"=aJ:=by decide
 simp only[own,pH,if_false];show aR _ _ (if(dH d==mX)=ao then _ else _) _ _ s
 rw[bH (show ¬((dH d==mX)=ao) from iI)];refine aG (bh (aG (XJ hod hdd ?_)));rw[bH (by simp)];refine aG (bh (aG (Yk hod hdd ?_)));rw[bH (by simp)];refine bh ?_;simp only[show ¬((i:Int)<0) from by lia,if_false,yP,m8 hlt];refine aG ?_
 first|refine aG (Nk hit.typeIs (bh (aG (Xl hit.typeIs ?_))))|refine aG (Nv hit.typeIs (bh (aG (Xl hit.typeIs ?_))))
 show aR _ _ (setField (.ref it) 1 (je ((i:Int)+1)) >>= _) _ _ s;refine aG (yZ ho hd (by simp) ?_);have hit':(s.heap.update it (YX (·.setIfInBounds 1 (je ((i:Int)+1))))).IsKeyIter it d (i+1) es.size ep:=⟨_,yN _ ho (aft (NP hd _)),(afZ ..).trans hc,by rw[NP hd];simp[je]⟩
 refine aG (mV ?_);refine aG (Xl (s:={s with heap:=s.heap.update it (YX (·.setIfInBounds 1 (je ((i:Int)+1))))}) hit'.typeIs ?_);show aR _ _ (pure es[i].key) _ _ _;exact bh (bh ⟨_,rfl,bh (hQ _ hit' (rN ..))⟩)
theorem ak5(hh:A.handled=aj)(hit:s.heap.IsKeyIter it d i es.size ep)(hm:yq s.heap d es ep)(hge:es.size<=i)
  (hQ:∀h',Heap.ExtBut it s.heap h'->Q aj {s with heap:=h'}):aR (model prog w) A (nD (.ref it)) Q E s:=by
 obtain⟨o,ho,hc,hd⟩:=id hit;obtain⟨od,hod,hcd,hdd⟩:=id hm
 unfold nD;refine aG (Eb (yM (name:=gf "__next__") hit.typeIs Nm (nY Nm hit.typeIs ae0 ?_ (aeZ _))));refine aG (bh ?_);refine aG ?_;refine aG ?_
 first|refine aG (Nk hit.typeIs (bh (aG (yX ho hd ?_))))|refine aG (Nv hit.typeIs (bh (aG (yX ho hd ?_))))
 have own:ae1 "dict_keyiterator"=aJ:=by decide
 simp only[own,pH,if_false];show aR _ _ (if(dH d==mX)=ao then _ else _) _ _ s
 rw[bH (show ¬((dH d==mX)=ao) from iI)];refine aG (bh (aG (XJ hod hdd ?_)));rw[bH (by simp)];refine aG (bh (aG (Yk hod hdd ?_)));rw[bH (by simp)];refine bh ?_;simp only[show ¬((i:Int)<0) from by lia,if_false,yP,Xg hge];refine aG ?_
 first|refine aG (Nk hit.typeIs (bh ?_))|refine aG (Nv hit.typeIs (bh ?_))
 show aR _ _ (setField (.ref it) 0 .none >>= _) _ _ s;refine aG (yZ ho hd (by simp) ?_);show aR _ _ (newExc (.type "StopIteration") [] >>= _) _ _ _;refine aG ?_;simp only[newExc,newTuple];refine aG (mQ ?_ (by size_fits));refine aG (m:=O1 _ _) (Zz (a:=mX) (by first|rfl|(simp only[O1];rfl)) ?_);refine mQ ?_ (by size_fits);simp only[raiseNew];refine aG (wpAny_handled ?_);rw[show A.in1.handled=aj from hh];refine aG (bh (wpAny_throw ?_));refine aG (X7 (T:="StopIteration") (b:=ao) ⟨_,iH _ rfl,rfl⟩ isSubtype_stop ?_);exact bh (hQ _ (((rN ..).extBut.push _).push _))
theorem aiJ(hh:A.handled=aj)(hne:d≠it):zP prog w A it [it,d] [it] es.size (λi v=>(es[i]?).map (·.key)=aa v) (λi h=>h.IsKeyIter it d i es.size ep/\yq h d es ep) where
 sub:=λb hb=>by simp at hb;simp[hb]
 frame:=λ_ _ _ st hk=>⟨st.1.at λo e=>hk it (by simp) o e,let ⟨o,ho,r⟩:=st.2;⟨o,hk d (by simp) o ho,r⟩⟩
 item:=λi s Q E hi st hQ=>ajL st.1 st.2 hi λh' hit' hs'=>hQ _ h' s.toks (by simp[hi]) ⟨hit',let ⟨o,ho,r⟩:=st.2;⟨o,(hs'.2 d hne).trans ho,r⟩⟩ λb o hb e=>(hs'.2 b λz=>hb (by simp[z])).trans e
 done:=λs Q E st hQ=>ak5 hh st.1 st.2 (cg _) λh' he'=>hQ h' s.toks λb o hb e=>he' b o (λz=>hb (by simp[z])) e
 self:=λ_ _ _ _ st hQ=>wpAny_pyIter_keyiter st.1 hQ
theorem ak6(lo:(d==qR)=aJ):KdlSrc prog w "dict" d d es.size (λi v=>(es[i]?).map (·.key)=aa v) (λh=>yq h d es ep) where
 type:=λ_ hm=>hm.ty
 there:=λ_ hm=>let ⟨_,ho,_⟩:=hm;⟨cF ho,cF ho⟩
 keep:=λ_ _ hm hk=>let ⟨o,ho,r⟩:=hm;⟨o,hk d (.inl rfl) o ho,r⟩
 notList:=by decide
 notTuple:=by decide
 hint:=λ_ _ _ _ hm hq=>kdl_hint_dict hm.ty hq
 iter:=λ_ _ hh hm=>⟨_,_,(λ_ _ hq=>ajK lo hm hq),aiJ hh (let ⟨_,ho,_⟩:=hm;eO (cF ho)),⟨⟨_,iH _ rfl,rfl,rfl⟩,let ⟨o,ho,r⟩:=hm;⟨o,cW _ ho,r⟩⟩⟩
theorem Qg(K:KdlSrc prog w T r d n P OK)(hh:A.handled=aj)(hok:OK s.heap)(hn:n<=cu)
  (h:∀(h':bC)(tk:Nat)(acc:Array Value),s.heap.objs.size<=h'.objs.size->(∀b o,s.heap.get? b=aa o->h'.get? b=aa o)->ItemsOf P acc n->R acc.toList {s with heap:=h',toks:=tk}):
  aR (model prog w) A (collect (.ref r)) R E s:=by
 have hlt:=K.there _ hok;unfold collect;refine aG (wpAny_runValue (wR entry_proto_collect' ?_));rw[wI ae2 _];show aR _ A.in1 (newList [] >>= λl=>again (.builtin "list.__iadd__" ⟨[l,.ref r],[]⟩)) _ _ s;refine aG (mQ ?_);refine bh ⟨vo Nx _,wR entry_list_iadd' ?_⟩;rw[wI Nx _];have hS:(s.heap.push {cls:=.type "list",data:=.seq ([]:List Value).toArray}).get? s.heap.objs.size=aa {cls:=.type "list",data:=.seq #[]}:=iH _ rfl;show aR _ A.in1 (Np (.ref s.heap.objs.size) (.ref r) (.ref s.heap.objs.size)) _ _ _;have key:=kdl_extend (A:=A) (s:={s with heap:=s.heap.push {cls:=.type "list",data:=.seq ([]:List Value).toArray}}) (R:=λ(q:sH)(s':aD)=>∃(h':bC)(tk:Nat)(acc':Array Value)(c':Nat),q=.ok (.ret (.ref s.heap.objs.size))/\s'={s with heap:=h',toks:=tk}/\(∀b o,s.heap.get? b=aa o->h'.get? b=aa o)/\h'.get? s.heap.objs.size=aa {cls:=.type "list",dict:=aj,data:=.seq acc' c',slots:=#[]}/\ItemsOf P acc' n)
  K hh (K.keep _ _ hok λb _ o e=>cW _ e) s.heap.objs.size (Be hlt.1) (Be hlt.2) (.ref s.heap.objs.size) 0 hS (λh' tk acc' c' hk hS' hacc=>⟨h',tk,acc',c',rfl,rfl,λb o e=>hk b o (eO (cF e)) (cW _ e),hS',hacc⟩) hn
 refine pN key (λfin s' x=>?_) λe s' x=>?_
 .cases fin with
  |done f=>
   obtain⟨h',tk,acc',c',e,rfl,hk,hS',hacc⟩:=x
   cases e;show aR _ A (load s.heap.objs.size >>= _) _ _ _
   exact aG (Jy hS' (bh (h h' tk acc' (xj (cF hS')) hk hacc)))
  |again c₁=>
   refine⟨x.1,Je x.2 λq s₂ y=>?_⟩
   obtain⟨h',tk,acc',c',rfl,rfl,hk,hS',hacc⟩:=y
   show aR _ A (load s.heap.objs.size >>= _) _ _ _;exact aG (Jy hS' (bh (h h' tk acc' (xj (cF hS')) hk hacc)))
 .obtain⟨_,_,_,_,e',_⟩:=x;cases e'
end
theorem JQ:∀{us:List Value}{ns:List Str},StrsAre us ns->Vals (ns.map V.str) us
 |_,_,.nil=>.nil
 |_,_,.cons _ t r=>.cons ⟨t,rfl⟩ (JQ r)
section
variable{X:Cx}
theorem agi:ie X (.builtin "sorted") (λxs H Q=>∃(p:aq)(ns:List Int),xs=[.ref p]/\bR X.K H p (ns.map V.int)/\ns.length<64/\∀(l:aq)(ns':List Int),H l=aj->ns'.Perm ns->ns'.Pairwise (·<=·)->Q (.ref l) (upd H l (.lst (ns'.map V.int)))):=by
 intro pins s σ H xs us Q I r h
 obtain⟨p,ns,rfl,hp,h64,q⟩:=h
 obtain⟨u,rfl,ru⟩:=vals1 r
 cases ru
 obtain⟨its,rv,pl,_⟩:=I.list hp
 have hi:IntsAre its ns:=intsAre_of rv;have hl:=rv.length;rw[bw] at hl;refine sorted_ints pl.isList hi (by lia) λout ns' a1 a2 a3=>?_
 obtain⟨e,he⟩:=sortedAll_at s.heap its out
 have hz:ns'.length<=cu:=by rw[a2.length_eq,iK];lia
 exact⟨.ref (s.heap.objs.size+1),_,I.laid (o:=.lst (ns'.map V.int)) (t':=s.toks) (λ_ _=>sortedAll_old) (uw _) ⟨by rw[bw];exact hz,out.toList,e,JP a1,by simpa[seqObj] using he⟩,rfl,q _ ns' (I.hok.fresh (uw _)) a2 a3⟩
theorem agj:ie X (.builtin "sorted") (λxs H Q=>∃(p:aq)(ns:List Str),xs=[.ref p]/\bR X.K H p (ns.map V.str)/\ns.length<64/\∀(l:aq)(ns':List Str),H l=aj->ns'.Perm ns->sortedS ns'=ao->Q (.ref l) (upd H l (.lst (ns'.map V.str)))):=by
 intro pins s σ H xs us Q I r h
 obtain⟨p,ns,rfl,hp,h64,q⟩:=h
 obtain⟨u,rfl,ru⟩:=vals1 r
 cases ru
 obtain⟨its,rv,pl,_⟩:=I.list hp
 have hi:StrsAre its ns:=JD rv;have hl:=rv.length;rw[bw] at hl;refine sorted_strs pl.isList hi (by lia) λout ns' a1 a2 a3=>?_
 obtain⟨e,he⟩:=sortedAll_at s.heap its out
 have hz:ns'.length<=cu:=by rw[a2.length_eq,iK];lia
 exact⟨.ref (s.heap.objs.size+1),_,I.laid (o:=.lst (ns'.map V.str)) (t':=s.toks) (λ_ _=>sortedAll_old) (uw _) ⟨by rw[bw];exact hz,out.toList,e,JQ a1,by simpa[seqObj] using he⟩,rfl,q _ ns' (I.hok.fresh (uw _)) a2 a3⟩
theorem jg.cj(r:jg k A):A.units+1<gj:=by have:=r.un;lia
abbrev Row:=aq×List Key
def TupAt(h:bC)(r:Row):Prop:=∃its,Vals (r.2.map kV) its/\IsTup h r.1 its.toArray
theorem TupAt.keep(t:TupAt h r)(k:∀b o,h.get? b=aa o->h'.get? b=aa o):TupAt h' r:=by
 obtain⟨its,v,o,e,c⟩:=t
 exact⟨its,v,o,k _ _ e,c⟩
theorem abM:∀{rows:List Row},(∀r∈rows,TupAt h r/\r.2.map bV=b::sh)->∃fs,KatTups h (rows.map λr=>dH r.1) fs/\fs.length=rows.length/\∀f∈fs,∃k,RelV (kV k) f/\bV k=b
 |[],_=>⟨[],KatTups.nil,rfl,by simp⟩
 |r::rows,ha=>by
  obtain⟨fs,t,l,g⟩:=abM (rows:=rows) λq hq=>ha q (fP _ hq)
  obtain⟨⟨its,v,o,e,c,n,d⟩,s⟩:=ha r dN
  obtain⟨a,ks⟩:=r
  cases ks with
  |nil=>cases s
  |cons k ks=>
   cases v with
   |@cons _ u _ us v1 v2=>
    refine⟨u::fs,KatTups.cons e c d (by simp) t,by simp[l],λf hf=>?_⟩
    rcases cB.mp hf with rfl|hf
    .exact⟨k,v1,(Bb s).1⟩
    .exact g f hf
theorem aiK(r:RelV (kV k) f)(e:bV k=b):Looks M h (typeOf f) (if b=ao then .type "int" else .type "str"):=by
 subst e;cases k with
 |inl i=>obtain⟨t,rfl⟩:=r;exact Looks.of_pure rfl
 |inr i=>obtain⟨t,rfl⟩:=r;exact Looks.of_pure rfl
theorem Rr(rows:List Row)(hi:i<rows.length):(rows.map λr=>dH r.1).getD i mX=.ref rows[i].1:=by simp[rY,hi]
def rowAt(rows:List Row)(i:Nat):List Key:=((rows[i]?).map (·.2)).getD []
theorem QZ{prog:bL}{w:bI}{A:cM}{s':aD}{rows:List Row}{b:Bool}{sh:List Bool}(ha:∀r∈rows,TupAt s'.heap r/\r.2.map bV=b::sh)(h0:0<rows.length)(Q:SortKind->aD->Prop)(q:Q (tuples' ao) s'):
  aR (model prog w) A (keyKind' (rows.map λr=>dH r.1).toArray) Q (λ_ _=>False) s':=by
 obtain⟨fs,t,l,g⟩:=abM ha
 refine kat_kind (T:=if b=ao then .type "int" else .type "str") t (by lia) (λv hv=>?_) (by cases b<;>rfl) (by cases b<;>exact q)
 obtain⟨k,r,e⟩:=g v hv
 exact aiK r e
theorem ak7(ha:∀r∈rows,TupAt s'.heap r/\r.2.map bV=sh)(hi:i<rows.length)(hj:j<rows.length)(C:Bool->aD->Prop)(q:C (fD (rowAt rows i) (rowAt rows j)) s'):
  kas_ask prog w A (tuples' ao) (rows.map λr=>dH r.1) i j C s':=by
 obtain⟨⟨its,v,o,e,c,n,d⟩,s1⟩:=ha rows[i] (yS hi)
 obtain⟨⟨its2,v2,o2,e2,c2,n2,d2⟩,s2⟩:=ha rows[j] (yS hj)
 unfold kas_ask;rw[Rr rows hi,Rr rows hj];have l1:=v.length;have l2:=v2.length;have l3:rows[i].2.length=rows[j].2.length:=by
  have:=congrArg mq (s1.trans s2.symm);simpa using this
 refine kat_lt e d e2 d2 ?_;have ez:decide (its.toArray.size<its2.toArray.size)=aJ:=by
  rw[gM];simp only[gG];rw[bw] at l1 l2;lia
 rw[ez];have q':C (fD rows[i].2 rows[j].2) s':=by
  unfold rowAt at q;rw[jJ hi,jJ hj] at q;exact q
 exact aaO (by simpa using v) (by simpa using v2) (s1.trans s2.symm) q'
theorem JR{rows:List Row}{p:List Nat}(h:p.Perm (fB rows.length)):(p.map λi=>rows.getD i (0,[])).Perm rows:=by
 have e:(fB rows.length).map (λi=>rows.getD i (0,[]))=rows:=Aq (by simp) λi h1 h2=>by simp[rY,h2]
 exact(h.map _).trans (by rw[e])
theorem Q0{rows:List Row}{p:List Nat}(h:p.Perm (fB rows.length)):(p.map λi=>(rows.map λr=>dH r.1).getD i mX)=(p.map λi=>rows.getD i (0,[])).map λr=>dH r.1:=by
 rw[dW];refine u9 λi hi=>?_
 have hlt:=qP.mp (h.mem_iff.mp hi);rw[Rr rows hlt];simp[rY,hlt]
theorem abN:∀{rows:List Row}{us:List Value},Vals (rows.map λr=>V.ref r.1) us->us=rows.map λr=>dH r.1
 |[],_,h=>by cases h;rfl
 |r::rows,_,h=>by
  cases h with
  |cons a b=>
   cases a;rw[abN b];rfl
theorem JS:∀(rows:List Row),Vals (rows.map λr=>V.ref r.1) (rows.map λr=>dH r.1)
 |[]=>.nil
 |r::rows=>.cons rfl (JS rows)
end
section
variable{K:aM}{T:iD}{J:It}{n:Nat}{vs:Nat->List V}{G:Hp->Prop}{ts:TT}{em:TM}{fs:St}{H0 H1:Hp}{D:aq}{done:Hp->Prop}
end
theorem Rt(A:cM)(s:aD)(ra:RelV (kV a) u)(rb:RelV (kV b) v)(ht:bV a=bV b):JB A s u v (decide (a=b)):=by
 rw[<-abL ht];exact Uo ra rb (J5 a) (J5 b)
theorem J6(A:cM)(s:aD)(ra:RelV (kV a) u)(rb:RelV (kV b) v)(ht:bV a=bV b)(prog:bL)(w:bI)(E:Value->aD->Prop)(Q:Value->aD->Prop)(h:Q (.bool (kLt a b)) s):
  aR (model prog w) A (Eg .Lt u v) Q E s:=by
 cases a with
 |inl i=>
  cases b with
  |inr y=>cases ht
  |inl j=>
   obtain⟨t,rfl⟩:=ra
   obtain⟨t',rfl⟩:=rb
   exact(lt_int h:aR (model prog w) A (fU .Lt _ _) Q E s)
 |inr x=>
  cases b with
  |inl y=>cases ht
  |inr y=>
   obtain⟨t,rfl⟩:=ra
   obtain⟨t',rfl⟩:=rb
   exact(lt_str h:aR (model prog w) A (fU .Lt _ _) Q E s)
section
open PySem.SeqAt
open PySem.AutoSeq1 (wpAny_loadPart')
open PySem.MeetsSeq PySem.MeetsSeq2 PySem.MeetsSeq3
theorem agL(l b:aq)(items items2:Array Value)(n n2:Nat)(dd dd2:Option aq)(sl sl2:Array (Option Value))(ns ms:List Key)(hi:Vals (ns.map kV) items.toList)(hj:Vals (ms.map kV) items2.toList)(hty:ns.map bV=ms.map bV):
  Meets (lA.«tuple.__lt__» ⟨[.ref l,.ref b],[]⟩)
   (λ_ R s=>s.heap.get? l=aa {cls:=.type "tuple",dict:=dd,data:=.seq items n,slots:=sl}/\s.heap.get? b=aa {cls:=.type "tuple",dict:=dd2,data:=.seq items2 n2,slots:=sl2}/\R (.ok (.ret (.bool (fD ns ms)))) s):=
 .of_wp λprog w A R s h=>by
  obtain⟨hp,g,d,tk,os⟩:=s;obtain⟨hl,hb,h⟩:=h
  have f2:=afc;have z0:ns.length=ms.length:=by have:=congrArg mq hty;simpa using this
  have z1:items.size=ns.length:=by have:=hi.length;rw[bw] at this;simpa using this.symm
  have z2:items2.size=ms.length:=by have:=hj.length;rw[bw] at this;simpa using this.symm
  wp_walk using qe hl,qe hb,agk _ (λrest b s'=>b.1=aj/\s'=⟨hp,g,d,tk,os⟩/\∃(vs ws:List Value)(ns' ms':List Key),rest=vs.zip ws/\
   Vals (ns'.map kV) vs/\Vals (ms'.map kV) ws/\ns'.map bV=ms'.map bV/\R (.ok (.ret (.bool (fD ns' ms')))) ⟨hp,g,d,tk,os⟩) _
  case turn=>
   rintro⟨y,x⟩ rest b s' ⟨hb',rfl,vs,ws,ns',ms',hz,MN,hwi,hlen,hR⟩
   cases ns' with
   |nil=>cases MN;rw[List.zip_nil_left] at hz;cases hz
   |cons a ns'=>
    cases ms' with
    |nil=>cases hlen
    |cons c ms'=>
     cases MN with
     |cons r1 adX=>
      cases hwi with
      |cons r2 adY=>
       rw[Ib] at hz;injection hz with hyx hrest
       injection hyx with hy hx
       subst hy hx;have t1:bV a=bV c:=(Bb hlen).1;have t2:=(Bb hlen).2;unfold fD at hR;refine aG (Rt A.in1 ⟨hp,g,d,tk,os⟩ r1 r2 t1 prog w _ _ ?_);by_cases hac:a=c
       .rw[bz hac] at hR;rw[gk hac];wp_walk
        exact⟨rfl,rfl,_,_,_,_,hrest,adX,adY,t2,hR⟩
       .rw[bH hac] at hR;rw[gM hac];have hri:=J6 A.in1 ⟨hp,g,d,tk,os⟩ r1 r2 t1 prog w;wp_walk using hri
        exact⟨_,rfl,by simpa using hR⟩
  case fin=>
   rintro⟨b1,b2⟩ s' ⟨hb',rfl,vs,ws,ns',ms',hz,MN,hwi,hlen,hR⟩
   simp only at hb';subst hb';have hv:fD ns' ms'=decide (items.size<items2.size):=by
    rw[gM (by lia)];cases ns' with
    |nil=>unfold fD;rfl
    |cons a ns'=>
     cases ms' with
     |nil=>cases hlen
     |cons c ms'=>
      cases MN with
      |cons r1 adX=>
       cases hwi with
       |cons r2 adY=>
        rw[Ib] at hz;cases hz
   rw[hv] at hR;wp_walk
   exact⟨_,rfl,by simpa[aeY] using hR⟩
  case h=>
   exact⟨rfl,rfl,items.toList,items2.toList,ns,ms,rfl,hi,hj,hty,h⟩
end
theorem ZR(hl:IsTup s.heap l items)(hb:IsTup s.heap b items2)(hi:Vals (ns.map kV) items.toList)(hj:Vals (ms.map kV) items2.toList)(hty:ns.map bV=ms.map bV)
  (hu:A.units<gj)(h:Q (.bool (fD ns ms)) s):aR (model prog w) A (fU .Lt (.ref l) (.ref b)) Q E s:=by
 obtain⟨⟨cls,dd,data,sl⟩,ho,hc,n,hd⟩:=id hl
 obtain⟨⟨cls2,dd2,data2,sl2⟩,ho2,hc2,n2,hd2⟩:=id hb
 simp only at hc hd hc2 hd2;subst hc hd hc2 hd2;exact Xh (op:=.Lt) ⟨_,ho,rfl⟩ ⟨_,ho2,rfl⟩ afu afo (afg _ _) (agL l b items items2 n n2 dd dd2 sl sl2 ns ms hi hj hty)
  ⟨ho,ho2,show qQ (fD ns ms)≠Xo/\Q (.bool (fD ns ms)) s from⟨(λx=>nomatch x),h⟩⟩ hu
mutual
def RX(H:Hp):au->V->Prop
 |.none,v=>v=.non
 |.bool b,v=>v=.bl b
 |.int i,v=>v=.int i
 |.str x,v=>v=.str x
 |.list ds,v=>∃a vs,v=.ref a/\H a=aa (.lst vs)/\nW H ds vs
 |.tuple ds,v=>∃a vs,v=.ref a/\H a=aa (.tup vs)/\nW H ds vs
 |.dict _,_=>False
def nW(H:Hp):List au->List V->Prop
 |[],vs=>vs=[]
 |d::ds,vs=>∃v r,vs=v::r/\RX H d v/\nW H ds r
end
mutual
theorem RX.same(s:bN H H'):∀{d:au}{v:V},RX H d v->RX H' d v
 |.none,_,h=>h
 |.bool _,_,h=>h
 |.int _,_,h=>h
 |.str _,_,h=>h
 |.list ds,_,h=>by
  obtain⟨a,vs,e,q,r⟩:=h
  exact⟨a,vs,e,s _ _ q,nW.same s r⟩
 |.tuple ds,_,h=>by
  obtain⟨a,vs,e,q,r⟩:=h
  exact⟨a,vs,e,s _ _ q,nW.same s r⟩
theorem nW.same(s:bN H H'):∀{ds:List au}{vs:List V},nW H ds vs->nW H' ds vs
 |[],_,h=>h
 |d::ds,vs,h=>by
  obtain⟨v,r,e,q,t⟩:=h
  exact⟨v,r,e,RX.same s q,nW.same s t⟩
end
mutual
theorem RX.rd{K:aM}{H:Hp}:∀{d:au}{v:V},RX H d v->RD K H d v
 |.none,_,h=>h
 |.bool _,_,h=>h
 |.int _,_,h=>h
 |.str _,_,h=>h
 |.list ds,_,h=>by
  obtain⟨a,vs,e,q,r⟩:=h
  exact⟨a,vs,e,bR.of q,nW.rd r⟩
 |.tuple ds,_,h=>by
  obtain⟨a,vs,e,q,r⟩:=h
  exact⟨a,vs,e,dj.of q,nW.rd r⟩
theorem nW.rd{K:aM}{H:Hp}:∀{ds:List au}{vs:List V},nW H ds vs->pD K H ds vs
 |[],_,h=>h
 |d::ds,vs,h=>by
  obtain⟨v,r,e,q,t⟩:=h
  exact⟨v,r,e,RX.rd q,nW.rd t⟩
end
def Hg:au->Value
 |.none=>.type "NoneType"
 |.bool _=>.type "bool"
 |.int _=>.type "int"
 |.str _=>.type "str"
 |.list _=>.type "list"
 |.tuple _=>.type "tuple"
 |.dict _=>.type "dict"
theorem RX.ty{K:aM}{H:Hp}{d:au}{v:V}(h:RX H d v):nO K H v (Hg d):=by
 cases d with
 |none=>cases(show v=.non from h);exact .non
 |bool b=>cases(show v=.bl b from h);exact .bl b
 |int i=>cases(show v=.int i from h);exact .int i
 |str x=>cases(show v=.str x from h);exact .str x
 |list ds=>obtain⟨a,vs,rfl,e,_⟩:=h;exact .lst e
 |tuple ds=>obtain⟨a,vs,rfl,e,_⟩:=h;exact .tup e
 |dict ds=>exact(show False from h).elim
section
variable{X:Cx}
theorem ahS(hu:X.A.units<gj):dm X (fU .Lt) (λx y H Q=>∃a b ks js,x=.ref a/\y=.ref b/\H a=aa (.tup (ks.map kV))/\H b=aa (.tup (js.map kV))/\ks.map bV=js.map bV/\Q (.bl (fD ks js)) H):=by
 intro pins s σ H x y v u Q I rx ry h
 obtain⟨a,b,ks,js,rfl,rfl,ha,hb,ht,q⟩:=h
 cases rx;cases ry
 obtain⟨_,its,r1,p1⟩:=(show fL X.prog X.w H s.heap a (.tup (ks.map kV)) from I.hok a _ ha)
 obtain⟨_,its2,r2,p2⟩:=(show fL X.prog X.w H s.heap b (.tup (js.map kV)) from I.hok b _ hb)
 exact ZR p1 p2 (by simpa using r1) (by simpa using r2) ht hu (gJ I q rfl)
theorem Qx(hu:X.A.units<gj):dm X (fU .Lt) (λx y H Q=>(∃a b,x=kV a/\y=kV b/\bV a=bV b/\Q (.bl (kLt a b)) H)\/∃a b ks js,x=.ref a/\y=.ref b/\H a=aa (.tup (ks.map kV))/\H b=aa (.tup (js.map kV))/\ks.map bV=js.map bV/\Q (.bl (fD ks js)) H):=by
 refine dm.or ?_ (ahS hu);intro pins s σ H x y v u Q I rx ry h
 obtain⟨a,b,rfl,rfl,ht,q⟩:=h
 exact J6 X.A s rx ry ht _ _ _ _ (gJ I q rfl)
end
structure Ord(lt:Nat->Nat->Bool):Prop where
 adZ:∀a b,lt a b=ao->lt b a=aJ
 trans:∀a b c,lt b a=aJ->lt c b=aJ->lt c a=aJ
section
variable{N:Nat}{lt:Nat->Nat->Bool}(O:Ord lt)
abbrev at0(p:Array Nat)(i:Nat):Nat:=p.getD i 0
def Up(lt:Nat->Nat->Bool)(p:Array Nat)(n:Nat):Prop:=∀i j,i<j->j<n->lt (at0 p j) (at0 p i)=aJ
def Dn(lt:Nat->Nat->Bool)(p:Array Nat)(n:Nat):Prop:=∀i j,i<j->j<n->lt (at0 p i) (at0 p j)=aJ
theorem Ut(p:Array Nat)(i:Nat):at0 p i=(p[i]?).getD 0:=uh
theorem acH(hj:j<=p.size)(k:Nat):at0 (kas_rev p i j) k=if i<=k/\k<j then at0 p (i+j-1-k) else at0 p k:=by
 rw[Ut,Ut,Ut];unfold kas_rev;rw[getElem?_mirror_all hj];split<;>rfl
theorem KP.size(h:KP N p):p.size=N:=by
 have:=h.length_eq;rw[lZ] at this;simpa using this
include O
theorem Up.succ(h:Up lt p n)(hn:1<=n)(hs:lt (at0 p n) (at0 p (n-1))=aJ):Up lt p (n+1):=λi j hij hj=>by
 by_cases e:j<n
 .exact h i j hij e
 .have ej:j=n:=by lia
  subst ej;by_cases ei:i=j-1
  .rw[ei];exact hs
  .exact O.trans _ _ _ (h i (j-1) (by lia) (by lia)) hs
theorem Dn.succ(h:Dn lt p n)(hn:1<=n)(hs:lt (at0 p (n-1)) (at0 p n)=aJ):Dn lt p (n+1):=λi j hij hj=>by
 by_cases e:j<n
 .exact h i j hij e
 .have ej:j=n:=by lia
  subst ej;by_cases ei:i=j-1
  .rw[ei];exact hs
  .exact O.trans _ _ _ hs (h i (j-1) (by lia) (by lia))
theorem Dn.turn(h:Dn lt p n)(hn:n<=p.size):Up lt (kas_rev p 0 n) n:=λa b hab hb=>by
 rw[acH hn,acH hn,bz ⟨by lia,by lia⟩,bz ⟨by lia,by lia⟩];exact h _ _ (by lia) (by lia)
end
theorem ak8(h:kLt a b=ao):kLt b a=aJ:=by
 cases a with
 |inl i=>
  cases b with
  |inr y=>cases h
  |inl j=>have:=of_decide_eq_true h;exact gM (by lia)
 |inr x=>
  cases b with
  |inl y=>cases h
  |inr y=>exact KeyOrd.klt_asymm (O:=strKind.toKeyOrd) (a:=x.cps.toList) (b:=y.cps.toList) h
theorem amQ(t1:bV a=bV b)(t2:bV b=bV c)(h:kLt a c=ao):kLt a b=ao\/kLt b c=ao:=by
 cases a with
 |inl i=>
  cases b with
  |inr y=>cases t1
  |inl j=>
   cases c with
   |inr y=>cases t2
   |inl k=>
    have h1:=of_decide_eq_true h;by_cases h2:i<j
    .exact .inl (gk h2)
    .exact .inr (gk (by lia))
 |inr x=>
  cases b with
  |inl y=>cases t1
  |inr y=>
   cases c with
   |inl k=>cases t2
   |inr z=>exact strKind.negTrans x.cps.toList y.cps.toList z.cps.toList h
theorem str_of_list{x y:Str}(h:x.cps.toList=y.cps.toList):x=y:=by
 cases x;cases y;simp at h;simp[h]
theorem amR(t:bV a=bV b)(h1:kLt a b=aJ)(h2:kLt b a=aJ):a=b:=by
 cases a with
 |inl i=>
  cases b with
  |inr y=>cases t
  |inl j=>
   have g1:=of_decide_eq_false h1;have g2:=of_decide_eq_false h2;have:i=j:=by lia
   rw[this]
 |inr x=>
  cases b with
  |inl y=>cases t
  |inr y=>
   have:=strKind.total x.cps.toList y.cps.toList h1 h2;rw[str_of_list this]
def vI(rows:List Row)(i:Nat):List Key:=(rows.getD i (rows.headD (0,[]))).2
def mF(rows:List Row)(i j:Nat):Bool:=fD (vI rows i) (vI rows j)
def runK{α:Type}(lt:Nat->Nat->Bool):KasT α->α
 |.ret a=>a
 |.ask i j k=>runK lt (k (lt i j))
theorem fM.run:∀{t:KasT α},fM N lt t R->fM N lt t (λa=>R a/\a=runK lt t)/\R (runK lt t)
 |.ret a,h=>⟨⟨h,rfl⟩,h⟩
 |.ask i j k,h=>let r:=fM.run h.2.2;⟨⟨h.1,h.2.1,r.1⟩,r.2⟩
def rE(ks:List (List Key)):List Nat:=if ks.length<2 then fB ks.length else(runK (λi j=>fD (ks.getD i (ks.headD [])) (ks.getD j (ks.headD []))) (kas_sort ks.length)).toList
def tM(ks:List (List Key)):List (List Key):=(rE ks).map λi=>ks.getD i (ks.headD [])
theorem aiL(ks:List (List Key)):(rE ks).Perm (fB ks.length):=by
 unfold rE;split
 .exact yW _
 .exact(fM.run (abK (lt:=λi j=>fD (ks.getD i (ks.headD [])) (ks.getD j (ks.headD []))) (by lia))).2
theorem aiM(ks:List (List Key)):(tM ks).Perm ks:=by
 have:=(aiL ks).map λi=>ks.getD i (ks.headD [])
 refine this.trans (agv ?_);refine Aq (by simp) λi h1 h2=>?_
 simp[h2]
theorem J7(rows:List Row)(i:Nat):vI rows i=(rows.map (·.2)).getD i ((rows.map (·.2)).headD []):=by
 unfold vI;cases h:rows[i]? with
 |none=>cases rows<;>simp_all [rY]
 |some r=>simp[rY,h]
theorem Q3(hn:n=rows.length)(h2:2<=n):fM n (mF rows) (kas_sort n) λp=>KP n p/\p.toList=rE (rows.map (·.2)):=by
 subst hn;have e:mF rows=λi j=>fD ((rows.map (·.2)).getD i ((rows.map (·.2)).headD [])) ((rows.map (·.2)).getD j ((rows.map (·.2)).headD [])):=by
  funext i j;rw[mF,J7,J7]
 refine(fM.run (abK (lt:=mF rows) (N:=rows.length) (by lia))).1.mono λp hp=>⟨hp.1,?_⟩
 unfold rE;rw[bH (by rw[bw];lia),hp.2,e,bw]
theorem Qy{rows:List Row}{n:Nat}(hn:n=rows.length)(h:n<2):fB n=rE (rows.map (·.2)):=by
 subst hn;unfold rE;rw[bz (by rw[bw];exact h),bw]
theorem Th{rows:List Row}{p:List Nat}(h:p.Perm (fB rows.length))(hr:p=rE (rows.map (·.2))):(p.map λi=>rows.getD i (0,[])).map (·.2)=tM (rows.map (·.2)):=by
 unfold tM;rw[<-hr,dW];refine u9 λi hi=>?_
 have hlt:=qP.mp (h.mem_iff.mp hi);simp[rY,hlt]
section
variable{X:Cx}
theorem Ru(ha:∀r∈rows,TupAt s'.heap r/\r.2.map bV=sh)(hi:i<rows.length)(hj:j<rows.length)(C:Bool->aD->Prop)(q:C (mF rows i j) s'):
  kas_ask prog w A (tuples' ao) (rows.map λr=>dH r.1) i j C s':=by
 refine ak7 ha hi hj C ?_;have e1:vI rows i=rowAt rows i:=by simp[vI,rowAt,rY,hi]
 have e2:vI rows j=rowAt rows j:=by simp[vI,rowAt,rY,hj]
 unfold mF at q;rw[e1,e2] at q;exact q
theorem af0:ie X (.builtin "sorted") (λxs H Q=>∃(p:aq)(rows:List Row)(b:Bool)(sh:List Bool),xs=[.ref p]/\bR X.K H p (rows.map λr=>V.ref r.1)/\rows.length<64/\(∀r∈rows,H r.1=aa (.tup (r.2.map kV))/\r.2.map bV=b::sh)/\
  ∀(l:aq)(rows':List Row),H l=aj->rows'.Perm rows->rows'.map (·.2)=tM (rows.map (·.2))->Q (.ref l) (upd H l (.lst (rows'.map λr=>V.ref r.1)))):=by
 intro pins s σ H xs us Q I r h
 obtain⟨p,rows,b,sh,rfl,hp,h64,ha,q⟩:=h
 obtain⟨u,rfl,ru⟩:=vals1 r
 cases ru
 obtain⟨its,rv,pl,_⟩:=I.list hp
 have e0:=abN rv;subst e0;have tu:∀r∈rows,TupAt s.heap r/\r.2.map bV=b::sh:=λr hr=>by
  obtain⟨_,its,v,t⟩:=(show fL X.prog X.w H s.heap r.1 (.tup (r.2.map kV)) from I.hok r.1 _ (ha r hr).1)
  exact⟨⟨its,v,t⟩,(ha r hr).2⟩
 refine Zy (κ:=tuples' ao) (lt:=mF rows) (vs:=rows.map λr=>dH r.1) (Rl:=λp=>p=rE (rows.map (·.2))) (by simpa using h64) (λh2=>Q3 (by rw[bw]) h2) (λh2=>Qy (by rw[bw]) h2) (λR hR=>?_) (λh2 s' k Q' q'=>QZ (λr hr=>⟨(tu r hr).1.keep k,(tu r hr).2⟩) (by rw[bw] at h2;lia) Q' q')
  (λh2 s' k i j hi hj C q'=>Ru (sh:=b::sh) (λr hr=>⟨(tu r hr).1.keep k,(tu r hr).2⟩) (by simpa using hi) (by simpa using hj) C q') λp D h' c tk hp' hrl hD k e=>?_
 .refine collect_list pl.isList (hR _ _ s.toks ?_ (λb o e=>?_) rfl)
  .rw[Heap.size_update,size_push'];lia
  .have hlt:b≠s.heap.objs.size:=eO (cF e);rw[Heap.get?_update_ne _ _ _ _ hlt];exact cW _ e
 .rw[bw] at hp';rw[Q0 hp'] at e
  refine⟨.ref D,_,I.laid (o:=.lst ((p.map λi=>rows.getD i (0,[])).map λr=>V.ref r.1)) k hD ⟨?_,_,c,JS _,by simpa[seqObj] using e⟩,rfl,q D _ (I.hok.fresh hD) (JR hp') (Th hp' hrl)⟩
  rw[bw,bw,hp'.length_eq,lZ,iK];lia
theorem Yl(hc:X.calm=ao):ie X (.builtin "sorted") (λxs H Q=>∃(d:aq)(kvs:List (List Key×V))(b:Bool)(sh:List Bool),xs=[.ref d]/\H d=aa (.dT kvs)/\kvs.length<64/\(∀kv∈kvs,kv.1.map bV=b::sh)/\
  ∀(l:aq)(rows:List Row),H l=aj->(rows.map (·.2)).Perm (kvs.map (·.1))->rows.map (·.2)=tM (kvs.map (·.1))->(∀r∈rows,H r.1=aa (.tup (r.2.map kV)))->Q (.ref l) (upd H l (.lst (rows.map λr=>V.ref r.1)))):=by
 intro pins s σ H xs us Q I r h
 obtain⟨d,kvs,b,sh,rfl,hd,h64,ha,q⟩:=h
 obtain⟨u,rfl,ru⟩:=vals1 r
 cases ru
 obtain⟨z,lo,ys,rel,o,es,ep,g1,g2,g3,g4,g5,g6⟩:=adp I.hok hd
 have raw:yq s.heap d es ep:=⟨o,g1,g2,g3⟩
 obtain⟨rows,r1,r2,r3⟩:∃rows:List Row,rows.map (·.2)=kvs.map (·.1)/\(∀r∈rows,H r.1=aa (.tup (r.2.map kV)))/\es.toList.map (·.key)=rows.map λr=>dH r.1:=by
  clear g5 g6 h64 ha q z hd;rw[g4];clear g4 raw g3;induction rel with
  |nil=>exact⟨[],rfl,by simp,rfl⟩
  |@cons p q ps qs h t ih=>
   obtain⟨rows,a1,a2,a3⟩:=ih
   refine⟨(q.2.1,p.1)::rows,by simp[a1],λr hr=>?_,?_⟩
   .rcases cB.mp hr with rfl|hr
    .exact h.2.1
    .exact a2 r hr
   .rw[cJ,cJ,a3];rfl
 have hlen:rows.length=kvs.length:=by
  have:=congrArg mq r1;simpa using this
 have hes:es.size=rows.length:=by
  have:=congrArg mq r3;simpa using this
 have tu:∀r∈rows,TupAt s.heap r/\r.2.map bV=b::sh:=λr hr=>by
  obtain⟨_,its,v,t⟩:=(show fL X.prog X.w H s.heap r.1 (.tup (r.2.map kV)) from I.hok r.1 _ (r2 r hr))
  have:r.2∈kvs.map (·.1):=by rw[<-r1];exact eU.mpr ⟨r,hr,rfl⟩
  obtain⟨kv,hk,e⟩:=eU.mp this
  exact⟨⟨its,v,t⟩,by rw[<-e];exact ha kv hk⟩
 refine Zy (κ:=tuples' ao) (lt:=mF rows) (vs:=rows.map λr=>dH r.1) (Rl:=λp=>p=rE (rows.map (·.2))) (by rw[bw];lia) (λh2=>Q3 (by rw[bw]) h2) (λh2=>Qy (by rw[bw]) h2) (λR hR=>?_) (λh2 s' k Q' q'=>QZ (λr hr=>⟨(tu r hr).1.keep k,(tu r hr).2⟩) (by rw[bw] at h2;lia) Q' q')
  (λh2 s' k i j hi hj C q'=>Ru (sh:=b::sh) (λr hr=>⟨(tu r hr).1.keep k,(tu r hr).2⟩) (by simpa using hi) (by simpa using hj) C q') λp D h' c tk hp' hrl hD k e=>?_
 .refine Qg (ak6 (es:=es) (ep:=ep) lo) (I.ok.hd hc) raw (by rw[iK];lia) λh' tk acc hsz kk hacc=>hR _ h' tk hsz kk ?_
  refine XM λi=>?_
  by_cases hi:i<es.size
  .have e1:acc.size=es.size:=hacc.1;have:=hacc.2 i (acc[i]'(by lia)) (by simp[e1,hi]);rw[Ak,m8 (by lia)];rw[<-this,<-r3,iJ,Ak]
  .have e1:acc.size=es.size:=hacc.1;rw[Al (by simp;lia),Al (by simp;lia)]
 .rw[bw] at hp';rw[Q0 hp'] at e
  refine⟨.ref D,_,I.laid (o:=.lst ((p.map λi=>rows.getD i (0,[])).map λr=>V.ref r.1)) k hD ⟨?_,_,c,JS _,by simpa[seqObj] using e⟩,rfl,q D _ (I.hok.fresh hD) (((JR hp').map _).trans (by rw[r1])) ((Th hp' hrl).trans (by rw[r1])) λr hr=>r2 r ((JR hp').mem_iff.mp hr)⟩
  rw[bw,bw,hp'.length_eq,lZ,iK];lia
end
abbrev vR:=List (Option au)
def sX(H:Hp)(Γ:vR)(σ:St):Prop:=σ.length=Γ.length/\∀(i:Nat)(d:au),Γ[i]?=aa (aa d)->∃v,σ[i]?=aa (aa v)/\RX H d v
theorem sX.same(h:sX H Γ σ)(s:bN H H'):sX H' Γ σ:=⟨h.1,λi d e=>let ⟨v,a,b⟩:=h.2 i d e;⟨v,a,b.same s⟩⟩
theorem sX.set(h:sX H Γ σ)(hv:RX H d v):sX H (Γ.set i (aa d)) (σ.set i (aa v)):=by
 refine⟨by rw[wQ,wQ];exact h.1,λj e he=>?_⟩
 by_cases hj:i=j
 .subst hj;rw[DG] at he;simp only[if_true] at he;split at he
  .rename_i hl;cases he
   refine⟨v,?_,hv⟩
   rw[DG];simp only[if_true];rw[bz (by rw[h.1];exact hl)]
  .cases he
 .rw[wH hj] at he;rw[wH hj];exact h.2 j e he
def er(Z:List aq)(H:Hp):Hp:=λb=>if b∈Z then aj else H b
theorem jn(h:er Z H b=aa o):H b=aa o:=by
 unfold er at h;split at h
 .cases h
 .exact h
theorem CJ(Z:List aq)(H:Hp):bN (er Z H) H:=λb o h=>jn h
theorem Ti(s:bN H H'):bN (er Z H) (er Z H'):=λb o h=>by
 unfold er at h⊢;split at h
 .cases h
 .rename_i n;rw[bH n];exact s _ _ h
theorem FJ(H:Hp):er [] H=H:=by
 funext b;simp[er]
def K9(t:TE)(Γ:vR)(d:au):Prop:=∀Z σ H (Q:VK),(∀b,b∈Z->H b≠aj)->sX (er Z H) Γ σ->(∀v H',bN H H'->RX (er Z H') d v->Q v H')->t σ H Q
def abO(t:TA)(Γ:vR)(ds:List au):Prop:=∀Z σ H (Q:List V->Hp->Prop),(∀b,b∈Z->H b≠aj)->sX (er Z H) Γ σ->(∀vs H',bN H H'->nW (er Z H') ds vs->Q vs H')->t σ H Q
section
variable{Γ:vR}{K:aM}
theorem K9.run(h:K9 t Γ d)(e:sX H Γ σ)(q:∀v H',bN H H'->RX H' d v->Q v H'):t σ H Q:=
 h [] σ H Q (λ_ m=>by cases m) (by rw[FJ];exact e) λv H' s r=>q v H' s (by rw[FJ] at r;exact r)
end
end L2
namespace HT
open PySem PySem.Spec PyProof.Rows
section
variable{prog:bL}{w:bI}{A:cM}{E:Value->aD->Prop}{s:aD}
theorem afH{t sl:aq}{items:Array Value}{vl vu:Value}{lo hi:Option Int}{Q:Value->aD->Prop}(ht:IsTup s.heap t items)(hs:s.heap.IsSliceOf sl vl vu .none)(pl:uG vl lo)(pu:uG vu hi)
  (hw:cH items.size 0 lo=0/\cH items.size items.size hi=items.size)(h:Q (.ref t) s):aR (model prog w) A (xH (.ref t) (.ref sl)) Q E s:=by
 obtain⟨os,hos,hcs,hds⟩:=id hs
 have hTs:s.TypeIs (.ref sl) "slice":=⟨os,hos,hcs⟩
 unfold xH
 try with_reducible refine mV ?_
 first|refine aG (bh ?_)|skip
 refine aG (afY ht.typeIs (by decide) ?_);refine aG (yM (name:=gf "__getitem__") ht.typeIs Nj
  (nY Nj ht.typeIs entry_tuple_getitem ?_ (args_tuple_getitem _ _)))
 show aR _ _ (ae8 (.ref t) >>= _) _ _ s;refine aG (tupleItemsOf_ ht ?_);refine aG (Jf hTs ?_);rw[bz (by decide)];refine aG (X5 hs pl pu ?_);have hyes:((((cH items.size 0 lo:Nat):Int)==0&&(1:Int)==1&&(cH items.size items.size hi-cH items.size 0 lo)==items.size)=ao):=by
  rw[hw.1,hw.2];simp
 show aR _ _ (if(((cH items.size 0 lo:Nat):Int)==0&&(1:Int)==1&&(cH items.size items.size hi-cH items.size 0 lo)==items.size)=ao then _ else _) _ _ s;rw[bz hyes];unfold aqR;refine aG (aG (Jf ht.typeIs (bh ?_)));rw[bz (by decide)];refine aG (zj ?_);exact bh ⟨_,rfl,bh h⟩
end
end HT
namespace L2
open PySem PySem.Spec PyProof.Rows PySem.W
section
variable{X:Cx}
def ao6(K:aM):V->Option Int->Option Int->Hp->VK->Prop:=λx lo hi H Q=>∃a xs,x=.ref a/\dj K H a xs/\(tK xs lo hi=xs->Q (.ref a) H)/\∀p,H p=aj->Q (.ref p) (upd H p (.tup (tK xs lo hi)))
theorem ak9:vZ X (ao6 X.K):=by
 intro pins s σ H x v vl vu lo hi sl Q I rx hs pl pu h
 obtain⟨a,xs,rfl,hx,q1,q2⟩:=h
 by_cases hw:HT.cH xs.length 0 lo=0/\HT.cH xs.length xs.length hi=xs.length
 .cases rx
  obtain⟨its,r,ht,hz⟩:=I.tuple hx
  have hlen:its.toArray.size=xs.length:=by rw[gG];exact r.length.symm
  refine⟨"tuple",_,PyProof.Rows.slot_tuple_getitem.lookup,ht.typeIs,?_⟩
  refine HT.afH ht hs pl pu (by rw[hlen];exact hw) ?_
  refine⟨.ref a,H,I,rfl,q1 ?_⟩
  unfold tK;rw[hw.1,hw.2];simp
 .exact amz pins s σ H _ v vl vu lo hi sl Q I rx hs pl pu ⟨a,xs,rfl,hx,hw,q2⟩
end
end L2
namespace HT
open PySem PySem.Spec PyProof.Rows
open Sem (wp)
open Builtin
end HT
namespace L2
open PySem PySem.Spec PyProof.Rows PySem.W
section
variable{X:Cx}
end
section
variable{Γ:vR}{K:aM}
end
section
variable{Γ:vR}{K:aM}
end
section
variable{Γ:vR}{K:aM}
end
section
variable{X:Cx}
theorem ahT(hu:X.A.units+64<gj):dm X (fU .NotEq) (λx y H Q=>∃d e,RX H d x/\RX H e y/\lN d=ao/\lN e=ao/\Q (.bl (!PyData.eqv d e)) H):=by
 intro pins s σ H x y v u Q I rx ry h
 obtain⟨d,e,hd,he,h1,h2,q⟩:=h
 obtain⟨as,ra⟩:=RD.reads I (hd.rd (K:=X.K)) rx
 obtain⟨bs,rb⟩:=RD.reads I (he.rd (K:=X.K)) ry
 exact ne_dataH ra rb h1 h2 hu ⟨.bl _,H,I,rfl,q⟩
end
section
variable{Γ:vR}{K:aM}
def amS(t:TE)(Γ:vR)(d:au):Prop:=∀σ H (Q:VK),sX H Γ σ->(∀v H',bN H H'->RX H' d v->Q v H')->t σ H Q
theorem K9.r(h:K9 t Γ d):amS t Γ d:=λσ H Q e q=>h.run e q
theorem abO.run(h:abO t Γ ds)(e:sX H Γ σ)(q:∀vs H',bN H H'->nW H' ds vs->Q vs H'):t σ H Q:=
 h [] σ H Q (λ_ m=>by cases m) (by rw[FJ];exact e) λv H' s r=>q v H' s (by rw[FJ] at r;exact r)
end
theorem Ks{xs:Array Nat}(h:xs.toList.Pairwise (·<·)){i k d:Nat}(hik:i<k)(hk:k<xs.size):xs.getD i d<xs.getD k d:=by
 have h1:=HQ.mp h i k (by simpa using Jg hik hk) (by simpa using hk) hik;have hi:i<xs.size:=Jg hik hk;rw[uh,uh,m8 hk,m8 hi];simpa using h1
theorem Rv{xs:Array Nat}{j:Nat}(h:xs.toList.Pairwise (·<·)):∀f lo hi,lo<=hi->hi<=xs.size->hi-lo<=f->(∀i,i<lo->xs.getD i j<j)->(∀i,hi<=i->i<xs.size->j<=xs.getD i j)->
  Ij xs j f lo hi<=xs.size/\(∀i,i<Ij xs j f lo hi->xs.getD i j<j)/\∀i,Ij xs j f lo hi<=i->i<xs.size->j<=xs.getD i j
 |0,lo,hi,h1,h2,h3,h4,h5=>by
  unfold Ij
  exact⟨by lia,h4,λi a b=>h5 i (by lia) b⟩
 |f+1,lo,hi,h1,h2,h3,h4,h5=>by
  unfold Ij;by_cases hlt:lo<hi
  .rw[bz hlt];dsimp only;by_cases hm:xs.getD ((lo+hi) / 2) j<j
   .rw[bz hm];refine Rv h f _ _ (by lia) h2 (by lia) (λi hi'=>?_) h5;by_cases e:i=(lo+hi) / 2
    .rw[e];exact hm
    .exact Jg (Ks h (by lia) (by lia)) hm
   .rw[bH hm];refine Rv h f _ _ (by lia) (by lia) (by lia) h4 (λi hi' hs=>?_);by_cases e:i=(lo+hi) / 2
    .rw[e];lia
    .have:=Ks (d:=j) h (show(lo+hi) / 2<i by lia) hs;lia
  .rw[bH hlt]
   exact⟨by lia,h4,λi a b=>h5 i (by lia) b⟩
theorem Q4(j:Nat)(h:xs.toList.Pairwise (·<·)):jM xs j<=xs.size/\(∀i,i<jM xs j->xs.getD i j<j)/\∀i,jM xs j<=i->i<xs.size->j<=xs.getD i j:=
 Rv h xs.size 0 xs.size (m9 _) (cg _) (by lia) (λi hi=>by lia) (λi a b=>by lia)
theorem abP(h:xs.toList.Pairwise (·<·)):jM xs 0=0:=by
 obtain⟨_,b,_⟩:=Q4 0 h
 cases e:jM xs 0 with
 |zero=>rfl
 |succ n=>have:=b 0 (by lia);lia
theorem ZS{xs:Array Nat}(h:xs.toList.Pairwise (·<·)){i:Nat}(hi:i<xs.size):jM xs (xs[i]+1)=i+1:=by
 obtain⟨a,b,c⟩:=Q4 (xs[i]+1) h
 have e:∀k d,(hk:k<xs.size)->xs.getD k d=xs[k]:=λk d hk=>by rw[uh,m8 hk];rfl
 have mono:∀p q,(hp:p<xs.size)->(hq:q<xs.size)->p<q->xs[p]<xs[q]:=λp q hp hq pq=>by
  have:=Ks (d:=0) h pq hq
  rwa [e p 0 hp,e q 0 hq] at this
 by_cases h1:jM xs (xs[i]+1)<=i
 .have:=c i h1 hi;rw[e i _ hi] at this;lia
 .by_cases h2:jM xs (xs[i]+1)=i+1
  .exact h2
  .have hs:i+1<xs.size:=by lia
   have:=b (i+1) (by lia);rw[e _ _ hs] at this;have:=mono i (i+1) hi hs (by lia);lia
structure jP(b:Bool)(t:vz):Prop where
 led:t.led=b
 Wj:t.dummies=#[]
 Wk:t.place.toList.Pairwise (·<·)
theorem jP.standIn(h:jP b t)(n:Nat):jP b (t.standIn n):=⟨h.led,rfl,by simpa[SetTable.standIn] using Nz⟩
theorem jP.orStandIn(h:jP b t)(n:Nat):jP b (t.orStandIn n):=by
 unfold SetTable.orStandIn;split
 .exact h
 .exact h.standIn n
theorem has_none(j:Nat):ag7 #[] j=aJ:=rfl
theorem ZV(hd:t.dummies=#[])(f:Nat->Int)(h:Int):∀fuel (p:SetTable.Probe) j d,p.dummy=aj->XN t f h fuel p=aa (.empty j d)->d=aj/\t.slot j=.empty
 |0,p,j,d,_,e=>by simp[XN] at e
 |fuel+1,p,j,d,hp,e=>by
  unfold XN at e;have adv:(t.advance p).dummy=aj:=by
   unfold SetTable.advance;split<;>exact hp
  cases hs:t.slot p.j with
  |empty=>
   rw[hs] at e;simp only[N7,ark] at e
   exact⟨by rw[<-e.2];exact hp,by rw[<-e.1];exact hs⟩
  |dummy=>
   unfold agM at hs;rw[hd] at hs;simp only[has_none] at hs;split at hs
   .cases hs
   .simp at hs
  |live i=>
   rw[hs] at e;simp only at e;split at e
   .cases e
   .exact ZV hd f h fuel _ j d adv e
theorem ahU{xs:Array Nat}{j:Nat}(h:xs.toList.Pairwise (·<·))(hn:xs[jM xs j]?≠aa j):(SetTable.insertAt xs (jM xs j) j).toList.Pairwise (·<·):=by
 obtain⟨a,b,c⟩:=Q4 j h
 rw[SetTable.toList_insertAt];have h':=h;rw[<-List.take_append_drop (jM xs j) xs.toList,HR] at h'
 obtain⟨h1,h2,h3⟩:=h'
 have e:∀k d,(hk:k<xs.size)->xs.getD k d=xs.toList[k]'(by simpa using hk):=λk d hk=>by rw[uh,m8 hk];simp
 have lo:∀x,x∈xs.toList.take (jM xs j)->x<j:=λx hx=>by
  obtain⟨i,hi,rfl⟩:=wL hx
  have hi':i<jM xs j:=by simp at hi;lia
  have:=b i hi';rw[e i j (by lia)] at this;rw[af1];exact this
 have hi:∀x,x∈xs.toList.drop (jM xs j)->j<x:=λx hx=>by
  obtain⟨i,hi,rfl⟩:=wL hx
  have hs:jM xs j+i<xs.size:=by simp at hi;lia
  have h0:=c (jM xs j) (cg _) (by lia);have ne:xs.getD (jM xs j) j≠j:=λz=>hn (by
   have hb:jM xs j<xs.size:=by lia
   rw[uh,m8 hb] at z;rw[m8 hb];simpa using z)
  rw[List.getElem_drop,<-e _ j hs];by_cases z:i=0
  .subst z;simp only[Zd];lia
  .have:=Ks (d:=j) h (show jM xs j<jM xs j+i by lia) hs;lia
 rw[HR]
 refine⟨h1,vd.mpr ⟨hi,h2⟩,λx hx y hy=>?_⟩
 rcases cB.mp hy with rfl|hy
 .exact lo x hx
 .exact h3 x hx y hy
theorem jP.layNew(h:jP b t)(es:Array (Int×Value))(hs:Int)(x:Value):jP b (layNew t es hs x).2.1:=by
 unfold PySem.layNew;cases hf:t.freeSlot hs with
 |none=>exact h.standIn _
 |some q=>
  obtain⟨slot,wd⟩:=q
  have free:t.slot slot=.empty:=by
   unfold SetTable.freeSlot at hf;split at hf
   .rename_i j d hp
    obtain⟨rfl,hj⟩:=ZV h.Wj _ _ _ _ _ _ rfl hp
    simp only[N7,agN] at hf;rw[<-hf.1];exact hj
   .cases hf
  have hn:t.place[jM t.place slot]?≠aa slot:=λz=>by
   unfold agM at free;simp[z] at free
  show jP b ((t.put slot).1.orStandIn _);refine jP.orStandIn (t:=(t.put slot).1) ⟨h.led,?_,ahU h.Wk hn⟩ _
  show(if ag7 t.dummies slot then _ else t.dummies)=#[]
  rw[h.Wj];rfl
theorem jP.relayAll(h:jP b t)(es:Array (Int×Value))(n:Nat):jP b (relayAll t es n).2.1:=by
 unfold Iw;split
 .rename_i t' order hr;dsimp only;split
  .unfold SetTable.relaid SetTable.laid at hr;cases ho:SetTable.layClean (SetTable.sizeAbove n-1) (es.map (·.1)) with
   |none=>simp[ho] at hr
   |some owner=>
    simp only[ho,Option.bind_eq_bind,jx,Option.pure_def,N7,agN] at hr;rw[<-hr.1]
    refine⟨h.led,rfl,?_⟩
    simp only[List.map_filterMap];refine arq _ (λx y hxy=>?_) Nz;intro u hu v hv;simp only[Ai] at hu hv
    obtain⟨p,⟨_,_,rfl⟩,rfl⟩:=hu
    obtain⟨q,⟨_,_,rfl⟩,rfl⟩:=hv
    exact hxy
  .exact h.standIn _
 .exact h.standIn _
theorem jP.plain(h:jP b t)(v:Bool):jP b {t with plain:=v}:=⟨h.led,h.Wj,h.Wk⟩
theorem jP.fresh(b:Bool):jP b (.fresh 0 0 b):=⟨rfl,rfl,.nil⟩
end L2
namespace L2
open PySem PySem.Spec PySem.W
section
variable{prog:bL}{w:bI}{T:Type}[DecidableEq T](knd:za prog w T)
def bt(w:bI):Bool:=!(w.params.followText "set-order")
inductive lJ:List (Int×Value)->List T->Prop
 |nil:lJ [] []
 |cons {e:Int×Value} {k:T} {es:List (Int×Value)} {ks:List T}:(knd.is k e.2=ao/\e.1=knd.hash k/\e.2.scannable=ao)->lJ es ks->lJ (e::es) (k::ks)
def o8(h:bC)(a:aq)(ks:List T):Prop:=∃o es ep t,h.get? a=aa o/\o.ExactSet/\o.data=.set es ep t/\(∃ks',lJ knd es.toList ks'/\ks'.Perm ks)/\es.size<qU/\t.fits es.size=ao/\jP (bt w) t
def mJ(ks:List T)(k:T):List T:=if k∈ks then ks else ks++[k]
variable{knd}
theorem lJ.elems(h:lJ knd es ks):ElemsOf knd es:=by
 induction h with
 |nil=>intro e he;cases he
 |cons a _ ih=>
  intro e he;rcases cB.mp he with rfl|he
  .exact⟨⟨_,a.1,a.2.1⟩,a.2.2⟩
  .exact ih e he
theorem lJ.len(h:lJ knd es ks):es.length=ks.length:=by
 induction h with
 |nil=>rfl
 |cons _ _ ih=>simp[ih]
theorem lJ.perm(p:es'.Perm es):∀{ks:List T},lJ knd es ks->∃ks',lJ knd es' ks'/\ks'.Perm ks:=by
 induction p with
 |nil=>intro ks h;exact⟨ks,h,.refl _⟩
 |cons x _ ih=>
  intro ks h;cases h with
  |cons a r=>
   obtain⟨ks',h1,h2⟩:=ih r
   exact⟨_::ks',.cons a h1,h2.cons _⟩
 |swap x y l=>
  intro ks h;cases h with
  |cons a r=>
   cases r with
   |cons b r=>exact⟨_::_::_,.cons b (.cons a r),.swap ..⟩
 |trans _ _ ih1 ih2=>
  intro ks h
  obtain⟨k2,h1,p1⟩:=ih2 h
  obtain⟨k3,h2,p2⟩:=ih1 h1
  exact⟨k3,h2,p2.trans p1⟩
theorem lJ.push(h:lJ knd es ks)(hk:knd.is k x=ao)(hx:x.scannable=ao):lJ knd (es++[(knd.hash k,x)]) (ks++[k]):=by
 induction h with
 |nil=>exact .cons ⟨hk,rfl,hx⟩ .nil
 |cons a _ ih=>exact .cons a ih
theorem lJ.mem(h:lJ knd es ks)(hm:x∈es)(hp:knd.is k x.2=ao):k∈ks:=by
 induction h with
 |nil=>cases hm
 |cons a _ ih=>
  rcases cB.mp hm with rfl|hm
  .cases knd.inj _ _ _ hp a.1;exact dN ..
  .exact fP _ (ih hm)
theorem lJ.none(h:lJ knd es ks)(e:es.findIdx? (λe=>knd.is k e.2)=.none):k∉ks:=by
 have e':=List.findIdx?_eq_none_iff.mp e;clear e;induction h with
 |nil=>intro h;cases h
 |cons a _ ih=>
  intro hm;rcases cB.mp hm with rfl|hm
  .have:=e' _ (dN ..);rw[a.1] at this;cases this
  .exact ih (λx hx=>e' x (fP _ hx)) hm
variable{A:cM}{E:Value->aD->Prop}{s:aD}
theorem abQ{h:bC}{a:aq}{o:Obj}{es es':Array (Int×Value)}{ep:Nat}{t t':vz}{ks:List T}(ho:h.get? a=aa o)(ex:o.ExactSet)(hd:o.data=.set es ep t)(e:∃ks',lJ knd es'.toList ks'/\ks'.Perm ks)
  (hb:es'.size<qU)(hf:t'.fits es'.size=ao)(tb:jP (bt w) t'):
  ∃o',(h.update a (Qz es' t')).get? a=aa o'/\o'.ExactSet/\o'.data=.set es' (ep+1) t'/\o8 knd (h.update a (Qz es' t')) a ks:=by
 have g:=yN (Qz es' t') ho (by rw[putSet_of es' t' hd];rfl);rw[putSet_of es' t' hd] at g
 exact⟨_,g,ex,rfl,_,es',ep+1,t',g,ex,rfl,e,hb,hf,tb⟩
theorem ala{a:aq}{k:T}{x:Value}{ks:List T}{Q:Bool->aD->Prop}(hk:knd.is k x=ao)(hx:x.scannable=ao)(hS:o8 knd s.heap a ks)(room:ks.length+1<qU)
  (h:∀b h',zb a s.heap h'->o8 knd h' a (mJ ks k)->Q b {s with heap:=h'}):aR (model prog w) A (setAddHashed a x (knd.hash k)) Q E s:=by
 obtain⟨o,es,ep,t,ho,ex,hd,⟨k0,ek,pk⟩,hb,hf,tb⟩:=hS
 have sz:es.size=ks.length:=by rw[<-j5,ek.len,pk.length_eq]
 have el:=ek.elems;have mono:∀{u:Unit->aD->Prop}{s1:aD}(g:Bool),u () s1->∀r:Sem Unit,(r=rule "set.scan.the-table-gave-way"\/r=pure ())->aR (model prog w) A r u E s1:=λg hu r hr=>by
  rcases hr with rfl|rfl
  .exact zj hu
  .exact bh hu
 unfold setAddHashed setAddHashedIn;refine mV (aG (DK ho hd hf ?_));simp only[byScan_of hx hb el,if_true];unfold setAddByScan;refine aG (aG (zj (aG (wpAny_setScan_of hk ho hd hf el ?_))));cases hr:es.toList.findIdx? (λe=>knd.is k e.2) with
 |some j=>
  obtain⟨hj,hp,_⟩:=List.findIdx?_eq_some_iff_getElem.mp hr
  have hm:k∈ks:=pk.mem_iff.mp (ek.mem (yS hj) hp);refine bh (bh (h _ s.heap (XQ a s.heap) ?_));rw[mJ,bz hm]
  exact⟨o,es,ep,t,ho,ex,hd,⟨k0,ek,pk⟩,hb,hf,tb⟩
 |none=>
  have hm:k∉ks:=λz=>ek.none hr (pk.mem_iff.mpr z)
  have pn:=layNew_perm t es (knd.hash k) x;have fn:=layNew_fits t es (knd.hash k) x;have tn:=tb.layNew es (knd.hash k) x;dsimp only;generalize layNew t es (knd.hash k) x=L at pn fn tn⊢
  obtain⟨es1,t1,wd,gv⟩:=L
  dsimp only at pn fn tn⊢;rw[af2] at pn
  obtain⟨k1,e1,p1⟩:=(ek.push hk hx).perm pn
  have ak:mJ ks k=ks++[k]:=by rw[mJ,bH hm]
  have q1:∃ks',lJ knd es1.toList ks'/\ks'.Perm (mJ ks k):=⟨k1,e1,by rw[ak];exact p1.trans (pk.append_right _)⟩
  have yH:es1.size=es.size+1:=by rw[<-j5,pn.length_eq,gb,j5];rfl
  have b1:es1.size<qU:=by lia
  refine aG (mono gv ?_ _ (by cases gv<;>first|exact .inl rfl|exact .inr rfl));have tail:∀t2:vz,t2.fits es1.size=ao->jP (bt w) t2->aR (model prog w) A (do
    storeSet a es1 t2
    if(!wd&&t2.tooFull)=ao then do
      (match(Iw t2 es1 (Ba es1.size)).2.2 with|true=>rule "set.scan.the-table-gave-way" |false=>pure ())
      storeSet a (Iw t2 es1 (Ba es1.size)).1 (Iw t2 es1 (Ba es1.size)).2.1
      pure (aa ao)
     else pure (aa ao)) (λr s'=>aR (model prog w) A (match r with|some added=>pure added|none=>setAddHashedIn a x (knd.hash k) 99999) Q E s') E s:=λt2 f2 tb2=>by
   obtain⟨o1,g1,ex1,d1,S1⟩:=abQ (knd:=knd) ho ex hd q1 b1 f2 tb2
   refine aG (af3 ho hd ?_ (XR b1));have xW:=rN s.heap a (Qz es1 t2);split
   .have pr:=relayAll_perm t2 es1 (Ba es1.size);have fr:=relayAll_fits t2 es1 (Ba es1.size);have tr:=tb2.relayAll es1 (Ba es1.size);generalize Iw t2 es1 (Ba es1.size)=L2 at pr fr tr⊢
    obtain⟨es2,t3,gv2⟩:=L2
    dsimp only at pr fr tr⊢
    obtain⟨k2,e2,p2⟩:=q1
    obtain⟨k3,e3,p3⟩:=e2.perm pr
    have sz2:es2.size=es1.size:=by rw[<-j5,pr.length_eq,j5]
    have b2:es2.size<qU:=by lia
    refine aG (mono gv2 ?_ _ (by cases gv2<;>first|exact .inl rfl|exact .inr rfl));refine aG (af3 g1 d1 ?_ (XR b2))
    obtain⟨_,_,_,_,S2⟩:=abQ (knd:=knd) g1 ex1 d1 ⟨k3,e3,p3.trans p2⟩ b2 fr tr
    exact bh (bh (h _ _ (xW.trans (rN ..)) S2))
   .exact bh (bh (h _ _ xW S1))
  split
  .refine aG ?_;rw[hashByValue_scannable 8 hx];refine bh ?_;by_cases hv:plainKind x=ao
   .simp only[hv,if_true];exact tail t1 fn tn
   .simp only[hv,pH,if_false];exact tail _ (SetTable.fits_plain_off fn) (tn.plain aJ)
  .refine aG (bh ?_);simp only[if_true];exact tail t1 fn tn
end
section
variable{T:Type}[DecidableEq T]
def dedup(ks:List T):List T:=ks.foldl mJ []
theorem ahV(ks:List T)(k:T):dedup (ks++[k])=mJ (dedup ks) k:=by simp[dedup,List.foldl_append]
theorem ajM{ks:List T}{k x:T}:x∈mJ ks k↔x∈ks\/x=k:=by
 unfold mJ;split
 .rename_i h
  exact⟨.inl,λz=>z.elim id λe=>e▸h⟩
 .simp
theorem Yx{x:T}:∀(ks as:List T),x∈ks.foldl mJ as↔x∈as\/x∈ks
 |[],as=>by simp
 |k::ks,as=>by rw[Io,Yx,ajM,cB,or_assoc]
theorem aiN{ks:List T}{x:T}:x∈dedup ks↔x∈ks:=by
 rw[dedup,Yx];simp
theorem ahW{ks:List T}{k:T}(h:ks.Nodup):(mJ ks k).Nodup:=by
 unfold mJ;split
 .exact h
 .rename_i hk;exact kY.mpr ⟨h,by simp,λa ha b hb=>by rw[iY] at hb;rintro rfl;exact hk (hb▸ha)⟩
theorem X8:∀(ks as:List T),as.Nodup->(ks.foldl mJ as).Nodup
 |[],_,h=>h
 |k::ks,_,h=>X8 ks _ (ahW h)
theorem ahy(ks:List T):(dedup ks).Nodup:=X8 ks [] .nil
theorem ajN(ks:List T)(k:T):(mJ ks k).length<=ks.length+1:=by
 unfold mJ;split<;>simp
theorem Yy:∀(ks as:List T),(ks.foldl mJ as).length<=as.length+ks.length
 |[],_=>by simp
 |k::ks,as=>by
  have h1:=Yy ks (mJ as k);have h2:=ajN as k;simp only[Io,cZ];lia
theorem aah(ks:List T):(dedup ks).length<=ks.length:=by simpa[dedup] using Yy ks []
end
section
variable{prog:bL}{w:bI}{T:Type}[DecidableEq T]{knd:za prog w T}{A:cM}{E:Value->aD->Prop}{s:aD}
theorem o8.at(H:o8 knd h a ks)(e:∀o,h.get? a=aa o->h'.get? a=aa o):o8 knd h' a ks:=
 let ⟨o,es,ep,t,ho,r⟩:=H
 ⟨o,es,ep,t,e o ho,r⟩
theorem o8.lt(H:o8 knd h a ks):a<h.objs.size:=let ⟨_,_,_,_,ho,_⟩:=H;cF ho
theorem o8.ty(H:o8 knd s.heap a ks):s.TypeIs (.ref a) "set":=let ⟨o,_,_,_,ho,ex,_⟩:=H;⟨o,ho,ex.1⟩
end
section
variable{prog:bL}{w:bI}{T:Type}[DecidableEq T]{knd:za prog w T}{A:cM}{E:Value->aD->Prop}{s:aD}
def rF(w:bI):Obj:={cls:=.type "set",dict:=aj,data:=.set #[] 0 (.fresh 0 0 (bt w))}
theorem amT(g:h.get? a=aa (rF w)):o8 knd h a []:=⟨_,#[],0,_,g,⟨rfl,rfl,rfl⟩,rfl,⟨[],.nil,.refl _⟩,by decide,rfl,jP.fresh _⟩
end
theorem aaP:Manifest.owners.lookup (String.ofList "rotareti_tes".toList.reverse)=aa Manifest.sig_set_iterator:=by kernel_rfl
theorem su:Slot "set_iterator" "__next__" "set_iterator.__next__":=.of (owner:="set_iterator") (n:="__next__") (by rw[typeLookup_type,afv];kernel_rfl) (by decide +kernel) (by decide +kernel) (by decide +kernel) (by first|exact .inl (by decide +kernel)|exact .inr (by decide +kernel)) (by rw[Yz];kernel_rfl)
theorem abR:Slot "set_iterator" "__iter__" "set_iterator.__iter__":=.of (owner:="set_iterator") (n:="__iter__") (by rw[typeLookup_type,afv];kernel_rfl) (by decide +kernel) (by decide +kernel) (by decide +kernel) (by first|exact .inl (by decide +kernel)|exact .inr (by decide +kernel)) (by rw[Yz];kernel_rfl)
theorem JT:Rw table "set_iterator.__next__"=aa lA.«set_iterator.__next__»:=entryFor_of_tree (by kernel_rfl)
theorem aiO:Rw table "set_iterator.__iter__"=aa lA.«dict_keyiterator.__iter__»:=entryFor_alias (id':="dict_keyiterator.__iter__") (by kernel_rfl) rfl (by decide +kernel) (by kernel_rfl)
theorem ahX:Rw table "set.__iter__"=aa lA.«frozenset.__iter__»:=entryFor_alias (id':="frozenset.__iter__") (by kernel_rfl) rfl (by decide +kernel) (by kernel_rfl)
theorem JV(a:Value):FP "set_iterator.__next__" ⟨[a],[]⟩:=by
 unfold FP;rw[signature?_of (id:="set_iterator.__next__") (n:="__txen__".toList) (o:="rotareti_tes".toList) (by kernel_rfl) aaP];kernel_rfl
theorem aiP(a:Value):FP "set_iterator.__iter__" ⟨[a],[]⟩:=by
 unfold FP;rw[signature?_of (id:="set_iterator.__iter__") (n:="__reti__".toList) (o:="rotareti_tes".toList) (by kernel_rfl) aaP];kernel_rfl
section
variable{prog:bL}{w:bI}{A:cM}{E:Value->aD->Prop}{s:aD}{it S:aq}{es:Array (Int×Value)}{ep i n:Nat}{t:vz}{first:Value}
def nQ(b:Bool)(h:bC)(a:aq)(es:Array (Int×Value))(ep:Nat)(t:vz):Prop:=∃o,h.get? a=aa o/\o.ExactSet/\o.data=.set es ep t/\t.fits es.size=ao/\jP b t
theorem nQ.at(H:nQ b h a es ep t)(e:∀o,h.get? a=aa o->h'.get? a=aa o):nQ b h' a es ep t:=let ⟨o,ho,r⟩:=H;⟨o,e o ho,r⟩
def lY(h:bC)(it S:aq)(first:Value)(i n ep:Nat):Prop:=∃o,h.get? it=aa o/\o.cls=.type "set_iterator"/\o.data=.fields #[first,je i,.ref S,je n,je ep]
theorem lY.at(H:lY h it S first i n ep)(e:∀o,h.get? it=aa o->h'.get? it=aa o):lY h' it S first i n ep:=let ⟨o,ho,r⟩:=H;⟨o,e o ho,r⟩
theorem lY.ty(H:lY s.heap it S first i n ep):s.TypeIs (.ref it) "set_iterator":=let ⟨o,ho,c,_⟩:=H;⟨o,ho,c⟩
theorem lY.set{h:bC}{j:Nat}{x:Value}{vs:Array Value}{o:Obj}(ho:h.get? it=aa o)(hc:o.cls=.type "set_iterator")(hd:o.data=.fields vs):
  ∃o',(h.update it (YX (·.setIfInBounds j x))).get? it=aa o'/\o'.cls=.type "set_iterator"/\o'.data=.fields (vs.setIfInBounds j x):=
 ⟨_,yN _ ho (aft (NP hd _)),(afZ ..).trans hc,by rw[NP hd]⟩
theorem Tj(hit:lY s.heap it S first i n ep)(h:Q (.ref it) s):aR (model prog w) A (Cd (.ref it)) Q E s:=by
 refine XH hit.ty abR (nY abR hit.ty aiO (show aR _ _ (ret (.ref it)) _ _ s from ?_) (aiP _));exact bh ⟨_,rfl,"set_iterator",_,hit.ty,su.lookup,h⟩
theorem abS{Q:Option Value->aD->Prop}{slot:Nat}{R:Option (Value×Nat)}(hit:lY s.heap it S (je slot) i n ep)(hs:nQ (bt w) s.heap S es ep t)(hn:n=es.size)(ne:S≠it)
  (nx:∀{B:cM}{E':Value->aD->Prop}{C:Option (Value×Nat)->aD->Prop},C R s->aR (model prog w) B (EY S slot i ep) C E' s){x:Value}{nxt:Nat}(hR:R=aa (x,nxt))
  (h:∀h',lY h' it S (je nxt) (i+1) n ep->zb it s.heap h'->Q (aa x) {s with heap:=h'}):aR (model prog w) A (nD (.ref it)) Q E s:=by
 obtain⟨o,ho,hc,hd⟩:=id hit
 obtain⟨os,hos,exs,hds,hf,tb⟩:=id hs
 unfold nD;refine aG (Eb (yM (name:=gf "__next__") hit.ty su (nY su hit.ty JT ?_ (JV _))));unfold lA.«set_iterator.__next__»;refine aG (bh (aG (yX ho hd ?_)));dsimp only[je];refine aG (HW hos hds hf ?_);subst hn;subst hR;rw[bH (by simp)];refine aG (nx ?_);dsimp only;refine aG (yZ ho hd (by simp) ?_)
 obtain⟨o1,g1,c1,d1⟩:=lY.set (j:=0) (x:=.int nxt 0) ho hc hd
 refine aG (yZ g1 d1 (by simp) ?_)
 obtain⟨o2,g2,c2,d2⟩:=lY.set (j:=1) (x:=.int (i+1) 0) g1 c1 d1
 refine bh ⟨_,rfl,bh (h _ ⟨o2,g2,c2,?_⟩ ((rN ..).trans (rN ..)))⟩;rw[d2];simp[je]
theorem abT(hh:A.handled=aj)(h:∀h',(∀b o,s'.heap.get? b=aa o->h'.get? b=aa o)->Q aj {s' with heap:=h'}):
  aR (model prog w) A.in1 (do let e <-newExc (.type "StopIteration") [];(raiseNew e:Sem Fin)) (λfin s1=>∃v,fin=Fin.done (Flow.ret v)/\aR (model prog w) A (pure (aa v)) Q E s1)
   (λe s1=>aR (model prog w) A (do if(<-isInstance e (Ek "StopIteration"))=ao then pure aj else throw e) Q E s1) s':=by
 refine aG ?_;simp only[newExc,newTuple];refine aG (mQ ?_ (by size_fits));refine aG (m:=O1 _ _) (Zz (a:=mX) (by first|rfl|(simp only[O1];rfl)) ?_);refine mQ ?_ (by size_fits);simp only[raiseNew];refine aG (wpAny_handled ?_);rw[show A.in1.handled=aj from hh];refine aG (bh (wpAny_throw ?_));refine aG (X7 (T:="StopIteration") (b:=ao) ⟨_,iH _ rfl,rfl⟩ isSubtype_stop ?_);exact bh (h _ λb o e=>cW _ (cW _ e))
theorem acI{Q:Option Value->aD->Prop}{slot:Nat}(hh:A.handled=aj)(hit:lY s.heap it S (je slot) i n ep)(hs:nQ (bt w) s.heap S es ep t)(hn:n=es.size)
  (nx:∀{B:cM}{E':Value->aD->Prop}{C:Option (Value×Nat)->aD->Prop},C aj s->aR (model prog w) B (EY S slot i ep) C E' s)
  (h:∀h',(∀b o,b≠it->s.heap.get? b=aa o->h'.get? b=aa o)->Q aj {s with heap:=h'}):aR (model prog w) A (nD (.ref it)) Q E s:=by
 obtain⟨o,ho,hc,hd⟩:=id hit
 obtain⟨os,hos,exs,hds,hf,tb⟩:=id hs
 unfold nD;refine aG (Eb (yM (name:=gf "__next__") hit.ty su (nY su hit.ty JT ?_ (JV _))));unfold lA.«set_iterator.__next__»;refine aG (bh (aG (yX ho hd ?_)));dsimp only[je];refine aG (HW hos hds hf ?_);subst hn;rw[bH (by simp)];refine aG (nx ?_);dsimp only;refine aG (yZ ho hd (by simp) ?_);exact abT hh λh' kk=>h h' λb o hb e=>kk b o (((rN ..).2 b hb).trans e)
end
section
variable{prog:bL}{w:bI}{A:cM}{E:Value->aD->Prop}{s:aD}{it S:aq}{es:Array (Int×Value)}{ep i n:Nat}{t:vz}{first:Value}
theorem Ku(h:Q (!bt w) s):aR (model prog w) A ZW Q E s:=by
 unfold ZW;refine aG (Oe (bh ?_));have h':Q (w.params.followText "set-order") s:=by simpa[bt] using h
 exact h'
theorem QB:∀{l:List α}{j:Nat}(h:j<l.length),(l[j]::l.eraseIdx j).Perm l
 |[],j,h=>by cases h
 |a::l,0,h=>.refl _
 |a::l,j+1,h=>by
  have:=QB (l:=l) (j:=j) (by simpa using h);simp only[List.getElem_cons_succ,List.eraseIdx_cons_succ]
  exact(O2 ..).trans (this.cons a)
theorem aai(hs:nQ (bt w) s.heap S es ep t)(hb:bt w=ao)(nd:(!t.plain&&decide (es.size>1))=aJ)
  (h:C (match es[jM t.place slot]?,t.place[jM t.place slot]? with|some (_,x),some j=>aa (x,j+1)|_,_=>aj) s):aR (model prog w) A (EY S slot i ep) C E s:=by
 obtain⟨o,ho,ex,hd,hf,tb⟩:=hs
 unfold EY;refine aG (DK ho hd hf ?_);refine aG (Ku ?_);rw[hb];simp only[agO,pH,if_false];refine Oq (λz=>?_) (λ_=>?_)
 .have z':(!t.plain&&decide (es.size>1))=ao:=z;rw[nd] at z';cases z'
 refine aG (show aR _ _ (if(!t.led&&!es.isEmpty)=ao then _ else _) _ _ _ from ?_);rw[tb.led,hb];simp only[agO,Yu,pH,if_false];exact bh (bh h)
theorem aaj(hs:nQ (bt w) s.heap S es ep t)(hb:bt w=aJ)
  (h:C (((zm (w.params.setOrder S ep) es)[i]?).map λe=>(e.2,slot)) s):aR (model prog w) A (EY S slot i ep) C E s:=by
 obtain⟨o,ho,ex,hd,hf,tb⟩:=hs
 unfold EY;refine aG (DK ho hd hf ?_);refine aG (Ku ?_);rw[hb];simp only[agA,if_true,bne_self_eq_false,pH,if_false];refine aG ?_;unfold setWalk;refine aG (DK ho hd hf ?_);refine aG (Ku ?_);rw[hb];simp only[agA,if_true];refine aG (Oe (bh ?_));exact bh h
theorem abU(f:Nat->Nat):∀(m k:Nat)(left:List α)(out:Array α),left.length=m->(Ze f m k left out).toList.Perm (out.toList++left)
 |0,k,left,out,h=>by
  unfold Ze;rw[afh.mp h];simp
 |m+1,k,left,out,h=>by
  unfold Ze;have hl:f k%left.length<left.length:=Nat.mod_lt _ (by lia);rw[jJ hl];dsimp only
  refine(abU f m (k+1) _ _ (by rw[afA];simp[hl];lia)).trans ?_
  rw[af2,mR];refine afw _ ?_;exact QB hl
theorem Q5(f:Nat->Nat)(xs:Array α):(zm f xs).toList.Perm xs.toList:=by
 have:=abU f xs.size 0 xs.toList #[] (by simp);simpa[zm] using this
theorem ajO(hm:m≠0)(h:∀j d,j<m->Q j {s with drawn:=d}):aR (model prog w) A (choose src m) Q E s:=λΓ p _=>⟨hm,h _ _ (Nat.mod_lt _ (Nat.pos_of_ne_zero hm))⟩
theorem aaQ:∀(m:Nat)(xs:List α)(s:aD)(Q:List α->aD->Prop),xs.length=m->(∀ys d,ys.Perm xs->Q ys {s with drawn:=d})->aR (model prog w) A (drawOrder m xs) Q E s
 |0,xs,s,Q,hl,h=>by
  unfold drawOrder;rw[afh.mp hl] at h;exact bh (h [] s.drawn (.refl _))
 |m+1,[],s,Q,hl,h=>by cases hl
 |m+1,x::xs,s,Q,hl,h=>by
  unfold drawOrder;refine aG (ajO (by simp) λj d hj=>?_);rw[jJ hj];dsimp only;refine aG (aaQ m _ _ _ (by rw[afA,bz hj];simpa using hl) λys d' hp=>?_);exact bh (h _ d' ((hp.cons _).trans (QB hj)))
end
section
variable{prog:bL}{w:bI}{A:cM}{E:Value->aD->Prop}{s:aD}{it S pl:aq}{es:Array (Int×Value)}{ep i n:Nat}{t:vz}{ps:List Nat}
def Dr(h:bC)(pl:aq)(ps:List Nat):Prop:=∃o c,h.get? pl=aa o/\o.data=.seq (ps.map λk:Nat=>je k).toArray c
theorem Dr.at(H:Dr h pl ps)(e:∀o,h.get? pl=aa o->h'.get? pl=aa o):Dr h' pl ps:=let ⟨o,c,ho,r⟩:=H;⟨o,c,e o ho,r⟩
theorem alb(hit:lY s.heap it S (.ref pl) i n ep)(hs:nQ (bt w) s.heap S es ep t)(hp:Dr s.heap pl ps)(hn:n=es.size)(hk:ps[i]?=aa k)(he:es[k]?=aa e)
  (h:∀h',lY h' it S (.ref pl) (i+1) n ep->zb it s.heap h'->Q (aa e.2) {s with heap:=h'}):aR (model prog w) A (nD (.ref it)) Q E s:=by
 obtain⟨o,ho,hc,hd⟩:=id hit
 obtain⟨os,hos,exs,hds,hf,tb⟩:=id hs
 obtain⟨op,cp,hop,hdp⟩:=hp
 unfold nD;refine aG (Eb (yM (name:=gf "__next__") hit.ty su (nY su hit.ty JT ?_ (JV _))));unfold lA.«set_iterator.__next__»;refine aG (bh (aG (yX ho hd ?_)));dsimp only[je];refine aG (HW hos hds hf ?_);subst hn;rw[bH (by simp)];refine aG (Iz hop hdp ?_);dsimp only;rw[show((ps.map λk:Nat=>je k).toArray)[((i:Int)).toNat]?=aa (.int (k:Int) 0) by simp[hk,je]];dsimp only;refine aG ?_;unfold setNextDrawn;refine aG (DK hos hds hf ?_);simp only[yP,bne_self_eq_false,pH,if_false,he];refine bh (aG (yZ ho hd (by simp) ?_))
 obtain⟨o1,g1,c1,d1⟩:=lY.set (j:=1) (x:=.int (i+1) 0) ho hc hd
 refine bh ⟨_,rfl,bh (h _ ⟨o1,g1,c1,?_⟩ (rN ..))⟩;rw[d1];simp[je]
theorem amU(hh:A.handled=aj)(hit:lY s.heap it S (.ref pl) i n ep)(hs:nQ (bt w) s.heap S es ep t)(hp:Dr s.heap pl ps)(hn:n=es.size)(hk:ps.length<=i)
  (h:∀h',(∀b o,b≠it->s.heap.get? b=aa o->h'.get? b=aa o)->Q aj {s with heap:=h'}):aR (model prog w) A (nD (.ref it)) Q E s:=by
 obtain⟨o,ho,hc,hd⟩:=id hit
 obtain⟨os,hos,exs,hds,hf,tb⟩:=id hs
 obtain⟨op,cp,hop,hdp⟩:=hp
 unfold nD;refine aG (Eb (yM (name:=gf "__next__") hit.ty su (nY su hit.ty JT ?_ (JV _))));unfold lA.«set_iterator.__next__»;refine aG (bh (aG (yX ho hd ?_)));dsimp only[je];refine aG (HW hos hds hf ?_);subst hn;rw[bH (by simp)];refine aG (Iz hop hdp ?_);dsimp only;rw[show((ps.map λk:Nat=>je k).toArray)[((i:Int)).toNat]?=aj by simp[hk]];dsimp only;refine aG (yZ ho hd (by simp) ?_)
 obtain⟨o1,g1,c1,d1⟩:=lY.set (j:=0) (x:=.int 0 0) ho hc hd
 refine aG (yZ g1 d1 (by simp) ?_);exact abT hh λh' kk=>h h' λb o hb e=>kk b o ((((rN ..).trans (rN ..)).2 b hb).trans e)
theorem aiQ(hh:A.handled=aj)(ne:S≠it)(hb:bt w=ao)(nd:(!t.plain&&decide (es.size>1))=aJ)(hz:t.place.size=es.size)(rs:t.place.toList.Pairwise (·<·)):
  zP prog w A it [it,S] [it] es.size (λi v=>(es.toList.map (·.2))[i]?=aa v) (λi h=>lY h it S (je (if i=0 then 0 else t.place.getD (i-1) 0+1:Nat)) i es.size ep/\nQ (bt w) h S es ep t) where
 sub:=λb hb=>by simp at hb;simp[hb]
 frame:=λ_ _ _ st hk=>⟨st.1.at λo e=>hk it (by simp) o e,st.2.at λo e=>hk S (by simp) o e⟩
 item:=λi s Q E hi st hQ=>by
  have hp:i<t.place.size:=by lia
  have bl:jM t.place (if i=0 then 0 else t.place.getD (i-1) 0+1)=i:=by
   by_cases z:i=0
   .subst z;exact abP rs
   .rw[bH z];have h1:i-1<t.place.size:=by lia
    have:=ZS rs h1;rw[uh,m8 h1,Ik,this];lia
  refine abS (R:=aa (es[i].2,t.place[i]+1)) st.1 st.2 rfl ne (λc=>aai st.2 hb nd ?_) rfl λh' hit' same=>hQ _ h' s.toks (by simp[hi]) ⟨?_,st.2.at λo e=>(same.2 S ne).trans e⟩ λb o hb e=>(same.2 b λz=>hb (by simp[z])).trans e
  .rw[bl,m8 hi,m8 hp];exact c
  .have e1:(if i+1=0 then 0 else t.place.getD (i+1-1) 0+1)=t.place[i]+1:=by
    rw[bH (by lia),Nat.add_sub_cancel,uh,m8 hp,Ik]
   rw[e1];exact hit'
 done:=λs Q E st hQ=>by
  have bl:jM t.place (if es.size=0 then 0 else t.place.getD (es.size-1) 0+1)=es.size:=by
   by_cases z:es.size=0
   .rw[bz z,z];exact abP rs
   .rw[bH z];have h1:es.size-1<t.place.size:=by lia
    have:=ZS rs h1;rw[uh,m8 h1,Ik,this];lia
  refine acI hh st.1 st.2 rfl (λc=>aai st.2 hb nd ?_) λh' kk=>hQ h' s.toks λb o hb e=>kk b o (λz=>hb (by simp[z])) e
  rw[bl,Xg (cg _)];exact c
 self:=λ_ _ _ _ st hQ=>Tj st.1 hQ
theorem aiR(hh:A.handled=aj)(ne:S≠it)(hb:bt w=aJ):
  zP prog w A it [it,S] [it] es.size (λi v=>((zm (w.params.setOrder S ep) es).toList.map (·.2))[i]?=aa v) (λi h=>lY h it S (je (0:Nat)) i es.size ep/\nQ (bt w) h S es ep t) where
 sub:=λb hb=>by simp at hb;simp[hb]
 frame:=λ_ _ _ st hk=>⟨st.1.at λo e=>hk it (by simp) o e,st.2.at λo e=>hk S (by simp) o e⟩
 item:=λi s Q E hi st hQ=>by
  have hl:(zm (w.params.setOrder S ep) es).size=es.size:=by rw[<-j5,(Q5 _ es).length_eq,j5]
  have hp:i<(zm (w.params.setOrder S ep) es).size:=by lia
  refine abS (R:=aa ((zm (w.params.setOrder S ep) es)[i].2,0)) st.1 st.2 rfl ne (λc=>aaj st.2 hb ?_) rfl λh' hit' same=>hQ _ h' s.toks (by simp[hp]) ⟨hit',st.2.at λo e=>(same.2 S ne).trans e⟩ λb o hb e=>(same.2 b λz=>hb (by simp[z])).trans e
  rw[m8 hp];exact c
 done:=λs Q E st hQ=>by
  have hl:(zm (w.params.setOrder S ep) es).size=es.size:=by rw[<-j5,(Q5 _ es).length_eq,j5]
  refine acI hh st.1 st.2 rfl (λc=>aaj st.2 hb ?_) λh' kk=>hQ h' s.toks λb o hb e=>kk b o (λz=>hb (by simp[z])) e
  rw[Xg (by lia)];exact c
 self:=λ_ _ _ _ st hQ=>Tj st.1 hQ
theorem ahY(hh:A.handled=aj)(ne:S≠it)(np:pl≠it)(pp:ps.Perm (fB es.size)):
  zP prog w A it [it,S,pl] [it] es.size (λi v=>(ps.map λk=>(es.getD k (0,.none)).2)[i]?=aa v) (λi h=>lY h it S (.ref pl) i es.size ep/\nQ (bt w) h S es ep t/\Dr h pl ps) where
 sub:=λb hb=>by simp at hb;simp[hb]
 frame:=λ_ _ _ st hk=>⟨st.1.at λo e=>hk it (by simp) o e,st.2.1.at λo e=>hk S (by simp) o e,st.2.2.at λo e=>hk pl (by simp) o e⟩
 item:=λi s Q E hi st hQ=>by
  have hl:ps.length=es.size:=by rw[pp.length_eq,lZ]
  have hp:i<ps.length:=by lia
  have hk:ps[i]<es.size:=qP.mp (pp.mem_iff.mp (yS hp));refine alb (k:=ps[i]) (e:=es[ps[i]]) st.1 st.2.1 st.2.2 rfl (jJ hp) (m8 hk) λh' hit' same=>hQ _ h' s.toks ?_ ⟨hit',st.2.1.at λo e=>(same.2 S ne).trans e,st.2.2.at λo e=>(same.2 pl np).trans e⟩ λb o hb e=>(same.2 b λz=>hb (by simp[z])).trans e
  rw[iJ,jJ hp,j6,uh,m8 hk];rfl
 done:=λs Q E st hQ=>by
  have hl:ps.length=es.size:=by rw[pp.length_eq,lZ]
  exact amU hh st.1 st.2.1 st.2.2 rfl (by lia) λh' kk=>hQ h' s.toks λb o hb e=>kk b o (λz=>hb (by simp[z])) e
 self:=λ_ _ _ _ st hQ=>Tj st.1 hQ
end
section
variable{prog:bL}{w:bI}{A:cM}{E:Value->aD->Prop}{s:aD}{S:aq}{es:Array (Int×Value)}{ep:Nat}{t:vz}
theorem aiS(hs:nQ (bt w) s.heap S es ep t)(h:Q (bt w&&(!t.plain&&decide (es.size>1))) s):aR (model prog w) A (setDrawn S) Q E s:=by
 obtain⟨os,hos,exs,hds,hf,tb⟩:=id hs
 unfold setDrawn;refine aG (DK hos hds hf ?_);refine aG (Ku (bh ?_));rw[Bool.not_not];exact h
theorem ajP(hh:A.handled=aj)(hs:nQ (bt w) s.heap S es ep t)(hb:es.size<qU)
  (h:∀(I:aq)(h1:bC)(d:zL)(fp:List aq)(out:List Value)(St:Nat->bC->Prop),zP prog w A I fp [I] es.size (λi v=>out[i]?=aa v) St->St 0 h1->out.Perm (es.toList.map (·.2))->(∀b o,s.heap.get? b=aa o->h1.get? b=aa o)->s.heap.objs.size<=I->
   (∀b∈fp,b=S\/s.heap.objs.size<=b)->Q (.ref I) {s with heap:=h1,drawn:=d}):aR (model prog w) A (Cd (.ref S)) Q E s:=by
 obtain⟨os,hos,exs,hds,hf,tb⟩:=id hs
 have hT:s.TypeIs (.ref S) "set":=⟨os,hos,exs.1⟩
 have lt:S<s.heap.objs.size:=cF hos;have hz:t.place.size=es.size:=by
  have:=hf;simp only[SetTable.fits,jK,beq_iff_eq] at this;exact this.1
 refine XH hT agw (nY agw hT ahX ?_ (F.args_set_iter_1 _));unfold lA.«frozenset.__iter__» ars arl;refine aG (aG (bh (bh ?_)));refine aG (aG (HW hos hds hf (bh ?_)));refine aG (aiS hs ?_);by_cases hd:(bt w&&(!t.plain&&decide (es.size>1)))=ao
 .rw[bz hd];refine aG (aaQ _ _ _ _ (lZ ..) λps d pp=>?_);have pl:ps.length=es.size:=by rw[pp.length_eq,lZ]
  unfold newTuple;refine aG (mQ ?_ (show(List.map (λi:Nat=>je i) ps).toArray.size<=cu by rw[gG,bw,pl,iK];unfold qU at hb;lia));have g1:(s.heap.push {cls:=.type "tuple",data:=.seq (ps.map λk:Nat=>je k).toArray}).get? S=aa os:=cW _ hos;refine aG (af4 (s:={s with heap:=s.heap.push _,drawn:=d}) g1 hds hf ?_);refine aG ?_;unfold newFields;refine mQ ?_;refine bh ⟨_,rfl,"set_iterator",_,⟨_,iH _ rfl,rfl⟩,su.lookup,?_⟩;have yH:(s.heap.push {cls:=.type "tuple",data:=.seq (ps.map λk:Nat=>je k).toArray}).objs.size=s.heap.objs.size+1:=wV ..;refine h _ _ d [_,S,s.heap.objs.size] _ _ (ahY (ep:=ep) (t:=t) hh ?_ ?_ pp) ⟨⟨_,iH _ rfl,rfl,rfl⟩,⟨os,cW _ g1,exs,hds,hf,tb⟩,⟨_,0,cW _ (iH _ rfl),rfl⟩⟩ ?_ (λb o e=>cW _ (cW _ e)) ?_ ?_
  .rw[yH];exact eO (wO lt)
  .rw[yH];exact eO (Yb _)
  .have e2:(fB es.size).map (λk=>(es.getD k (0,mX)).2)=es.toList.map (·.2):=by
    refine Aq (by simp) λj h1 h2=>?_
    have hj:j<es.size:=by simpa using h1
    simp[uh,m8 hj]
   rw[<-e2];exact pp.map _
  .rw[yH];exact uw _
  .intro b hb';simp only[cB,mj,or_false] at hb';rcases hb' with rfl|rfl|rfl
   .right;rw[yH];exact uw _
   .exact .inl rfl
   .exact .inr (cg _)
 .rw[bH hd];refine aG (bh ?_);refine aG (af4 hos hds hf ?_);refine aG ?_;unfold newFields;refine mQ ?_;refine bh ⟨_,rfl,"set_iterator",_,⟨_,iH _ rfl,rfl⟩,su.lookup,?_⟩;have ad0:∀b,b∈[s.heap.objs.size,S]->b=S\/s.heap.objs.size<=b:=λb hb'=>by
   simp only[cB,mj,or_false] at hb';rcases hb' with rfl|rfl
   .exact .inr (cg _)
   .exact .inl rfl
  cases hbt:bt w with
  |true=>
   rw[hbt] at hd;have nd:(!t.plain&&decide (es.size>1))=aJ:=by simpa using hd
   exact h _ _ s.drawn [_,S] _ _ (aiQ (ep:=ep) hh (eO lt) hbt nd hz tb.Wk) ⟨⟨_,iH _ rfl,rfl,rfl⟩,⟨os,cW _ hos,exs,hds,hf,tb⟩⟩ (.refl _) (λb o e=>cW _ e) (cg _) ad0
  |false=>
   exact h _ _ s.drawn [_,S] _ _ (aiR (ep:=ep) (t:=t) hh (eO lt) hbt) ⟨⟨_,iH _ rfl,rfl,rfl⟩,⟨os,cW _ hos,exs,hds,hf,tb⟩⟩ ((Q5 _ es).map _) (λb o e=>cW _ e) (cg _) ad0
end
end L2
namespace L2
open PySem PySem.Spec PySem.W PyProof.Rows
section
variable{prog:bL}{w:bI}{A:cM}{E:Value->aD->Prop}{s:aD}{S:aq}{es:Array (Int×Value)}{ep:Nat}{t:vz}
theorem ajQ(hT:s.TypeIs (.ref S) "set")(h:Q aJ s):aR (model prog w) A (ae3 (.ref S)) Q E s:=by
 unfold ae3;refine aG (wpAny_specialOf hT PySem.F.slot_set_len.lookup ?_);generalize hid:("set.__len__":String)=nm
 wp_delta
 rw[show splitId nm=aa ("set","__len__") by subst hid;decide +kernel];subst hid;refine aG (X7 (T:="set") (b:=ao) hT (by rw[Yz];kernel_rfl) ?_);refine Oq (λz=>absurd z (by decide)) λ_=>Oq (λ_=>?_) λz=>absurd (by decide +kernel) z
 exact aG (Jf hT (bh h))
theorem aiT{out:List Value}{acc:Array Value}(h:ItemsOf (λi v=>out[i]?=aa v) acc out.length):acc=out.toArray:=by
 refine Array.ext (by simpa using h.1) λj h1 h2=>?_
 have this:out[j]?=aa acc[j]:=h.2 j acc[j] (m8 h1);have hj:j<out.length:=by simpa using h2
 rw[jJ hj] at this;simpa using(gP this).symm
theorem ahZ{R:sH->aD->Prop}(hh:A.handled=aj)(hs:nQ (bt w) s.heap S es ep t)(hb:es.size<qU){L:aq}(ne:L≠S){c0:Nat}(hL:s.heap.get? L=aa {cls:=.type "list",data:=.seq #[] c0})(res:Value)
  (hR:∀(h':bC)(d:zL)(tk:Nat)(us:List Value)(c':Nat),us.Perm (es.toList.map (·.2))->(∀b o,b≠L->s.heap.get? b=aa o->h'.get? b=aa o)->h'.get? L=aa {cls:=.type "list",dict:=aj,data:=.seq us.toArray c',slots:=#[]}->
   R (.ok (.ret res)) {s with heap:=h',drawn:=d,toks:=tk}):
  aR (model prog w) A.in1 (Np (.ref L) (.ref S) res) (λfin s'=>match fin with|.done f=>R (.ok f) s'|.again c'=>c'.quiet=ao/\mC (model prog w) A c' R s') (λe s'=>R (.error e) s') s:=by
 obtain⟨os,hos,exs,hds,hf,tb⟩:=id hs
 have hT:s.TypeIs (.ref S) "set":=⟨os,hos,exs.1⟩
 have ltL:L<s.heap.objs.size:=cF hL;unfold Np;refine aG (Jf hT ?_);rw[show(Xc (.ref L) (.ref S)||Ek "set"==Ek "list"||Ek "set"==Ek "tuple")=aJ by
  rw[show Xc (.ref L) (.ref S)=aJ by simp[Xc,ne]];decide]
 simp only[pH,if_false];refine aG (ajP (A:=A.in1) hh hs hb λI h1 d fp out St W st pm kp geI okf=>?_);have lo:out.length=es.size:=by rw[pm.length_eq,bw,j5]
 have bY:L∉fp:=λz=>(okf L z).elim ne λz'=>absurd ltL (Qw.mpr z')
 have run:∀(h2:bC)(c1 tk:Nat),St 0 h2->(∀b o,b≠L->s.heap.get? b=aa o->h2.get? b=aa o)->h2.get? L=aa {cls:=.type "list",data:=.seq #[] c1}->
   mC (model prog w) A (.builtin "list.extend.loop" ⟨[.ref L,.ref I,res],[]⟩) R {s with heap:=h2,drawn:=d,toks:=tk}:=λh2 c1 tk st2 k2 g2=>by
  refine codeAny_extend_loopS W.toS (XR hb) L bY res es.size 0 _ #[] c1 rfl (m9 _) st2 g2 (ItemsOf.nil _) λs3 acc c3 mv g3 io=>?_
  rw[<-lo] at io;have ea:=aiT io;subst ea;rw[Moved.eq_with mv];refine hR s3.heap d s3.toks out c3 pm (λb o nb e=>mv.heap b o (λz=>?_) (k2 b o nb e)) g3;rcases cB.mp z with z|z
  .exact nb z
  .exact absurd (cF e) (by rw[iY.mp z];exact Qw.mpr geI)
 have gL:=kp L _ hL;have gS:Shared.TypeIs {s with heap:=h1,drawn:=d} (.ref S) "set":=⟨os,kp S _ hos,exs.1⟩
 refine aG (mV (ajQ gS ?_));refine Oq (λ_=>?_) λ_=>bh ⟨vo ae9 _,run h1 c0 s.toks st (λb o _ e=>kp b o e) gL⟩
 refine aG (zj (aG (show aR _ _ (Q6 L (·.push .none) >>= λ_=>Q6 L (·.pop)) _ _ _ from ?_)));refine aG (Ip gL rfl ?_);have u2:=yN (nq (·.push mX)) gL rfl;refine Ip (hz:=by seq_fits) u2 rfl ?_;have u3:=yN (nq (·.pop)) u2 rfl;have far:∀b o,b≠L->h1.get? b=aa o->((h1.update L (nq (·.push mX))).update L (nq (·.pop))).get? b=aa o:=λb o nb e=>
  (um _ _ (lg nb)).trans ((um _ _ (lg nb)).trans e)
 exact bh ⟨vo ae9 _,run _ _ s.toks (W.frame 0 _ _ st λb hb' o e=>far b o (λz=>bY (z▸hb')) e) (λb o nb e=>far b o nb (kp b o e)) u3⟩
theorem ahz(hh:A.handled=aj)(hs:nQ (bt w) s.heap S es ep t)(hb:es.size<qU)
  (h:∀(h':bC)(d:zL)(tk:Nat)(us:List Value),us.Perm (es.toList.map (·.2))->s.heap.objs.size<=h'.objs.size->(∀b o,s.heap.get? b=aa o->h'.get? b=aa o)->R us {s with heap:=h',drawn:=d,toks:=tk}):
  aR (model prog w) A (collect (.ref S)) R E s:=by
 have ltS:S<s.heap.objs.size:=let ⟨_,e,_⟩:=hs;cF e
 unfold collect;refine aG (wpAny_runValue (wR entry_proto_collect' ?_));rw[wI ae2 _];show aR _ A.in1 (newList [] >>= λl=>again (.builtin "list.__iadd__" ⟨[l,.ref S],[]⟩)) _ _ s;refine aG (mQ (bh ⟨vo Nx _,wR entry_list_iadd' ?_⟩));rw[wI Nx _];have g0:(s.heap.push {cls:=.type "list",data:=.seq ([]:List Value).toArray}).get? s.heap.objs.size=aa {cls:=.type "list",data:=.seq #[]}:=iH _ rfl;show aR _ A.in1 (Np (.ref s.heap.objs.size) (.ref S) (.ref s.heap.objs.size)) _ _ _;have key:=ahZ (prog:=prog) (A:=A) (s:={s with heap:=s.heap.push {cls:=.type "list",data:=.seq ([]:List Value).toArray}})
  (R:=λ(q:sH)(s':aD)=>∃(h':bC)(d:zL)(tk:Nat)(us:List Value)(c':Nat),q=.ok (.ret (.ref s.heap.objs.size))/\s'={s with heap:=h',drawn:=d,toks:=tk}/\us.Perm (es.toList.map (·.2))/\(∀b o,s.heap.get? b=aa o->h'.get? b=aa o)/\h'.get? s.heap.objs.size=aa {cls:=.type "list",dict:=aj,data:=.seq us.toArray c',slots:=#[]})
  hh (hs.at λo e=>cW _ e) hb (Be ltS) g0 (.ref s.heap.objs.size) (λh' d tk us c' pm kk g=>⟨h',d,tk,us,c',rfl,rfl,pm,λb o e=>kk b o (eO (cF e)) (cW _ e),g⟩)
 refine pN key (λfin s' x=>?_) λe s' x=>?_
 .cases fin with
  |done f=>
   obtain⟨h',d,tk,us,c',e,rfl,pm,kk,g⟩:=x
   cases e;show aR _ A (load s.heap.objs.size >>= _) _ _ _;exact aG (Jy g (bh (h h' d tk us pm (xj (cF g)) kk)))
  |again c1=>
   refine⟨x.1,Je x.2 λq s2 y=>?_⟩
   obtain⟨h',d,tk,us,c',rfl,rfl,pm,kk,g⟩:=y
   show aR _ A (load s.heap.objs.size >>= _) _ _ _;exact aG (Jy g (bh (h h' d tk us pm (xj (cF g)) kk)))
 .obtain⟨_,_,_,_,_,e',_⟩:=x
  cases e'
end
section
variable{prog:bL}{w:bI}{A:cM}{E:Value->aD->Prop}{s:aD}{S:aq}{es:Array (Int×Value)}{ep:Nat}{t:vz}
theorem ah0{Ok:List Value->Prop}{Q:Value->aD->Prop}(hh:A.handled=aj)(hs:nQ (bt w) s.heap S es ep t)(few:es.size<64)
  (srt:∀us:List Value,us.Perm (es.toList.map (·.2))->∀(B:cM)(s1:aD)(a:aq)(n:Nat)(P:Fin->aD->Prop)(E':Value->aD->Prop),s1.heap.get? a=aa (seqObj "list" us.toArray n)->
   (∀out:Array Value,Ok out.toList->P (.done (.ret .none)) {s1 with heap:=sortedHeap s1.heap a us out})->aR (model prog w) B (lA.«list.sort» ⟨[.ref a],[]⟩) P E' s1)
  (h:∀(D:aq)(h':bC)(d:zL)(tk c:Nat)(out:Array Value),Ok out.toList->s.heap.objs.size<=D->(∀b o,s.heap.get? b=aa o->h'.get? b=aa o)->h'.get? D=aa (seqObj "list" out c)->Q (.ref D) {s with heap:=h',drawn:=d,toks:=tk}):
  aR (model prog w) A (call (.builtin "sorted") [.ref S]) Q E s:=by
 refine HN kind_sorted plain_sorted entry_sorted (args_sorted1 _) ?_;unfold lA.«sorted»;refine aG (m:=JF "sorted" 1 1 _) (bh (aG (ahz (A:=A.in1) hh hs (by unfold qU;lia) λh1 d tk us pm ge kk=>?_)));have lu:us.length=es.size:=by rw[pm.length_eq,bw,j5]
 refine aG (Ea ?_ (by rw[iK];lia));have gL:(h1.push (seqObj "list" us.toArray 0)).get? h1.objs.size=aa (seqObj "list" us.toArray 0):=iH _ rfl;refine aG (mV (nY slot_list_sort ⟨_,gL,rfl⟩ entry_list_sort (srt us pm _ {s with heap:=h1.push (seqObj "list" us.toArray 0),drawn:=d,toks:=tk} _ 0 _ _ gL λout ok=>⟨_,rfl,?_⟩) (args_list_sort _)))
 obtain⟨c,gD⟩:=sortedHeap_at (out:=out) gL
 refine bh ⟨_,rfl,h h1.objs.size _ d tk c out ok ge (λb o e=>?_) gD⟩;have lb:b<h1.objs.size:=cF (kk b o e)
 show(sortedHeap (h1.push (seqObj "list" us.toArray 0)) h1.objs.size us out).get? b=aa o
 rw[sortedHeap_old (eO lb) (by rw[wV];exact wO lb)];exact cW _ (kk b o e)
end
theorem Inv.drew(d:zL)(I:Inv X pins σ H s):Inv X pins σ H {s with drawn:=d}:=
 I.call (g':=s.gens) (t':=s.toks) (d':=d) (ch:=[]) (Un.kept λ_ _ e=>e) (I.hok.kept λ_ _ e=>e) I.bare (λ_ z=>nomatch z)
section
variable{X:Cx}{T:Type}[DecidableEq T]{knd:za X.prog X.w T}{l:Expr}{tl:TE}{p1 p2 pos1 pos2:Pos}
end
section
variable{prog:bL}{w:bI}
theorem ajR(h:lJ (I9 prog w) es ks):(es.map (·.2)).map strOf=ks/\∀v,v∈es.map (·.2)->∃x t,v=.str x t:=by
 induction h with
 |nil=>exact⟨rfl,λv hv=>by cases hv⟩
 |@cons e k es ks a _ ih=>
  obtain⟨t,ht⟩:=afF (show YM k e.2=ao from a.1)
  refine⟨by rw[cJ,cJ,ih.1,ht];rfl,λv hv=>?_⟩
  rcases cB.mp hv with rfl|hv
  .exact⟨k,t,ht⟩
  .exact ih.2 v hv
end
section
variable{X:Cx}{l:Expr}{tl:TE}{p1 p2 pos1 pos2:Pos}
end
section
variable{prog:bL}{w:bI}{A:cM}{E:Value->aD->Prop}{s:aD}{R:sH->aD->Prop}{I S:aq}{fp wr:List aq}{n:Nat}{Pv:Nat->Value->Prop}{St:Nat->bC->Prop}{bt:Nat->Nat->Bool}
def an8(v:Value)(c:Nat):Obj:={cls:=.type "list",dict:=aj,data:=.seq #[v,v] c,slots:=#[]}
end
section
variable{prog:bL}{w:bI}{A:cM}{E:Value->aD->Prop}{s:aD}
theorem ag8{id:String}{b:lA}{as:List Value}{kw:List (Str×Value)}{Q:Value->aD->Prop}(hk:builtinKind id=aj)(hp:plainId id=ao)(hb:Rw table id=aa b)(ha:FP id ⟨as,kw⟩)
  (hc:aR (model prog w) A.in1 (b ⟨as,kw⟩) (λfin s'=>match fin with
   |.done f=>(match(Except.ok f:sH) with|.ok (.ret v)=>Q v s'|.ok _=>False|.error e=>E e s')
   |.again c'=>c'.quiet=ao/\mC (model prog w) A c' (λr s'=>match r with|.ok (.ret v)=>Q v s'|.ok _=>False|.error e=>E e s') s') E s):aR (model prog w) A (call (.builtin id) as kw) Q E s:=by
 refine wpAny_call (codeAny_call_builtin hp hb ?_);simp only[checkBuiltinCall,hk];cases hg:Manifest.signature? id with
 |none=>exact bh hc
 |some sg=>
  simp only[FP,hg] at ha;show aR _ A.in1 (agB id sg ⟨as,kw⟩) _ _ s;rw[show agB id sg ⟨as,kw⟩=pure () from ha];exact bh hc
end
section
variable{X:Cx}{l de:Expr}{tl td:TE}{p pos kp:Pos}
end
end L2
namespace L2
open PySem PySem.Spec PyProof.Rows PySem.W
def cX:au->Option Key
 |.int i=>aa (.inl i)
 |.str x=>aa (.inr x)
 |_=>aj
def keysOf:List au->Option (List Key)
 |[]=>aa []
 |d::r=>match cX d,keysOf r with
  |some k,some t=>aa (k::t)
  |_,_=>aj
def rA:au->Option (List Key)
 |.tuple ds=>keysOf ds
 |_=>aj
def cO{κ:Type}(f:au->Option κ):List (au×au)->Option (List κ)
 |[]=>aa []
 |p::r=>match f p.1,cO f r with
  |some k,some t=>aa (k::t)
  |_,_=>aj
def yI(H:Hp)(a:aq)(kvs:List (au×au))(vs:List V):Prop:=
 (∃ks,cO cX kvs=aa ks/\H a=aa (.dK (ks.zip vs)))\/∃ks,(kvs≠[]/\cO rA kvs=aa ks)/\H a=aa (.dT (ks.zip vs))
mutual
def RZ(H:Hp):au->V->Prop
 |.none,v=>v=.non
 |.bool b,v=>v=.bl b
 |.int i,v=>v=.int i
 |.str x,v=>v=.str x
 |.list ds,v=>∃a vs,v=.ref a/\H a=aa (.lst vs)/\cA H ds vs
 |.tuple ds,v=>∃a vs,v=.ref a/\H a=aa (.tup vs)/\cA H ds vs
 |.dict kvs,v=>∃a vs,v=.ref a/\yI H a kvs vs/\jk H kvs vs
def cA(H:Hp):List au->List V->Prop
 |[],vs=>vs=[]
 |d::ds,vs=>∃v r,vs=v::r/\RZ H d v/\cA H ds r
def jk(H:Hp):List (au×au)->List V->Prop
 |[],vs=>vs=[]
 |p::r,vs=>∃v t,vs=v::t/\RZp H p v/\jk H r t
def RZp(H:Hp):au×au->V->Prop
 |(_,d),v=>RZ H d v
end
theorem yI.same(s:bN H H')(h:yI H a kvs vs):yI H' a kvs vs:=by
 rcases h with⟨ks,e,h⟩|⟨ks,e,h⟩
 .exact .inl ⟨ks,e,s _ _ h⟩
 .exact .inr ⟨ks,e,s _ _ h⟩
mutual
theorem RZ.same(s:bN H H'):∀{d:au}{v:V},RZ H d v->RZ H' d v
 |.none,_,h=>h
 |.bool _,_,h=>h
 |.int _,_,h=>h
 |.str _,_,h=>h
 |.list ds,_,h=>by
  obtain⟨a,vs,e,q,r⟩:=h
  exact⟨a,vs,e,s _ _ q,cA.same s r⟩
 |.tuple ds,_,h=>by
  obtain⟨a,vs,e,q,r⟩:=h
  exact⟨a,vs,e,s _ _ q,cA.same s r⟩
 |.dict kvs,_,h=>by
  obtain⟨a,vs,e,q,r⟩:=h
  exact⟨a,vs,e,q.same s,jk.same s r⟩
theorem cA.same(s:bN H H'):∀{ds:List au}{vs:List V},cA H ds vs->cA H' ds vs
 |[],_,h=>h
 |d::ds,vs,h=>by
  obtain⟨v,r,e,q,t⟩:=h
  exact⟨v,r,e,RZ.same s q,cA.same s t⟩
theorem jk.same(s:bN H H'):∀{kvs:List (au×au)}{vs:List V},jk H kvs vs->jk H' kvs vs
 |[],_,h=>h
 |(k,d)::ds,vs,h=>by
  obtain⟨v,r,e,q,t⟩:=h
  exact⟨v,r,e,RZ.same s q,jk.same s t⟩
end
theorem jo:∀{ds:List au}{vs:List V},cA H ds vs->vs.length=ds.length
 |[],_,h=>by cases(show _=[] from h);rfl
 |e::ds,vs,h=>by
  obtain⟨u,r,e1,q,s⟩:=h
  subst e1;rw[cZ,cZ,jo s]
theorem zy:∀{ds:List (au×au)}{vs:List V},jk H ds vs->vs.length=ds.length
 |[],_,h=>by cases(show _=[] from h);rfl
 |e::ds,vs,h=>by
  obtain⟨u,r,e1,q,s⟩:=h
  subst e1;rw[cZ,cZ,zy s]
theorem vG:∀{ds:List au}{vs:List V}{i:Nat}{d:au},cA H ds vs->ds[i]?=aa d->∃v,vs[i]?=aa v/\RZ H d v
 |[],_,_,_,_,e=>by simp at e
 |x::ds,vs,i,d,h,e=>by
  obtain⟨u,r,e1,q,s⟩:=h
  subst e1;cases i with
  |zero=>cases e;exact⟨u,rfl,q⟩
  |succ i=>
   obtain⟨v,e2,h2⟩:=vG (i:=i) s (by simpa using e)
   exact⟨v,by simpa using e2,h2⟩
theorem zA:∀{ds es:List au}{vs ws:List V},cA H ds vs->cA H es ws->cA H (ds++es) (vs++ws)
 |[],_,_,_,h,g=>by cases(show _=[] from h);exact g
 |d::ds,_,_,_,h,g=>by
  obtain⟨u,r,e1,q,s⟩:=h
  subst e1
  exact⟨u,_,rfl,q,zA s g⟩
theorem aaR:∀{ds:List au}{vs:List V}(n:Nat),cA H ds vs->cA H (ds.take n) (vs.take n)
 |_,_,0,_=>by rw[agC,agC];rfl
 |[],_,n+1,h=>by cases(show _=[] from h);rfl
 |d::ds,_,n+1,h=>by
  obtain⟨u,r,e1,q,s⟩:=h
  subst e1
  exact⟨u,_,rfl,q,aaR n s⟩
theorem aaS:∀{ds:List au}{vs:List V}(n:Nat),cA H ds vs->cA H (ds.drop n) (vs.drop n)
 |_,_,0,h=>h
 |[],_,n+1,h=>by cases(show _=[] from h);rfl
 |d::ds,_,n+1,h=>by
  obtain⟨u,r,e1,q,s⟩:=h
  subst e1;exact aaS n s
theorem abV(hv:RZ H d v):∀{ds:List au}{vs:List V}(i:Nat),cA H ds vs->cA H (ds.set i d) (vs.set i v)
 |[],_,_,h=>by cases(show _=[] from h);rfl
 |x::ds,_,i,h=>by
  obtain⟨u,r,e1,q,s⟩:=h
  subst e1;cases i with
  |zero=>exact⟨v,r,rfl,hv,s⟩
  |succ i=>exact⟨u,_,rfl,q,abV hv i s⟩
def lC:au->Bool
 |.none=>ao
 |.bool _=>ao
 |.int _=>ao
 |.str _=>ao
 |_=>aJ
def toV:au->V
 |.none=>.non
 |.bool b=>.bl b
 |.int i=>.int i
 |.str x=>.str x
 |_=>.non
theorem alc(f:lC d=ao)(h:RZ H d v):v=toV d:=by
 cases d<;>first|exact h|cases f
theorem ald(f:lC d=ao):RZ H d (toV d):=by
 cases d<;>first|rfl|cases f
theorem Rx:∀{ds:List au}{vs:List V},ds.all lC=ao->cA H ds vs->vs=ds.map toV
 |[],_,_,h=>h
 |d::ds,vs,f,h=>by
  obtain⟨u,r,e1,q,s⟩:=h
  rw[Pj,jK] at f;rw[e1,alc f.1 q,Rx f.2 s];rfl
theorem aaT(ns:List Int):cA H (ns.map lQ) (ns.map V.int):=by
 induction ns with
 |nil=>rfl
 |cons n r ih=>exact⟨_,_,rfl,rfl,ih⟩
theorem Ry(ns:List Str):cA H (ns.map eV) (ns.map V.str):=by
 induction ns with
 |nil=>rfl
 |cons n r ih=>exact⟨_,_,rfl,rfl,ih⟩
mutual
def kO:au->Bool
 |.list _=>aJ
 |.tuple ds=>gO ds
 |.dict _=>aJ
 |_=>ao
def gO:List au->Bool
 |[]=>ao
 |d::r=>kO d&&gO r
end
mutual
theorem RZ.kO(t:∀a vs,H a=aa (.tup vs)->H' a=aa (.tup vs)):∀{d:au}{v:V},kO d=ao->RZ H d v->RZ H' d v
 |.none,_,_,h=>h
 |.bool _,_,_,h=>h
 |.int _,_,_,h=>h
 |.str _,_,_,h=>h
 |.list ds,_,n,h=>nomatch n
 |.tuple ds,_,n,h=>by
  obtain⟨a,vs,e,q,r⟩:=h
  exact⟨a,vs,e,t _ _ q,cA.kO t n r⟩
 |.dict _,_,n,_=>nomatch n
theorem cA.kO(t:∀a vs,H a=aa (.tup vs)->H' a=aa (.tup vs)):∀{ds:List au}{vs:List V},gO ds=ao->cA H ds vs->cA H' ds vs
 |[],_,_,h=>h
 |d::ds,vs,n,h=>by
  obtain⟨v,r,e,q,w⟩:=h
  have n':L2.kO d=ao/\gO ds=ao:=by rw[gO,jK] at n;exact n
  exact⟨v,r,e,RZ.kO t n'.1 q,cA.kO t n'.2 w⟩
end
mutual
def qM:au->Bool
 |.list ds=>yr ds
 |.tuple ds=>yr ds
 |.dict _=>aJ
 |_=>ao
def yr:List au->Bool
 |[]=>ao
 |d::r=>qM d&&yr r
end
mutual
theorem RZ.rx:∀{d:au}{v:V},qM d=ao->RZ H d v->RX H d v
 |.none,_,_,h=>h
 |.bool _,_,_,h=>h
 |.int _,_,_,h=>h
 |.str _,_,_,h=>h
 |.list ds,_,n,h=>by
  obtain⟨a,vs,e,q,r⟩:=h
  exact⟨a,vs,e,q,cA.rx n r⟩
 |.tuple ds,_,n,h=>by
  obtain⟨a,vs,e,q,r⟩:=h
  exact⟨a,vs,e,q,cA.rx n r⟩
 |.dict _,_,n,_=>nomatch n
theorem cA.rx:∀{ds:List au}{vs:List V},yr ds=ao->cA H ds vs->nW H ds vs
 |[],_,_,h=>h
 |d::ds,vs,n,h=>by
  obtain⟨v,r,e,q,t⟩:=h
  have n':qM d=ao/\yr ds=ao:=by rw[yr,jK] at n;exact n
  exact⟨v,r,e,RZ.rx n'.1 q,cA.rx n'.2 t⟩
end
inductive Vl where
 |im (d:au)
 |ow (d:au)
 |ce (n:Nat)
 |sc (ns:List Int)
 |tp (p:List au) (d:au) (q:List au)
abbrev En:=List (Option Vl)
abbrev Ce:=List (List Int)
def own1:Option Vl->Option V->List aq
 |some (.ow _),some (.ref a)=>[a]
 |_,_=>[]
def bU:En->St->List aq
 |x::e,v::s=>own1 x v++bU e s
 |_,_=>[]
theorem nu:∀{env:En}{σ:St},a∈bU env σ↔∃(i:Nat)(d:au),env[i]?=aa (aa (Vl.ow d))/\σ[i]?=aa (aa (V.ref a))
 |[],σ=>by
  constructor
  .intro h;simp[bU] at h
  .rintro⟨i,d,e,_⟩;simp at e
 |x::e,[]=>by
  constructor
  .intro h;simp[bU] at h
  .rintro⟨i,d,_,e⟩;simp at e
 |x::e,v::s=>by
  rw[bU,dB,nu (env:=e) (σ:=s)];constructor
  .rintro(h|⟨i,d,h1,h2⟩)
   .unfold own1 at h;split at h
    .rw[iY] at h;subst h
     exact⟨0,_,rfl,rfl⟩
    .simp at h
   .exact⟨i+1,d,by simpa using h1,by simpa using h2⟩
  .rintro⟨i,d,h1,h2⟩
   cases i with
   |zero=>
    simp at h1 h2;subst h1 h2;exact .inl (iY.mpr rfl)
   |succ i=>exact .inr ⟨i,d,by simpa using h1,by simpa using h2⟩
theorem Fb:∀{env:En}{σ:St}{i j:Nat}{d e:au},(bU env σ).Nodup->env[i]?=aa (aa (Vl.ow d))->σ[i]?=aa (aa (V.ref a))->env[j]?=aa (aa (Vl.ow e))->σ[j]?=aa (aa (V.ref a))->i=j
 |[],_,i,_,_,_,_,h,_,_,_=>by simp at h
 |_::_,[],i,_,_,_,_,_,h,_,_=>by simp at h
 |x::en,v::s,i,j,d,e,nd,h1,h2,h3,h4=>by
  rw[bU,kY] at nd;cases i with
  |zero=>
   cases j with
   |zero=>rfl
   |succ j=>
    simp at h1 h2;subst h1 h2;have:a∈bU en s:=nu.mpr ⟨j,e,by simpa using h3,by simpa using h4⟩;exact absurd rfl (nd.2.2 a (iY.mpr rfl) a this)
  |succ i=>
   cases j with
   |zero=>
    simp at h3 h4;subst h3 h4;have:a∈bU en s:=nu.mpr ⟨i,d,by simpa using h1,by simpa using h2⟩;exact absurd rfl (nd.2.2 a (iY.mpr rfl) a this)
   |succ j=>rw[Fb (i:=i) (j:=j) nd.2.1 (by simpa using h1) (by simpa using h2) (by simpa using h3) (by simpa using h4)]
def Wl(x y:Option Vl):Prop:=y=x\/∃d,x=aa (.ow d)/\y=aa (.im d)
def Fz:En->En->Prop
 |[],[]=>True
 |x::r,y::t=>Wl x y/\Fz r t
 |_,_=>False
theorem Fz.refl:∀e:En,Fz e e
 |[]=>trivial
 |x::r=>⟨.inl rfl,Fz.refl r⟩
theorem Fz.trans:∀{a b c:En},Fz a b->Fz b c->Fz a c
 |[],[],[],_,_=>trivial
 |x::r,y::t,z::w,h,g=>by
  refine⟨?_,Fz.trans h.2 g.2⟩
  rcases h.1 with e|⟨d,e1,e2⟩
  .rw[<-e];exact g.1
  .rcases g.1 with e|⟨d',e3,e4⟩
   .exact .inr ⟨d,e1,e.trans e2⟩
   .rw[e2] at e3;cases e3
 |[],[],_::_,_,g=>nomatch g
 |[],_::_,_,h,_=>nomatch h
 |_::_,[],_,h,_=>nomatch h
 |_::_,_::_,[],_,g=>nomatch g
theorem Fz.len:∀{a b:En},Fz a b->b.length=a.length
 |[],[],_=>rfl
 |_::_,_::_,h=>by rw[cZ,cZ,Fz.len h.2]
 |[],_::_,h=>nomatch h
 |_::_,[],h=>nomatch h
theorem Fz.at:∀{a b:En}{i:Nat}{y:Vl},Fz a b->b[i]?=aa (aa y)->a[i]?=aa (aa y)\/∃d,a[i]?=aa (aa (.ow d))/\y=.im d
 |[],[],i,y,_,e=>by simp at e
 |x::r,z::t,0,y,h,e=>by
  simp at e;rcases h.1 with q|⟨d,q1,q2⟩
  .left;rw[<-q,e];rfl
  .right;rw[e] at q2;cases q2;exact⟨d,by rw[q1];rfl,rfl⟩
 |x::r,z::t,i+1,y,h,e=>by
  simpa using Fz.at (i:=i) h.2 (by simpa using e)
 |[],_::_,_,_,h,_=>nomatch h
 |_::_,[],_,_,h,_=>nomatch h
theorem ale(h:Wl x y)(v:Option V):Zf (own1 y v) (own1 x v):=by
 rcases h with e|⟨d,e1,e2⟩
 .rw[e];exact An _
 .rw[e2];exact List.nil_sublist _
theorem Fz.own:∀{a b:En}{σ:St},Fz a b->Zf (bU b σ) (bU a σ)
 |[],[],σ,_=>by cases σ<;>exact An _
 |x::r,y::t,[],h=>An _
 |x::r,y::t,v::s,h=>by
  rw[bU,bU];exact HX (ale h.1 v) (Fz.own h.2)
 |[],_::_,_,h=>nomatch h
 |_::_,[],_,h=>nomatch h
abbrev bf(Z Θ:List aq)(env:En)(σ:St):List aq:=Z++(Θ++bU env σ)
def jQ(E H:Hp)(a:aq):au->Prop
 |.list ds=>∃vs,H a=aa (.lst vs)/\cA E ds vs
 |.dict kvs=>∃vs,yI H a kvs vs/\jk E kvs vs
 |_=>False
theorem jQ.same(s:bN E E')(h:∀o,H a=aa o->H' a=aa o)(r:jQ E H a d):jQ E' H' a d:=by
 cases d<;>first|exact r.elim|skip
 .obtain⟨vs,e,q⟩:=r
  exact⟨vs,h _ e,q.same s⟩
 .obtain⟨vs,e,q⟩:=r
  refine⟨vs,?_,q.same s⟩
  rcases e with⟨ks,k,e⟩|⟨ks,k,e⟩
  .exact .inl ⟨ks,k,h _ e⟩
  .exact .inr ⟨ks,k,h _ e⟩
theorem jQ.rz(h:∀o,H a=aa o->E a=aa o)(r:jQ E H a d):RZ E d (.ref a):=by
 cases d<;>first|exact r.elim|skip
 .obtain⟨vs,e,q⟩:=r
  exact⟨a,vs,rfl,h _ e,q⟩
 .obtain⟨vs,e,q⟩:=r
  refine⟨a,vs,rfl,?_,q⟩
  rcases e with⟨ks,k,e⟩|⟨ks,k,e⟩
  .exact .inl ⟨ks,k,h _ e⟩
  .exact .inr ⟨ks,k,h _ e⟩
structure aZ(Θ:List aq)(H H':Hp):Prop where
 keep:∀a o,H a=aa o->a∉Θ->H' a=aa o
 dom:∀a,H a≠aj->H' a≠aj
theorem aZ.refl(Θ:List aq)(H:Hp):aZ Θ H H:=⟨λ_ _ e _=>e,λ_ e=>e⟩
theorem aZ.trans(a:aZ Θ H H1)(b:aZ Θ H1 H2):aZ Θ H H2:=⟨λc o e n=>b.keep _ _ (a.keep _ _ e n) n,λc e=>b.dom _ (a.dom _ e)⟩
theorem aZ.none(k:aZ Θ H H')(h:H' a=aj):H a=aj:=by
 cases e:H a with
 |none=>rfl
 |some o=>exact absurd h (k.dom a (by rw[e];exact wM _))
theorem aZ.of(s:bN H H'):aZ Θ H H':=⟨λa o e _=>s _ _ e,λa h=>by
 cases e:H a with
 |none=>exact absurd e h
 |some o=>rw[s _ _ e];exact wM _⟩
theorem aZ.upd(h:H p=oK):aZ Θ H (L2.upd H p o):=aZ.of (bN.upd h)
theorem lR(k:aZ Θ H H')(ht:∀a∈Θ,a∈Z)(hz:∀a,a∈Z'->a∈Z\/H a=aj):bN (er Z H) (er Z' H'):=λb o h=>by
 unfold er at h⊢;split at h
 .cases h
 .rename_i n;rw[bH,k.keep _ _ h (λm=>n (ht b m))];intro m;rcases hz b m with q|q
  .exact n q
  .rw[q] at h;cases h
def Dh(K:aM)(E H:Hp)(Θ:List aq):Vl->V->Prop
 |.im d,v=>RZ E d v
 |.ow d,v=>∃a,v=.ref a/\jQ E H a d
 |.ce n,v=>∃a,v=.ref a/\Θ[n]?=aa a
 |.sc ns,v=>∃a,v=.ref a/\bR K E a (ns.map V.int)
 |.tp _ _ _,_=>False
def NT(o:Option HO):Prop:=∃u,o=aa u/\∀vs,u≠.tup vs
theorem NT.ne(h:NT o):o≠aj:=by
 obtain⟨u,rfl,_⟩:=h
 exact wM _
theorem jQ.nt(r:jQ E H a d):NT (H a):=by
 cases d<;>first|exact r.elim|skip
 .obtain⟨vs,e,q⟩:=r
  exact⟨_,e,λ_ z=>nomatch z⟩
 .obtain⟨vs,e,q⟩:=r
  rcases e with⟨ks,k,e⟩|⟨ks,k,e⟩
  .exact⟨_,e,λ_ z=>nomatch z⟩
  .exact⟨_,e,λ_ z=>nomatch z⟩
theorem jQ.there(r:jQ E H a d):H a≠aj:=r.nt.ne
structure pP(Θ:List aq)(C:Ce)(H:Hp):Prop where
 len:C.length=Θ.length
 at_:∀(n:Nat)(a:aq)(ns:List Int),Θ[n]?=aa a->C[n]?=aa ns->H a=aa (.lst (ns.map V.int))
structure Sm(K:aM)(Z Θ:List aq)(env:En)(C:Ce)(σ:St)(H:Hp):Prop where
 len:σ.length=env.length
 nd:(bf Z Θ env σ).Nodup
 dom:∀a∈Z,NT (H a)
 slot:∀(i:Nat)(x:Vl),env[i]?=aa (aa x)->∃v,σ[i]?=aa (aa v)/\Dh K (er (bf Z Θ env σ) H) H Θ x v
 cell:pP Θ C H
theorem pP.dom(c:pP Θ C H):∀a∈Θ,NT (H a):=λa m=>by
 obtain⟨n,hn,e⟩:=wL m
 have e1:Θ[n]?=aa a:=by rw[jJ hn,e]
 have h2:n<C.length:=by rw[c.len];exact hn
 exact⟨_,c.at_ n a C[n] e1 (jJ h2),λ_ z=>nomatch z⟩
section
variable{K:aM}{Z Θ:List aq}{env env':En}{C C':Ce}{σ:St}{H H':Hp}
theorem Sm.MP(S:Sm K Z Θ env C σ H):∀a∈bf Z Θ env σ,NT (H a):=λa m=>by
 rcases dB.mp m with m|m
 .exact S.dom a m
 .rcases dB.mp m with m|m
  .exact S.cell.dom a m
  .obtain⟨i,d,e1,e2⟩:=nu.mp m
   obtain⟨v,e3,b,e4,r⟩:=S.slot i _ e1
   rw[e2] at e3;cases e3;cases e4;exact r.nt
theorem Sm.zW(S:Sm K Z Θ env C σ H):∀a∈bf Z Θ env σ,H a≠aj:=λa m=>(S.MP a m).ne
theorem Sm.qN(S:Sm K Z Θ env C σ H):∀a∈Θ,a∈bf Z Θ env σ:=λa m=>fK _ (iW _ m)
theorem Dh.same(s:bN E E')(h:∀d a,x=.ow d->v=.ref a->∀o,H a=aa o->H' a=aa o)(r:Dh K E H Θ x v):Dh K E' H' Θ x v:=by
 cases x with
 |im d=>exact RZ.same s r
 |ow d=>obtain⟨a,e,q⟩:=r;exact⟨a,e,q.same s (h d a rfl e)⟩
 |ce n=>exact r
 |sc ns=>obtain⟨a,e,q⟩:=r;exact⟨a,e,s.seq q⟩
 |tp=>exact r
theorem Sm.oR(S:Sm K Z Θ env C σ H)(m:a∈bU env σ):a∉Z/\a∉Θ:=by
 have h:=S.nd;rw[kY] at h
 obtain⟨_,h2,h3⟩:=h
 rw[kY] at h2
 refine⟨λz=>h3 a z a (fK _ m) rfl,λz=>h2.2.2 a z a m rfl⟩
theorem Sm.go(S:Sm K Z Θ env C σ H)(k:aZ Θ H H')(c:pP Θ C' H'):Sm K Z Θ env C' σ H' where
 len:=S.len
 nd:=S.nd
 dom:=λa m=>by
  obtain⟨u,e,n⟩:=S.dom a m
  have h:=S.nd;rw[kY] at h
  exact⟨u,k.keep _ _ e λz=>h.2.2 a m a (iW _ z) rfl,n⟩
 slot:=λi x e=>by
  obtain⟨v,e1,r⟩:=S.slot i x e
  refine⟨v,e1,r.same (lR k S.qN λa m=>.inl m) λd a ex ev o ho=>k.keep _ _ ho ?_⟩
  subst ex ev
  exact(S.oR (nu.mpr ⟨i,d,e,e1⟩)).2
 cell:=c
theorem Sm.fz(S:Sm K Z Θ env C σ H)(f:Fz env env'):Sm K Z Θ env' C σ H:=by
 have sub:Zf (bf Z Θ env' σ) (bf Z Θ env σ):=HX (An _) (HX (An _) f.own);have sm:bN (er (bf Z Θ env σ) H) (er (bf Z Θ env' σ) H):=lR (aZ.refl [] H) (λ_ m=>nomatch m) λa m=>.inl (sub.subset m)
 refine⟨by rw[f.len];exact S.len,sub.nodup S.nd,S.dom,λi x e0=>?_,S.cell⟩
 rcases f.at e0 with e|⟨d,e,ex⟩
 .obtain⟨v,e1,r⟩:=S.slot i x e
  exact⟨v,e1,r.same sm λ_ _ _ _ _ ho=>ho⟩
 .subst ex
  obtain⟨v,e1,a,ev,r⟩:=S.slot i _ e
  subst ev
  refine⟨_,e1,jQ.rz (H:=H) (λo ho=>?_) (r.same sm λ_ ho=>ho)⟩
  unfold er;rw[bH]
  .exact ho
  .intro m;have hm:a∈bU env σ:=nu.mpr ⟨i,d,e,e1⟩;rcases dB.mp m with m|m
   .exact(S.oR hm).1 m
   .rcases dB.mp m with m|m
    .exact(S.oR hm).2 m
    .obtain⟨j,d',e3,e4⟩:=nu.mp m
     have nd:=S.nd;rw[kY] at nd;have nd2:=nd.2.1;rw[kY] at nd2;rcases f.at e3 with e5|⟨_,_,e5⟩
     .have:=Fb nd2.2.1 e e1 e5 e4;subst this;rw[e0] at e3;cases e3
     .cases e5
end
section
variable{K:aM}{Z Θ:List aq}{env env':En}{C C':Ce}{σ:St}{H H':Hp}{a p:aq}
theorem Sm.pop(S:Sm K (a::Z) Θ env C σ H):Sm K Z Θ env C σ H:=by
 have sm:bN (er (bf (a::Z) Θ env σ) H) (er (bf Z Θ env σ) H):=lR (aZ.refl [] H) (λ_ m=>nomatch m) λb m=>.inl (fP _ m)
 exact⟨S.len,(jD.mp S.nd).2,λb m=>S.dom b (fP _ m),λi x e=>let ⟨v,e1,r⟩:=S.slot i x e;⟨v,e1,r.same sm λ_ _ _ _ _ h=>h⟩,S.cell⟩
theorem Sm.push(S:Sm K Z Θ env C σ H)(hp:H p=aj)(o:HO)(ho:∀vs,o≠.tup vs):Sm K (p::Z) Θ env C σ (upd H p o):=by
 have k:aZ Θ H (upd H p o):=aZ.upd hp;have sm:bN (er (bf Z Θ env σ) H) (er (bf (p::Z) Θ env σ) (upd H p o)):=lR k S.qN λb m=>by
  rcases cB.mp m with rfl|m
  .exact .inr hp
  .exact .inl m
 have c:pP Θ C (upd H p o):=⟨S.cell.len,λn b ns e1 e2=>by
  have:=S.cell.at_ n b ns e1 e2;rw[cV (pM this hp)];exact this⟩
 refine⟨S.len,jD.mpr ⟨λm=>S.zW p m hp,S.nd⟩,λb m=>?_,λi x e=>?_,c⟩
 .rcases cB.mp m with rfl|m
  .exact⟨o,dO,ho⟩
  .obtain⟨u,e,n⟩:=S.dom b m
   exact⟨u,by rw[cV (pM e hp)];exact e,n⟩
 .obtain⟨v,e1,r⟩:=S.slot i x e
  refine⟨v,e1,r.same sm λd b ex ev o' ho=>?_⟩
  rw[cV (pM ho hp)];exact ho
theorem Sm.xW(S:Sm K Z Θ env C σ H)(s:bN H H'):Sm K Z Θ env C σ H':=
 S.go (aZ.of s) ⟨S.cell.len,λn b ns e1 e2=>s _ _ (S.cell.at_ n b ns e1 e2)⟩
def Res(K:aM)(Z Θ:List aq)(env:En)(C:Ce)(σ:St)(H H':Hp):Vl->V->Prop
 |.im d,v=>Sm K Z Θ env C σ H'/\RZ (er (bf Z Θ env σ) H') d v
 |.ow d,v=>∃a,v=.ref a/\H a=aj/\Sm K (a::Z) Θ env C σ H'/\jQ (er (bf (a::Z) Θ env σ) H') H' a d
 |.ce n,v=>Sm K Z Θ env C σ H'/\∃a,v=.ref a/\Θ[n]?=aa a
 |.sc ns,v=>Sm K Z Θ env C σ H'/\∃a,v=.ref a/\bR K (er (bf Z Θ env σ) H') a (ns.map V.int)
 |.tp _ _ _,_=>False
def Ae(E T:Hp):au->V->Prop
 |.list ds,v=>∃a vs,v=.ref a/\T a=aa (.lst vs)/\cA E ds vs
 |.dict kvs,v=>∃a vs,v=.ref a/\yI T a kvs vs/\jk E kvs vs
 |d,v=>RZ E d v
theorem Ae.same(s:bN E E')(t:bN T T')(h:Ae E T d v):Ae E' T' d v:=by
 cases d<;>first|exact RZ.same s h|skip
 .obtain⟨a,vs,e,q,r⟩:=h
  exact⟨a,vs,e,t _ _ q,r.same s⟩
 .obtain⟨a,vs,e,q,r⟩:=h
  exact⟨a,vs,e,q.same t,r.same s⟩
theorem RZ.bor(t:bN E T)(h:RZ E d v):Ae E T d v:=by
 cases d<;>first|exact h|skip
 .obtain⟨a,vs,e,q,r⟩:=h
  exact⟨a,vs,e,t _ _ q,r⟩
 .obtain⟨a,vs,e,q,r⟩:=h
  exact⟨a,vs,e,q.same t,r⟩
abbrev gw(Z Θ:List aq)(env:En)(σ:St)(H:Hp)(d:au)(v:V):Prop:=Ae (er (bf Z Θ env σ) H) (er Θ H) d v
theorem uH(h:∀a,a∈Z'->a∈Z):bN (er Z H) (er Z' H):=lR (aZ.refl [] H) (λ_ m=>nomatch m) λb m=>.inl (h b m)
theorem adt:bN (er (bf Z Θ env σ) H) (er Θ H):=uH λa m=>fK _ (iW _ m)
theorem Fz.sub(f:Fz env env'):∀a,a∈bf Z Θ env' σ->a∈bf Z Θ env σ:=λa m=>
 (HX (An _) (HX (An _) f.own)).subset m
theorem Vj(S:Sm K Z Θ env C σ H)(k:aZ Θ H H')(f:Fz env env'):bN (er (bf Z Θ env σ) H) (er (bf Z Θ env' σ) H'):=lR k S.qN λa m=>.inl (f.sub a m)
theorem acJ(k:aZ Θ H H'):bN (er Θ H) (er Θ H'):=lR k (λ_ m=>m) λa m=>.inl m
theorem gw.go(h:gw Z Θ env σ H d v)(S:Sm K Z Θ env C σ H)(k:aZ Θ H H')(f:Fz env env'):gw Z Θ env' σ H' d v:=Ae.same (Vj S k f) (acJ k) h
def dat:Vl->Option au
 |.im d=>aa d
 |.ow d=>aa d
 |.ce _=>aj
 |.sc _=>aj
 |.tp _ _ _=>aj
theorem Res.sm(h:Res K Z Θ env C σ H H' r v):Sm K Z Θ env C σ H':=by
 cases r with
 |im d=>exact h.1
 |ow d=>obtain⟨a,_,_,S,_⟩:=h;exact S.pop
 |ce n=>exact h.1
 |sc ns=>exact h.1
 |tp=>exact h.elim
theorem Res.bor(h:Res K Z Θ env C σ H H' r v)(e:dat r=aa d):gw Z Θ env σ H' d v:=by
 cases r with
 |im d'=>cases e;exact RZ.bor adt h.2
 |ow d'=>
  cases e
  obtain⟨a,rfl,_,S,r⟩:=h
  have na:a∉Θ:=λm=>(jD.mp S.nd).1 (fK _ (iW _ m))
  have sm:bN (er (bf (a::Z) Θ env σ) H') (er (bf Z Θ env σ) H'):=uH λb m=>fP _ m
  have ha:∀o,H' a=aa o->er Θ H' a=aa o:=λo ho=>by unfold er;rw[bH na];exact ho
  cases d<;>first|exact r.elim|skip
  .obtain⟨vs,e,q⟩:=r
   exact⟨a,vs,rfl,ha _ e,q.same sm⟩
  .obtain⟨vs,e,q⟩:=r
   refine⟨a,vs,rfl,?_,q.same sm⟩
   rcases e with⟨ks,k,e⟩|⟨ks,k,e⟩
   .exact .inl ⟨ks,k,ha _ e⟩
   .exact .inr ⟨ks,k,ha _ e⟩
 |ce n=>cases e
 |sc ns=>cases e
 |tp=>cases e
def still:Vl->Vl
 |.ow d=>.im d
 |r=>r
theorem Res.still(h:Res K Z Θ env C σ H H' r v):Res K Z Θ env C σ H H' (still r) v:=by
 cases r with
 |ow d=>
  obtain⟨a,rfl,hn,S,r⟩:=h
  refine⟨S.pop,jQ.rz (H:=H') (λo ho=>?_) (r.same (uH λb m=>fP _ m) λ_ h=>h)⟩
  unfold er;rw[bH (show ¬a∈bf Z Θ env σ from(jD.mp S.nd).1)];exact ho
 |im d=>exact h
 |ce n=>exact h
 |sc ns=>exact h
 |tp=>exact h
theorem Res.from(h:Res K Z Θ env C σ H H' r v)(k:aZ Θ H0 H):Res K Z Θ env C σ H0 H' r v:=by
 cases r with
 |ow d=>
  obtain⟨a,e,hn,S,r⟩:=h
  exact⟨a,e,k.none hn,S,r⟩
 |im d=>exact h
 |ce n=>exact h
 |sc ns=>exact h
 |tp=>exact h
theorem Cj(S:Sm K Z Θ env C σ H)(h:H a=aa (.tup vs)):er (bf Z Θ env σ) H a=aa (.tup vs):=by
 unfold er;rw[bH]
 .exact h
 .intro m
  obtain⟨u,e,n⟩:=S.MP a m
  rw[h] at e;exact n vs (gP e).symm
def rst(r:Vl)(env env':En):En:=match r with
 |.im d=>if kO d then env else env'
 |_=>env'
theorem Res.rst(S:Sm K Z Θ env C σ H)(k:aZ Θ H H')(h:Res K Z Θ env' C' σ H H' r v):Res K Z Θ (rst r env env') C' σ H H' r v:=by
 cases r with
 |im d=>
  by_cases f:L2.kO d=ao
  .have:L2.rst (.im d) env env'=env:=bz f;rw[this];have S':=S.go k h.1.cell
   exact⟨S',h.2.kO (λa vs e=>Cj S' (jn e)) f⟩
  .have:L2.rst (.im d) env env'=env':=bH f;rw[this];exact h
 |ow d=>exact h
 |ce n=>exact h
 |sc ns=>exact h
 |tp=>exact h
theorem Fz.rst(r:Vl)(f:Fz env env'):Fz env (rst r env env'):=by
 cases r with
 |im d=>
  show Fz env (if L2.kO d then env else env');split
  .exact Fz.refl _
  .exact f
 |ow d=>exact f
 |ce n=>exact f
 |sc ns=>exact f
 |tp=>exact f
theorem jE(S:Sm K Z Θ env C σ H)(f:lC d=ao)(hv:v=toV d):Res K Z Θ env C σ H H (.im d) v:=⟨S,by rw[hv];exact ald f⟩
theorem oO(S:Sm K Z Θ env C σ H)(r:cA (er (bf Z Θ env σ) H) ds vs)(hp:H p=aj):Res K Z Θ env C σ H (upd H p (.lst vs)) (.ow (.list ds)) (.ref p):=by
 refine⟨p,rfl,hp,S.push hp _ (λ_ z=>nomatch z),vs,dO,r.same (lR (aZ.upd (Θ:=Θ) hp) S.qN λb m=>?_)⟩
 rcases cB.mp m with rfl|m
 .exact .inr hp
 .exact .inl m
theorem alf(S:Sm K Z Θ env C σ H)(ho:∀vs,o≠.tup vs)(d:yI (upd H p o) p kvs vs)(r:jk (er (bf Z Θ env σ) H) kvs vs)(hp:H p=aj):Res K Z Θ env C σ H (upd H p o) (.ow (.dict kvs)) (.ref p):=by
 refine⟨p,rfl,hp,S.push hp _ ho,vs,d,r.same (lR (aZ.upd (Θ:=Θ) hp) S.qN λb m=>?_)⟩
 rcases cB.mp m with rfl|m
 .exact .inr hp
 .exact .inl m
theorem Kv(S:Sm K Z Θ env C σ H)(r:cA (er (bf Z Θ env σ) H) ds vs)(hp:H p=aj):Res K Z Θ env C σ H (upd H p (.tup vs)) (.im (.tuple ds)) (.ref p):=by
 have S':=S.xW (bN.upd (o:=.tup vs) hp)
 refine⟨S',p,vs,rfl,?_,r.same (lR (aZ.upd (Θ:=Θ) hp) S.qN λb m=>.inl m)⟩
 unfold er;rw[bH (λm=>S.zW p m hp),dO]
end
theorem hide{P:Prop}(h:∀G:Prop,(P->G)->G):P:=h P id
inductive ad3{α β:Type}(o:Option α)(g:α->Option β)(y:β):Prop
 |mk (x:α) (h1:o=aa x) (h2:g x=aa y):ad3 o g y
theorem jz(h:o.bind g=aa y):ad3 o g y:=by
 cases o with
 |none=>cases h
 |some x=>exact⟨x,rfl,h⟩
def tY:Vl->Option au
 |.im y=>aa y
 |_=>aj
theorem FQ(h:tY x=aa y):x=.im y:=by
 cases x<;>cases h;rfl
def Mg:au->Option Str
 |.str z=>aa z
 |_=>aj
theorem alg(h:Mg d=aa z):d=.str z:=by
 cases d<;>cases h;rfl
def intD:au->Option Int
 |.int k=>aa k
 |_=>aj
theorem Kw(h:intD d=aa k):d=.int k:=by
 cases d<;>cases h;rfl
abbrev FE:=En->Ce->Option (Vl×En×Ce)
abbrev FB:=En->Ce->Option (au×En×Ce)
abbrev FT:=En->Ce->Option (Bool×Ce)
abbrev yJ:=En->Ce->Option (List au×En×Ce)
abbrev FA:=En->Ce->Option (List Vl×En×Ce)
inductive tE(K:aM)(f:FE)(σ:St)(H:Hp)(Q:VK):Prop
 |mk (Z Θ:List aq) (env:En) (C:Ce) (r:Vl) (env':En) (C':Ce) (S:Sm K Z Θ env C σ H) (hf:f env C=aa (r,env',C')) (q:∀v H',aZ Θ H H'->Fz env env'->Res K Z Θ env' C' σ H H' r v->Q v H'):tE K f σ H Q
inductive eZ(K:aM)(f:FB)(σ:St)(H:Hp)(Q:VK):Prop
 |mk (Z Θ:List aq) (env:En) (C:Ce) (d:au) (env':En) (C':Ce) (S:Sm K Z Θ env C σ H) (hf:f env C=aa (d,env',C')) (q:∀v H',aZ Θ H H'->Fz env env'->Sm K Z Θ env' C' σ H'->gw Z Θ env' σ H' d v->Q v H'):eZ K f σ H Q
inductive gm(K:aM)(f:FT)(σ:St)(H:Hp)(Q:Bool->Hp->Prop):Prop
 |mk (Z Θ:List aq) (env:En) (C:Ce) (b:Bool) (C':Ce) (S:Sm K Z Θ env C σ H) (hf:f env C=aa (b,C')) (q:∀H',aZ Θ H H'->Sm K Z Θ env C' σ H'->Q b H'):gm K f σ H Q
inductive zX(E T:Hp):List au->List V->Prop
 |nil:zX E T [] []
 |cons {d:au} {v:V} {ds:List au} {vs:List V}:Ae E T d v->zX E T ds vs->zX E T (d::ds) (v::vs)
abbrev Lq(Z Θ:List aq)(env:En)(σ:St)(H:Hp)(ds:List au)(vs:List V):Prop:=zX (er (bf Z Θ env σ) H) (er Θ H) ds vs
inductive wj(K:aM)(f:yJ)(σ:St)(H:Hp)(Q:List V->Hp->Prop):Prop
 |mk (Z Θ:List aq) (env:En) (C:Ce) (ds:List au) (env':En) (C':Ce) (S:Sm K Z Θ env C σ H) (hf:f env C=aa (ds,env',C')) (q:∀vs H',aZ Θ H H'->Fz env env'->Sm K Z Θ env' C' σ H'->Lq Z Θ env' σ H' ds vs->Q vs H'):wj K f σ H Q
theorem PE.weak(h:PE X e t)(w:∀σ H Q,t' σ H Q->t σ H Q):PE X e t':=λpins s σ H Q I q=>h pins s σ H Q I (w σ H Q q)
theorem PT.weak(h:PT X e t)(w:∀σ H Q,t' σ H Q->t σ H Q):PT X e t':=λpins s σ H Q I q=>h pins s σ H Q I (w σ H Q q)
theorem PA.weak(h:PA X e t)(w:∀σ H Q,t' σ H Q->t σ H Q):PA X e t':=λp pins s σ H Q I q=>h p pins s σ H Q I (w σ H Q q)
theorem PS.weak(h:PS X e t)(w:∀D σ H,t' D σ H->t D σ H):PS X e t':=λpins s σ H D I q=>h pins s σ H D I (w D σ H q)
theorem jG.weak(h:jG X e t)(w:∀D σ H,t' D σ H->t D σ H):jG X e t':=λpins s σ H D I q=>h pins s σ H D I (w D σ H q)
theorem PW.weak(h:PW X e t)(w:∀σ H Q,t' σ H Q->t σ H Q):PW X e t':=λwh pins s σ H Q I q=>h wh pins s σ H Q I (w σ H Q q)
def aU(i:Nat):FE:=λenv C=>match env[i]? with
 |some (some (.im d))=>aa (.im d,env,C)
 |some (some (.ow d))=>aa (.im d,env.set i (aa (.im d)),C)
 |some (some (.ce n))=>aa (.ce n,env,C)
 |some (some (.sc ns))=>aa (.sc ns,env,C)
 |_=>aj
def aK(i:Nat):FB:=λenv C=>match env[i]? with
 |some (some x)=>(dat x).map λd=>(d,env,C)
 |_=>aj
def aN(d:au):FE:=λenv C=>aa (.im d,env,C)
def az(f:FE):FB:=λenv C=>match f env C with
 |some (r,e',C')=>(dat r).map λd=>(d,e',C')
 |none=>aj
theorem acK:∀{env:En}{i:Nat}{d:au},env[i]?=aa (aa (.ow d))->Fz env (env.set i (aa (.im d)))
 |[],i,d,e=>by simp at e
 |x::r,0,d,e=>by simp at e;subst e;exact⟨.inr ⟨d,rfl,rfl⟩,Fz.refl r⟩
 |x::r,i+1,d,e=>⟨.inl rfl,acK (by simpa using e)⟩
section
variable{X:Cx}{e:Expr}{i:Nat}
theorem aW(h:PE X e (qF i)):PE X e (tE X.K (aU i)):=h.weak λσ H Q aP=>by
 obtain⟨Z,Θ,env,C,r,env',C',S,hf,q⟩:=aP
 unfold aU at hf;split at hf;all_goals first|(rename_i d hd;cases hf)|cases hf
 .obtain⟨v,e1,r⟩:=S.slot i _ hd
  exact⟨v,e1,q v H (aZ.refl _ _) (Fz.refl _) ⟨S,r⟩⟩
 .have f:=acK hd
  obtain⟨v,e1,r⟩:=S.slot i _ hd
  have S':=S.fz f
  refine⟨v,e1,q v H (aZ.refl _ _) f ⟨S',?_⟩⟩
  have hi:i<env.length:=by
   have:=jH.mp hd;exact this.1
  obtain⟨v',e2,r'⟩:=S'.slot i (.im d) (by rw[DG,bz rfl,bz hi])
  rw[e1] at e2;cases e2;exact r'
 .obtain⟨v,e1,r⟩:=S.slot i _ hd
  exact⟨v,e1,q v H (aZ.refl _ _) (Fz.refl _) ⟨S,r⟩⟩
 .obtain⟨v,e1,r⟩:=S.slot i _ hd
  exact⟨v,e1,q v H (aZ.refl _ _) (Fz.refl _) ⟨S,r⟩⟩
theorem aQ(h:PE X e (qF i)):PE X e (eZ X.K (aK i)):=h.weak λσ H Q aP=>by
 obtain⟨Z,Θ,env,C,d,env',C',S,hf,q⟩:=aP
 unfold aK at hf;split at hf
 .rename_i x hx
  obtain⟨v,e1,r⟩:=S.slot i _ hx
  have ex:dat x=aa d/\env=env'/\C=C':=by
   cases hd:dat x with
   |none=>rw[hd] at hf;cases hf
   |some d'=>rw[hd] at hf;cases hf;exact⟨rfl,rfl,rfl⟩
  obtain⟨ex,rfl,rfl⟩:=ex
  refine⟨v,e1,q v H (aZ.refl _ _) (Fz.refl _) S ?_⟩
  cases x with
  |im d'=>cases ex;exact RZ.bor adt r
  |ow d'=>
   cases ex
   obtain⟨a,rfl,r⟩:=r
   have na:=(S.oR (nu.mpr ⟨i,_,hx,e1⟩)).2;have ha:∀o,H a=aa o->er Θ H a=aa o:=λo ho=>by unfold er;rw[bH na];exact ho
   cases d<;>first|exact r.elim|skip
   .obtain⟨vs,e,q⟩:=r
    exact⟨a,vs,rfl,ha _ e,q⟩
   .obtain⟨vs,e,q⟩:=r
    refine⟨a,vs,rfl,?_,q⟩
    rcases e with⟨ks,k,e⟩|⟨ks,k,e⟩
    .exact .inl ⟨ks,k,ha _ e⟩
    .exact .inr ⟨ks,k,ha _ e⟩
  |ce n=>cases ex
  |sc ns=>cases ex
  |tp=>cases ex
 .cases hf
theorem aV(h:PE X e (tC v))(f:lC d=ao:=by rfl)(hv:v=toV d:=by rfl):PE X e (tE X.K (aN d)):=h.weak λσ H Q aP=>by
 obtain⟨Z,Θ,env,C,r,env',C',S,hf,q⟩:=aP
 cases hf;exact q v H (aZ.refl _ _) (Fz.refl _) (jE S f hv)
theorem aC(h:PE X e (tE X.K f)):PE X e (eZ X.K (az f)):=h.weak λσ H Q aP=>by
 obtain⟨Z,Θ,env,C,d,env',C',S,hf,q⟩:=aP
 unfold az at hf;split at hf
 .rename_i r e' C1 hr;cases hd:dat r with
  |none=>rw[hd] at hf;cases hf
  |some d'=>
   rw[hd] at hf;cases hf
   exact⟨Z,Θ,env,C,r,env',C',S,hr,λv H' k f R=>q v H' k f R.sm (R.bor hd)⟩
 .cases hf
end
def f9:Nat:=1000000
theorem rZ(h:n<=f9):n<=cu:=by rw[iK];unfold f9 at h;lia
def gU(K:aM)(r:R2)(op:au->au->Option Vl):Prop:=
 ∀(Z Θ:List aq)(env:En)(C:Ce)(σ:St)(H:Hp)(x y:V)(dx dy:au)(res:Vl),Sm K Z Θ env C σ H->gw Z Θ env σ H dx x->gw Z Θ env σ H dy y->op dx dy=aa res->
  ∀Q:VK,(∀v H',aZ Θ H H'->Res K Z Θ env C σ H H' res v->Q v H')->r x y H Q
def aO(op:au->au->Option Vl)(fa fb:FB):FE:=λenv C=>match fa env C with
 |some (x,e1,C1)=>match fb e1 C1 with
  |some (y,e2,C2)=>match op x y with
   |some r=>aa (r,rst r env e2,C2)
   |none=>aj
  |none=>aj
 |none=>aj
theorem J8{K:aM}{r:R2}{op:au->au->Option Vl}(L:gU K r op){fa fb:FB}:∀σ H Q,tE K (aO op fa fb) σ H Q->G6 r (eZ K fa) (eZ K fb) σ H Q:=by
 rintro σ H Q ⟨Z,Θ,env,C,res,env',C',S,hf,q⟩;unfold aO at hf;split at hf
 .rename_i x e1 C1 h1;split at hf
  .rename_i y e2 C2 h2;split at hf
   .rename_i r0 h3;cases hf
    refine⟨Z,Θ,env,C,x,e1,C1,S,h1,λv H1 k1 f1 S1 b1=>⟨Z,Θ,e1,C1,y,e2,C',S1,h2,λu H2 k2 f2 S2 b2=>?_⟩⟩
    refine L Z Θ e2 C' σ H2 v u x y res S2 (b1.go S1 k2 f2) b2 h3 Q λz H3 k3 R=>?_
    have k:=(k1.trans k2).trans k3;exact q z H3 k ((f1.trans f2).rst res) ((R.from (k1.trans k2)).rst S k)
   .cases hf
  .cases hf
 .cases hf
section
variable{X:Cx}{a b:Expr}{fa fb:FB}{pos:Pos}{r:R2}{op:au->au->Option Vl}
theorem cz(ho:dm X (qj o) r)(L:gU X.K r op)(ha:PE X a (eZ X.K fa))(hb:PE X b (eZ X.K fb)):PE X (.BinOp a o b pos) (tE X.K (aO op fa fb)):=(anT ho ha hb).weak (J8 L)
theorem sI(ho:dm X (fU o) r)(L:gU X.K r op)(ha:PE X a (eZ X.K fa))(hb:PE X b (eZ X.K fb))(hm:DX o b=aJ):PE X (.Compare a [o] [b] pos) (tE X.K (aO op fa fb)):=(akL ho ha hb hm).weak (J8 L)
theorem dF(ho:rH X r)(L:gU X.K r op)(ha:PE X a (eZ X.K fa))(hb:PE X b (eZ X.K fb))(hs:Kq b):PE X (.Subscript a b pos) (tE X.K (aO op fa fb)):=(Vg ho ha hb hs).weak (J8 L)
end
theorem gU.or{K:aM}{r r':R2}{op op':au->au->Option Vl}(h:gU K r op)(h':gU K r' op'):gU K (λx y H Q=>r x y H Q\/r' x y H Q) (λx y=>match op x y with|some z=>aa z|none=>op' x y):=by
 intro Z Θ env C σ H x y dx dy res S bx fH e Q q;cases h1:op dx dy with
 |some z=>
  simp only[h1] at e;cases e;exact .inl (h Z Θ env C σ H x y dx dy _ S bx fH h1 Q q)
 |none=>
  simp only[h1] at e;exact .inr (h' Z Θ env C σ H x y dx dy res S bx fH e Q q)
section
variable{K:aM}{Z Θ:List aq}{env:En}{C:Ce}{σ:St}{H:Hp}{x:V}
theorem gw.int(h:gw Z Θ env σ H (.int i) x):x=.int i:=h
theorem gw.str(h:gw Z Θ env σ H (.str i) x):x=.str i:=h
theorem gw.tup(h:gw Z Θ env σ H (.tuple ds) x):∃a vs,x=.ref a/\H a=aa (.tup vs)/\cA (er (bf Z Θ env σ) H) ds vs:=by
 obtain⟨a,vs,e,q,r⟩:=h
 exact⟨a,vs,e,jn q,r⟩
theorem gw.lst(h:gw Z Θ env σ H (.list ds) x):∃a vs,x=.ref a/\H a=aa (.lst vs)/\cA (er (bf Z Θ env σ) H) ds vs:=by
 obtain⟨a,vs,e,q,r⟩:=h
 exact⟨a,vs,e,jn q,r⟩
theorem gw.dct(h:gw Z Θ env σ H (.dict kvs) x):∃a vs,x=.ref a/\yI H a kvs vs/\jk (er (bf Z Θ env σ) H) kvs vs:=by
 obtain⟨a,vs,e,q,r⟩:=h
 exact⟨a,vs,e,q.same (CJ _ _),r⟩
theorem gw.flat(f:lC d=ao)(h:gw Z Θ env σ H d x):x=toV d:=by
 cases d<;>first|exact h|cases f
theorem gw.rx(n:qM d=ao)(h:gw Z Θ env σ H d x):RX H d x:=by
 cases d<;>first|exact h|skip
 .obtain⟨a,vs,e,q,r⟩:=h
  exact⟨a,vs,e,jn q,(r.same (CJ _ _)).rx n⟩
 .obtain⟨a,vs,e,q,r⟩:=h
  exact⟨a,vs,e,jn q,(r.same (CJ _ _)).rx n⟩
 .cases n
end
section
variable{X:Cx}
def cG:au->au->Option Vl
 |.int i,.int j=>aa (.im (.int (i+j)))
 |.str x,.str y=>if x.length+y.length<=f9 then aa (.im (.str (x++y))) else aj
 |.list xs,.list ys=>if xs.length+ys.length<=f9 then aa (.ow (.list (xs++ys))) else aj
 |.tuple xs,.tuple ys=>if xs.isEmpty then aa (.im (.tuple ys)) else if xs.length+ys.length<=f9 then aa (.im (.tuple (xs++ys))) else aj
 |_,_=>aj
def adu(K:aM):R2:=λx y H Q=>∃a b ys,x=.ref a/\y=.ref b/\dj K H a []/\dj K H b ys/\Q (.ref b) H
theorem alh:dm X (qj .Add) (adu X.K):=by
 intro pins s σ H x y v u Q I rx ry h
 obtain⟨a,b,ys,rfl,rfl,ha,hb,q⟩:=h
 cases rx;cases ry
 obtain⟨its,r1,p1,_⟩:=I.tuple ha
 obtain⟨its2,r2,p2,_⟩:=I.tuple hb
 obtain⟨⟨cls,dd,data,sl⟩,ho,hc,n,hd⟩:=id p1
 obtain⟨⟨cls2,dd2,data2,sl2⟩,ho2,hc2,n2,hd2⟩:=id p2
 simp only at hc hd hc2 hd2;subst hc hd hc2 hd2;exact Y9 ⟨_,ho,rfl⟩ ⟨_,ho2,rfl⟩ X4 YQ Xf Xe (Xa _ _)
  (tuple_addW0 a b its.toArray its2.toArray n n2 dd dd2 sl sl2 (by cases r1;rfl)) ⟨ho,ho2,⟨.ref b,H,I,rfl,q⟩⟩
def adw(K:aM):R2:=λx y H Q=>(((qK λi j=>.int (i+j)) x y H Q\/∃i j,x=.str i/\y=.str j/\i.length+j.length<=cu/\Q (.str (i++j)) H)\/adV x y H Q)\/adu K x y H Q\/adm K x y H Q
theorem fV:dm X (qj .Add) (adw X.K):=((ams.or ahJ).or amG).or (alh.or akS)
theorem fW{K:aM}:gU K (adw K) cG:=by
 intro Z Θ env C σ H x y dx dy res S bx fH e Q q;unfold cG at e;split at e
 .cases e;cases bx.int;cases fH.int;exact .inl (.inl (.inl ⟨_,_,rfl,rfl,q _ _ (aZ.refl _ _) (jE S rfl rfl)⟩))
 .split at e
  .rename_i hl;cases e;cases bx.str;cases fH.str;exact .inl (.inl (.inr ⟨_,_,rfl,rfl,rZ hl,q _ _ (aZ.refl _ _) (jE S rfl rfl)⟩))
  .cases e
 .split at e
  .rename_i hl;cases e
   obtain⟨a,vs,rfl,ha,r1⟩:=bx.lst
   obtain⟨b,ws,rfl,hb,r2⟩:=fH.lst
   exact .inl (.inr ⟨a,b,vs,ws,rfl,rfl,ha,hb,by rw[jo r1,jo r2];exact rZ hl,λp hp=>q _ _ (aZ.upd hp) (oO S (zA r1 r2) hp)⟩)
  .cases e
 .split at e
  .rename_i xs ys he;cases e;have:xs=[]:=List.isEmpty_iff.mp he;subst this;have by2:=fH
   obtain⟨a,vs,rfl,ha,r1⟩:=bx.tup
   obtain⟨b,ws,rfl,hb,r2⟩:=fH.tup
   cases(show vs=[] from r1)
   exact .inr (.inl ⟨a,b,ws,rfl,rfl,dj.of ha,dj.of hb,q _ _ (aZ.refl _ _) ⟨S,by2⟩⟩)
  split at e
  .rename_i xs ys he hl;cases e
   obtain⟨a,vs,rfl,ha,r1⟩:=bx.tup
   obtain⟨b,ws,rfl,hb,r2⟩:=fH.tup
   have l1:=jo r1;have l2:=jo r2;have hv:vs≠[]:=λz=>by
    subst z;cases xs with
    |nil=>exact he rfl
    |cons _ _=>cases l1
   refine .inr (.inr ⟨a,b,vs,ws,rfl,rfl,dj.of ha,dj.of hb,hv,by rw[l1,l2];exact rZ hl,λz=>?_,λ_ p hp=>q _ _ (aZ.upd hp) (Kv S (zA r1 r2) hp)⟩);subst z;have:ys=[]:=List.eq_nil_of_length_eq_zero l2.symm;subst this;rw[lO] at q;refine q _ _ (aZ.refl _ _) ⟨S,?_⟩;exact bx
  .cases e
 .cases e
def xX:au->au->Option Vl
 |.int i,.int j=>aa (.im (.int (i-j)))
 |_,_=>aj
theorem Tn{K:aM}{g:Int->Int->V}{op:au->au->Option Vl}(h:∀dx dy res,op dx dy=aa res->∃i j d,dx=.int i/\dy=.int j/\res=.im d/\lC d=ao/\g i j=toV d):gU K (qK g) op:=by
 intro Z Θ env C σ H x y dx dy res S bx fH e Q q
 obtain⟨i,j,d,rfl,rfl,rfl,f,hv⟩:=h _ _ _ e
 cases bx.int;cases fH.int
 exact⟨_,_,rfl,rfl,q _ _ (aZ.refl _ _) (jE S f hv)⟩
theorem La{K:aM}{Cn:Int->Int->Prop}{g:Int->Int->V}{op:au->au->Option Vl}(h:∀dx dy res,op dx dy=aa res->∃i j d,dx=.int i/\dy=.int j/\res=.im d/\lC d=ao/\g i j=toV d/\Cn i j):gU K (rI Cn g) op:=by
 intro Z Θ env C σ H x y dx dy res S bx fH e Q q
 obtain⟨i,j,d,rfl,rfl,rfl,f,hv,c⟩:=h _ _ _ e
 cases bx.int;cases fH.int
 exact⟨_,_,rfl,rfl,c,q _ _ (aZ.refl _ _) (jE S f hv)⟩
theorem FW{K:aM}:gU K (qK λi j=>.int (i-j)) xX:=Tn λdx dy res e=>by
 unfold xX at e;split at e<;>cases e
 exact⟨_,_,_,rfl,rfl,rfl,rfl,rfl⟩
def lD:au->au->Option Vl
 |.int i,.int j=>if 0<j then aa (.im (.int (i%j))) else aj
 |_,_=>aj
theorem sJ{K:aM}:gU K (rI (λ_ j=>0<j) λi j=>.int (i%j)) lD:=La λdx dy res e=>by
 unfold lD at e;split at e
 .split at e
  .rename_i h;cases e;exact⟨_,_,_,rfl,rfl,rfl,rfl,rfl,h⟩
  .cases e
 .cases e
def xO:au->au->Option Vl
 |.int i,.int j=>if 0<j/\j<1073741824 then aa (.im (.int (i / j))) else aj
 |_,_=>aj
theorem Tp{K:aM}:gU K (rI adQ λi j=>.int (i / j)) xO:=La λdx dy res e=>by
 unfold xO at e;split at e
 .split at e
  .rename_i h;cases e;exact⟨_,_,_,rfl,rfl,rfl,rfl,rfl,h⟩
  .cases e
 .cases e
def xY:au->au->Option Vl
 |.int i,.int j=>if 0<=j/\j<=1000000/\i.natAbs<2^64 then aa (.im (.int (i^j.toNat))) else aj
 |_,_=>aj
theorem Uu{K:aM}:gU K (rI adR λi j=>.int (i^j.toNat)) xY:=La λdx dy res e=>by
 unfold xY at e;split at e
 .split at e
  .rename_i h;cases e;exact⟨_,_,_,rfl,rfl,rfl,rfl,rfl,h⟩
  .cases e
 .cases e
def jV:au->au->Option Vl
 |.int i,.int j=>if(-(2^64)<i/\i<2^64)\/(-(2^64)<j/\j<2^64) then aa (.im (.int (i*j))) else aj
 |_,_=>aj
theorem qZ{K:aM}:gU K (rI Mf λi j=>.int (i*j)) jV:=La λdx dy res e=>by
 unfold jV at e;split at e
 .split at e
  .rename_i h;cases e;exact⟨_,_,_,rfl,rfl,rfl,rfl,rfl,h⟩
  .cases e
 .cases e
end
section
variable{X:Cx}
def yK:au->au->Option Bool
 |.int i,.int j=>aa (i==j)
 |.str x,.str y=>aa (x==y)
 |.bool a,.bool b=>aa (a==b)
 |d,e=>if qM d&&qM e&&(lN d&&lN e) then aa (xq d e) else aj
def m5(d e:au):Option Vl:=(yK d e).map λb=>.im (.bool b)
def lV(d e:au):Option Vl:=(yK d e).map λb=>.im (.bool (!b))
theorem ah1(hu:X.A.units+64<gj):dm X (fU .Eq) (λx y H Q=>∃d e,RX H d x/\RX H e y/\lN d=ao/\lN e=ao/\Q (.bl (xq d e)) H):=by
 intro pins s σ H x y v u Q I rx ry h
 obtain⟨d,e,hd,he,h1,h2,q⟩:=h
 obtain⟨as,ra⟩:=RD.reads I (hd.rd (K:=X.K)) rx
 obtain⟨bs,rb⟩:=RD.reads I (he.rd (K:=X.K)) ry
 exact PySem.SeqAt.compareEq_shaped ra rb h1 h2 hu ⟨.bl _,H,I,rfl,q⟩
def ad4:R2:=λx y H Q=>rEq x y H Q\/∃d e,RX H d x/\RX H e y/\lN d=ao/\lN e=ao/\Q (.bl (xq d e)) H
def ad5:R2:=λx y H Q=>rNe x y H Q\/∃d e,RX H d x/\RX H e y/\lN d=ao/\lN e=ao/\Q (.bl (!PyData.eqv d e)) H
theorem uI(hu:X.A.units+64<gj):dm X (fU .Eq) ad4:=anV.or (ah1 hu)
theorem zH(hu:X.A.units+64<gj):dm X (fU .NotEq) ad5:=anW.or (ahT hu)
theorem aak(h:yK d e=aa b):(lC d=ao/\lC e=ao/\VG (toV d) (toV e)=ao/\b=decide (toV d=toV e))\/(qM d=ao/\qM e=ao/\lN d=ao/\lN e=ao/\b=xq d e):=by
 unfold yK at h;split at h
 .cases h;exact .inl ⟨rfl,rfl,rfl,S9.symm⟩
 .cases h;exact .inl ⟨rfl,rfl,rfl,Tc.symm⟩
 .cases h;exact .inl ⟨rfl,rfl,rfl,Uk.symm⟩
 .split at h
  .rename_i q;cases h;rw[jK,jK,jK] at q;exact .inr ⟨q.1.1,q.1.2,q.2.1,q.2.2,rfl⟩
  .cases h
theorem uM{K:aM}:gU K ad4 m5:=by
 intro Z Θ env C σ H x y dx dy res S bx fH e Q q;unfold m5 at e;cases h:yK dx dy with
 |none=>rw[h] at e;cases e
 |some b=>
  rw[h] at e;cases e;have fin:=q (.bl b) H (aZ.refl _ _) (jE S rfl rfl);rcases aak h with⟨f1,f2,sc,eb⟩|⟨n1,n2,s1,s2,eb⟩
  .rw[bx.flat f1,fH.flat f2];rw[eb] at fin;exact .inl ⟨sc,fin⟩
  .rw[eb] at fin;exact .inr ⟨dx,dy,bx.rx n1,fH.rx n2,s1,s2,fin⟩
theorem zQ{K:aM}:gU K ad5 lV:=by
 intro Z Θ env C σ H x y dx dy res S bx fH e Q q;unfold lV at e;cases h:yK dx dy with
 |none=>rw[h] at e;cases e
 |some b=>
  rw[h] at e;cases e;have fin:=q (.bl (!b)) H (aZ.refl _ _) (jE S rfl rfl);rcases aak h with⟨f1,f2,sc,eb⟩|⟨n1,n2,s1,s2,eb⟩
  .rw[bx.flat f1,fH.flat f2];rw[eb] at fin;exact .inl ⟨sc,fin⟩
  .rw[eb] at fin;exact .inr ⟨dx,dy,bx.rx n1,fH.rx n2,s1,s2,fin⟩
def strLt(x y:Str):Bool:=decide (x.cps.toList<y.cps.toList)
def adx(xs ys:List au):Option Bool:=match keysOf xs,keysOf ys with
 |some ks,some js=>if ks.map bV=js.map bV then aa (fD ks js) else aj
 |_,_=>aj
def vU:au->au->Option Vl
 |.int i,.int j=>aa (.im (.bool (decide (i<j))))
 |.str x,.str y=>aa (.im (.bool (strLt x y)))
 |.tuple xs,.tuple ys=>(adx xs ys).map λb=>.im (.bool b)
 |_,_=>aj
theorem xr:∀{ds:List au}{ks:List Key}{vs:List V},keysOf ds=aa ks->cA E ds vs->vs=ks.map kV
 |[],ks,vs,h,r=>by cases h;exact r
 |d::ds,ks,vs,h,r=>by
  unfold keysOf at h;split at h
  .rename_i k t h1 h2;cases h
   obtain⟨u,w,e1,q,s⟩:=r
   rw[e1,xr h2 s];have:u=kV k:=by
    cases d<;>first|(cases h1;exact q)|cases h1
   rw[this];rfl
  .cases h
def ao7:R2:=λx y H Q=>(∃a b,x=kV a/\y=kV b/\bV a=bV b/\Q (.bl (kLt a b)) H)\/∃a b ks js,x=.ref a/\y=.ref b/\H a=aa (.tup (ks.map kV))/\H b=aa (.tup (js.map kV))/\ks.map bV=js.map bV/\Q (.bl (fD ks js)) H
theorem Vk{K:aM}:gU K ao7 vU:=by
 intro Z Θ env C σ H x y dx dy res S bx fH e Q q;unfold vU at e;split at e
 .cases e;cases bx.int;cases fH.int;exact .inl ⟨.inl _,.inl _,rfl,rfl,rfl,q _ _ (aZ.refl _ _) (jE S rfl rfl)⟩
 .cases e;cases bx.str;cases fH.str;exact .inl ⟨.inr _,.inr _,rfl,rfl,rfl,q _ _ (aZ.refl _ _) (jE S rfl rfl)⟩
 .rename_i xs ys;unfold adx at e;split at e
  .rename_i ks js h1 h2;split at e
   .rename_i ht;cases e
    obtain⟨a,vs,rfl,ha,r1⟩:=bx.tup
    obtain⟨b,ws,rfl,hb,r2⟩:=fH.tup
    rw[xr h1 r1] at ha;rw[xr h2 r2] at hb;exact .inr ⟨a,b,ks,js,rfl,rfl,ha,hb,ht,q _ _ (aZ.refl _ _) (jE S rfl rfl)⟩
   .cases e
  .cases e
 .cases e
def qG:au->au->Option Vl
 |.int i,.int j=>aa (.im (.bool (decide (i<=j))))
 |.str x,.str y=>aa (.im (.bool (!strLt y x)))
 |_,_=>aj
def ad6:R2:=λx y H Q=>(qK λi j=>.bl (decide (i<=j))) x y H Q\/∃i j,x=.str i/\y=.str j/\Q (.bl (!(decide (j.cps.toList<i.cps.toList)))) H
theorem Ck:dm X (fU .LtE) ad6:=anY.or aiI
theorem CK{K:aM}:gU K ad6 qG:=by
 intro Z Θ env C σ H x y dx dy res S bx fH e Q q;unfold qG at e;split at e
 .cases e;cases bx.int;cases fH.int;exact .inl ⟨_,_,rfl,rfl,q _ _ (aZ.refl _ _) (jE S rfl rfl)⟩
 .cases e;cases bx.str;cases fH.str;exact .inr ⟨_,_,rfl,rfl,q _ _ (aZ.refl _ _) (jE S rfl rfl)⟩
 .cases e
def vV:au->au->Option Vl
 |.int i,.int j=>aa (.im (.bool (decide (j<i))))
 |_,_=>aj
def Mh:au->au->Option Vl
 |.int i,.int j=>aa (.im (.bool (decide (j<=i))))
 |_,_=>aj
theorem Gi{K:aM}:gU K (qK λi j=>.bl (decide (j<i))) vV:=Tn λdx dy res e=>by
 unfold vV at e;split at e<;>cases e
 exact⟨_,_,_,rfl,rfl,rfl,rfl,rfl⟩
theorem an9{K:aM}:gU K (qK λi j=>.bl (decide (j<=i))) Mh:=Tn λdx dy res e=>by
 unfold Mh at e;split at e<;>cases e
 exact⟨_,_,_,rfl,rfl,rfl,rfl,rfl⟩
def isNone:au->Bool
 |.none=>ao
 |_=>aJ
def pR(d e:au):Option Vl:=if isNone e then aa (.im (.bool (isNone d))) else aj
theorem aaU(h:gw Z Θ env σ H d x):decide (x=V.non)=isNone d:=by
 cases d<;>first
  |(cases(show x=_ from h);rfl)
  |(obtain⟨a,vs,e,_⟩:=h;subst e;rfl)
theorem Lb{K:aM}:gU K (λx y H Q=>y=.non/\Q (.bl (decide (x=.non))) H) pR:=by
 intro Z Θ env C σ H x y dx dy res S bx fH e Q q;unfold pR at e;split at e
 .rename_i hn;cases e;have hy:y=.non:=of_decide_eq_true ((aaU fH).trans hn)
  exact⟨hy,by rw[aaU bx];exact q _ _ (aZ.refl _ _) (jE S rfl rfl)⟩
 .cases e
end
section
variable{X:Cx}{pins:List (aq×Obj)}{σ:St}{H:Hp}{s:aD}{a b:aq}
theorem Inv.Hh(I:Inv X pins σ H s)(h:H a=aa (.dK [])):Inv X pins σ (upd H a (.dT [])) s:=by
 obtain⟨z,hm,vs,r,o,es,ep,h1,h2,h3,h4,h5,h6⟩:=I.hok a _ h
 cases r;have e0:es.toList=[]:=by
  cases hh:es.toList with
  |nil=>rfl
  |cons x xs=>rw[hh] at h5;cases h5
 have:=zx (t':=s.toks) (ob:=.dT []) I (by rw[h];trivial) (XQ a s.heap) ⟨_,h1⟩ ⟨m9 _,hm,[],.nil,o,es,ep,h1,h2,h3,e0,nZ⟩;exact this
theorem Inv.MT(I:Inv X pins σ (upd H a (.dT [])) s)(h:H a=aa (.dK [])):Inv X pins σ H s:=by
 obtain⟨z,hm,xs,r,o,es,ep,h1,h2,h3,h4,h5⟩:=I.hok a _ dO
 cases r;have e0:es=#[]:=by
  cases es;simp at h4;rw[h4]
 subst e0;have:=zx (t':=s.toks) (ob:=.dK []) I (by rw[dO];trivial) (XQ a s.heap) ⟨_,h1⟩ (K8 (m9 _) hm .nil ⟨o,#[],ep,h1,h2,h3,λi hi=>absurd hi (by simp),.nil,nZ⟩);rw[abA] at this;have e:upd H a (.dK [])=H:=by
  funext b;by_cases hb:b=a
  .subst hb;rw[dO,h]
  .exact cV hb
 rw[e] at this;exact this
end
def pY(H:Hp)(a:aq)(y:V)(r:Option V):Prop:=nP H a y r\/(H a=aa (.dK [])/\(∃(b:aq)(ks:List Key),y=.ref b/\H b=aa (.tup (ks.map kV)))/\r=aj)
section
variable{X:Cx}{pins:List (aq×Obj)}{σ:St}{H:Hp}{s:aD}{a:aq}{y v:V}{u r:Value}{o:Option V}{A:cM}{E:Value->aD->Prop}
theorem pY.re(ha:H a=aa (.dK [])){b:aq}{ks:List Key}(hb:H b=aa (.tup (ks.map kV))):nP (upd H a (.dT [])) a (.ref b) aj:=by
 have:(upd H a (.dT [])) b=aa (.tup (ks.map kV)):=by rw[cV (Va hb ha (λz=>nomatch z))];exact hb
 exact nP.t (kvs:=[]) (k:=ks) dO this
theorem aoa(hu:A.units+1<gj)(I:Inv X pins σ H s)(g:pY H a y o)(ry:RelV y u)(h:∀s',Inv X pins σ H s'->Q (.bool o.isSome) s'):aR (model X.prog X.w) A (fU .In u (.ref a)) Q E s:=by
 rcases g with g|⟨ha,⟨b,ks,rfl,hb⟩,rfl⟩
 .exact adW hu I g ry h
 .exact adW hu (I.Hh ha) (pY.re ha hb) ry λs' I'=>h s' (I'.MT ha)
theorem ajS(hu:A.units+1<gj)(I:Inv X pins σ H s)(g:pY H a y o)(ry:RelV y u)(h:∀s',Inv X pins σ H s'->Q (.bool (!o.isSome)) s'):aR (model X.prog X.w) A (fU .NotIn u (.ref a)) Q E s:=by
 rcases g with g|⟨ha,⟨b,ks,rfl,hb⟩,rfl⟩
 .exact abI hu I g ry h
 .exact abI hu (I.Hh ha) (pY.re ha hb) ry λs' I'=>h s' (I'.MT ha)
theorem amV(hu:X.A.units+1<gj):dm X (fU .In) (λy x H Q=>∃a o,x=.ref a/\pY H a y o/\Q (.bl o.isSome) H):=by
 intro pins s σ H x y v u Q I rx ry h
 obtain⟨a,o,rfl,g,q⟩:=h
 cases ry;exact aoa hu I g rx λs' I'=>⟨.bl _,H,I',rfl,q⟩
theorem aiU(hu:X.A.units+1<gj):dm X (fU .NotIn) (λy x H Q=>∃a o,x=.ref a/\pY H a y o/\Q (.bl (!o.isSome)) H):=by
 intro pins s σ H x y v u Q I rx ry h
 obtain⟨a,o,rfl,g,q⟩:=h
 cases ry;exact ajS hu I g rx λs' I'=>⟨.bl _,H,I',rfl,q⟩
theorem ali(hu:X.A.units+1<gj):rH X (λx y H Q=>∃a v,x=.ref a/\nP H a y (aa v)/\Q v H):=by
 intro value slice pins s σ H x y v u Q I rx ry h hs
 obtain⟨a,z,rfl,g,q⟩:=h
 cases rx;have hT:=ahu I g;have h2:aR (model X.prog X.w) X.A (xH (.ref a) u) (EP X pins σ Q) X.xe s:=aiB hu I g ry λw' s' I' r'=>⟨z,H,I',r',q⟩
 unfold subscriptTail;refine aG ?_;rw[getitemInPython_of_ne hT.not_modules];refine aG (wpAny_specialOf hT PySem.F.slot_dict_getitem.lookup ?_);have fin:aR (model X.prog X.w) X.A (Zw slice aJ (.ref a) u) (λr s₃=>aR (model X.prog X.w) X.A (letTemporaryGo value (.ref a) r >>= λ_=>pure r) (EP X pins σ Q) X.xe s₃) X.xe s:=by
  rw[hs];exact wpAny_operating (pN h2 (λr s₃ h₃=>aG (wpAny_letTemporaryGo (bh h₃))) λ_ _ x=>x)
 first
  |exact bh (aG fin)
  |exact aG (bh (aG fin))
  |exact aG fin
end
def oW{κ:Type}[DecidableEq κ](f:au->Option κ)(k:κ):List (au×au)->Option au
 |[]=>aj
 |p::r=>if f p.1=aa k then aa p.2 else oW f k r
def nG(kvs:List (au×au))(d:au):Option (Option au):=match cX d with
 |some k=>if(cO cX kvs).isSome then aa (oW cX k kvs) else aj
 |none=>match rA d with
  |some ks=>if(cO rA kvs).isSome then aa (oW rA ks kvs) else aj
  |none=>aj
theorem Rz[DecidableEq κ]:∀{kvs:List (au×au)}{ks:List κ}{vs:List V},cO f kvs=aa ks->jk E kvs vs->
  (∃d v,oW f k kvs=aa d/\oA (ks.zip vs) k=aa v/\RZ E d v)\/(oW f k kvs=aj/\oA (ks.zip vs) k=aj)
 |[],ks,vs,h,r=>by
  cases h
  cases(show vs=[] from r)
  exact .inr ⟨rfl,rfl⟩
 |(p,d)::kvs,ks,vs,h,r=>by
  unfold cO at h;split at h
  .rename_i k' t h1 h2;cases h
   obtain⟨v,w,rfl,q,s⟩:=r
   by_cases e:k'=k
   .subst e;refine .inl ⟨d,v,?_,?_,q⟩
    .unfold oW;rw[bz h1]
    .exact J3 (p:=(k',v)) rfl
   .have e1:oW f k ((p,d)::kvs)=oW f k kvs:=by
     show(if f p=aa k then aa d else oW f k kvs)=_
     rw[bH];intro z;rw[h1] at z;exact e (gP z)
    have e2:oA ((k'::t).zip (v::w)) k=oA (t.zip w) k:=J4 (p:=(k',v)) e;rw[e1,e2];exact Rz h2 s
  .cases h
theorem uz:∀{kvs:List (au×au)}{ks:List κ},cO f kvs=aa ks->ks.length=kvs.length
 |[],ks,h=>by cases h;rfl
 |p::kvs,ks,h=>by
  unfold cO at h;split at h
  .rename_i k' t h1 h2;cases h;rw[cZ,cZ,uz h2]
  .cases h
theorem acL(h:cX d=aa k)(r:RZ E d v):v=kV k:=by
 cases d<;>first|(cases h;exact r)|cases h
theorem acM(h:cX d=aa k)(g:rA d=aa ks):False:=by
 cases d<;>first|(cases h;done)|(cases g;done)
section
variable{K:aM}{Z Θ:List aq}{env:En}{C:Ce}{σ:St}{H:Hp}{x y:V}
theorem vA(h:cO cX kvs=aa ks)(g:cO rA kvs=aa js):kvs=[]:=by
 cases kvs with
 |nil=>rfl
 |cons p r=>
  unfold cO at h g;split at h
  .rename_i h1 h2;split at g
   .rename_i h3 h4
    exact(acM h1 h3).elim
   .cases g
  .cases h
theorem gw.get(h:gw Z Θ env σ H (.dict kvs) x)(hy:gw Z Θ env σ H d y)(e:nG kvs d=aa o):
  ∃a r,x=.ref a/\pY H a y r/\((∃v,r=aa v/\∃d',o=aa d'/\RZ (er (bf Z Θ env σ) H) d' v/\nP H a y (aa v))\/(r=aj/\o=aj)):=by
 obtain⟨a,vs,rfl,dt,rd⟩:=h.dct
 unfold nG at e;split at e
 .rename_i k hk;split at e
  .rename_i hs;cases e;have yk:y=kV k:=by
    cases d<;>first|(cases hk;exact hy)|cases hk
   have dk:∃ks,cO cX kvs=aa ks/\H a=aa (.dK (ks.zip vs)):=by
    rcases dt with h|⟨ks,⟨ne,h2⟩,_⟩
    .exact h
    .obtain⟨ks',h1⟩:=wG.mp hs
     exact absurd (vA h1 h2) ne
   obtain⟨ks,h1,ha⟩:=dk
   have g:=nP.k (k:=k) ha;rw[<-yk] at g;rcases Rz (k:=k) h1 rd with⟨d',v,e1,e2,r⟩|⟨e1,e2⟩
   .rw[e2] at g
    exact⟨a,aa v,rfl,.inl g,.inl ⟨v,rfl,d',e1,r,g⟩⟩
   .rw[e2] at g
    exact⟨a,aj,rfl,.inl g,.inr ⟨rfl,e1⟩⟩
  .cases e
 .split at e
  .rename_i ks hks;split at e
   .rename_i hs;cases e
    obtain⟨b,hb,rfl⟩:∃b,H b=aa (.tup (ks.map kV))/\y=.ref b:=by
     cases d<;>first|cases hks|skip
     obtain⟨b,ws,rfl,hb,r⟩:=hy.tup
     rw[xr hks r] at hb
     exact⟨b,hb,rfl⟩
    rcases dt with⟨js,h1,ha⟩|⟨js,⟨ne,h1⟩,ha⟩
    .obtain⟨js',h2⟩:=wG.mp hs
     have:=vA h1 h2;subst this;cases h1
     exact⟨a,aj,rfl,.inr ⟨ha,⟨b,ks,rfl,hb⟩,rfl⟩,.inr ⟨rfl,rfl⟩⟩
    .have g:=nP.t (k:=ks) ha hb;rcases Rz (k:=ks) h1 rd with⟨d',v,e1,e2,r⟩|⟨e1,e2⟩
     .rw[e2] at g
      exact⟨a,aa v,rfl,.inl g,.inl ⟨v,rfl,d',e1,r,g⟩⟩
     .rw[e2] at g
      exact⟨a,aj,rfl,.inl g,.inr ⟨rfl,e1⟩⟩
   .cases e
  .cases e
end
def inD(d:au)(ds:List au):Bool:=ds.any λe=>tV (toV e) (toV d)
def inB(d:au):au->Option Bool
 |.list ds=>if lC d&&ds.all lC then aa (inD d ds) else aj
 |.tuple ds=>if lC d&&ds.all lC then aa (inD d ds) else aj
 |.dict kvs=>(nG kvs d).map (·.isSome)
 |_=>aj
def jY(d e:au):Option Vl:=(inB d e).map λb=>.im (.bool b)
def uD(d e:au):Option Vl:=(inB d e).map λb=>.im (.bool (!b))
def ad7(K:aM):R2:=λx y H Q=>MF K aJ x y H Q\/∃a o,y=.ref a/\pY H a x o/\Q (.bl o.isSome) H
def abW(K:aM):R2:=λx y H Q=>MF K ao x y H Q\/∃a o,y=.ref a/\pY H a x o/\Q (.bl (!o.isSome)) H
theorem sO(hu:X.A.units+1<gj):dm X (fU .In) (ad7 X.K):=aiz.or (amV hu)
theorem JW(hu:X.A.units+1<gj):dm X (fU .NotIn) (abW X.K):=ag2.or (aiU hu)
theorem Q7(f:lC d=ao):qx (toV d)=ao:=by
 cases d<;>first|rfl|cases f
theorem ady:inV (toV d) (ds.map toV)=inD d ds:=by
 unfold inV inD;rw[ag9];rfl
theorem abX{ds:List au}(f:ds.all lC=ao):(ds.map toV).all qx=ao:=by
 rw[List.all_map,oG];intro d hd;exact Q7 (oG.mp f d hd)
theorem aaV{K:aM}{Z Θ:List aq}{env:En}{σ:St}{H:Hp}{x y:V}{dx dy:au}{b:Bool}(bx:gw Z Θ env σ H dx x)(fH:gw Z Θ env σ H dy y)(e:inB dx dy=aa b):
  (∃p xs,y=.ref p/\(bR K H p xs\/dj K H p xs)/\qx x=ao/\xs.all qx=ao/\inV x xs=b)\/∃a o,y=.ref a/\pY H a x o/\o.isSome=b:=by
 unfold inB at e;split at e
 .split at e
  .rename_i ds hf;rw[jK] at hf;cases e
   obtain⟨a,vs,rfl,ha,r⟩:=fH.lst
   rw[Rx hf.2 r] at ha;rw[bx.flat hf.1];exact .inl ⟨a,_,rfl,.inl (bR.of ha),Q7 hf.1,abX hf.2,ady⟩
  .cases e
 .split at e
  .rename_i ds hf;rw[jK] at hf;cases e
   obtain⟨a,vs,rfl,ha,r⟩:=fH.tup
   rw[Rx hf.2 r] at ha;rw[bx.flat hf.1];exact .inl ⟨a,_,rfl,.inr (dj.of ha),Q7 hf.1,abX hf.2,ady⟩
  .cases e
 .rename_i kvs;cases hl:nG kvs dx with
  |none=>rw[hl] at e;cases e
  |some o=>
   rw[hl] at e;cases e
   obtain⟨a,r,rfl,g,q⟩:=fH.get bx hl
   refine .inr ⟨a,r,rfl,g,?_⟩;rcases q with⟨v,rfl,d',rfl,_⟩|⟨rfl,rfl⟩<;>rfl
 .cases e
theorem sY{K:aM}:gU K (ad7 K) jY:=by
 intro Z Θ env C σ H x y dx dy res S bx fH e Q q;unfold jY at e;cases h:inB dx dy with
 |none=>rw[h] at e;cases e
 |some b=>
  rw[h] at e;cases e;have fin:=q (.bl b) H (aZ.refl _ _) (jE S rfl rfl);rcases aaV (K:=K) bx fH h with⟨p,xs,e1,e2,e3,e4,e5⟩|⟨a,o,e1,e2,e3⟩
  .rw[<-e5] at fin;exact .inl ⟨p,xs,e1,e2,e3,e4,fin⟩
  .rw[<-e3] at fin;exact .inr ⟨a,o,e1,e2,fin⟩
theorem J9{K:aM}:gU K (abW K) uD:=by
 intro Z Θ env C σ H x y dx dy res S bx fH e Q q;unfold uD at e;cases h:inB dx dy with
 |none=>rw[h] at e;cases e
 |some b=>
  rw[h] at e;cases e;have fin:=q (.bl (!b)) H (aZ.refl _ _) (jE S rfl rfl);rcases aaV (K:=K) bx fH h with⟨p,xs,e1,e2,e3,e4,e5⟩|⟨a,o,e1,e2,e3⟩
  .rw[<-e5] at fin;exact .inl ⟨p,xs,e1,e2,e3,e4,fin⟩
  .rw[<-e3] at fin;exact .inr ⟨a,o,e1,e2,fin⟩
def tZ:au->au->Option au
 |.list ds,.int i=>fY ds i
 |.tuple ds,.int i=>fY ds i
 |.str z,.int i=>if z.length<=f9 then(fY z.cps.toList i).map λc=>.str ⟨#[c]⟩ else aj
 |.dict kvs,d=>match nG kvs d with
  |some (some e)=>aa e
  |_=>aj
 |_,_=>aj
def bQ(d e:au):Option Vl:=(tZ d e).map .im
def ad8(K:aM):R2:=λx y H Q=>rIx K x y H Q\/∃a v,x=.ref a/\nP H a y (aa v)/\Q v H
theorem dD(hu:X.A.units+1<gj):rH X (ad8 X.K):=amC.or (ali hu)
theorem abY(r:cA E ds vs)(e:fY ds i=aa d):∃v,fY vs i=aa v/\RZ E d v:=by
 unfold fY at e⊢;rw[jo r];cases h:oE ds.length i with
 |none=>rw[h] at e;cases e
 |some j=>
  rw[h] at e;exact vG r e
theorem dG{K:aM}:gU K (ad8 K) bQ:=by
 intro Z Θ env C σ H x y dx dy res S bx fH e Q q;unfold bQ at e;cases h:tZ dx dy with
 |none=>rw[h] at e;cases e
 |some d=>
  rw[h] at e;cases e;unfold tZ at h;split at h
  .obtain⟨a,vs,rfl,ha,r⟩:=bx.lst
   cases fH.int
   obtain⟨v,e1,r1⟩:=abY r h
   exact .inl (.inl ⟨a,vs,_,v,rfl,rfl,bR.of ha,e1,q _ _ (aZ.refl _ _) ⟨S,r1⟩⟩)
  .obtain⟨a,vs,rfl,ha,r⟩:=bx.tup
   cases fH.int
   obtain⟨v,e1,r1⟩:=abY r h
   exact .inl (.inr (.inl ⟨a,vs,_,v,rfl,rfl,dj.of ha,e1,q _ _ (aZ.refl _ _) ⟨S,r1⟩⟩))
  .split at h
   .rename_i z i hz;cases bx.str;cases fH.int;cases hc:fY z.cps.toList i with
    |none=>rw[hc] at h;cases h
    |some c=>
     rw[hc] at h;cases h;exact .inl (.inr (.inr ⟨z,i,c,rfl,rfl,rZ hz,hc,q _ _ (aZ.refl _ _) (jE S rfl rfl)⟩))
   .cases h
  .split at h
   .rename_i kvs e' hl;cases h
    obtain⟨a,r,rfl,g,hq⟩:=bx.get fH hl
    rcases hq with⟨v,rfl,d',e1,r1,g1⟩|⟨_,e1⟩
    .cases e1;exact .inr ⟨a,v,rfl,g1,q _ _ (aZ.refl _ _) ⟨S,r1⟩⟩
    .cases e1
   .cases h
  .cases h
def Gz:au->Option Bool
 |.none=>aa aJ
 |.bool b=>aa b
 |.int i=>aa (i != 0)
 |.str x=>if x.length<=f9 then aa ((x.length:Int) != 0) else aj
 |.list ds=>aa (!ds.isEmpty)
 |.tuple ds=>aa (!ds.isEmpty)
 |.dict kvs=>if(cO cX kvs).isSome then aa (!kvs.isEmpty) else aj
def pW(f:FB):FT:=λenv C=>match f env C with
 |some (d,_,C')=>match Gz d with
  |some b=>aa (b,C')
  |none=>aj
 |none=>aj
def dI(f:FE):FT:=λenv C=>match f env C with
 |some (.im (.bool b),_,C')=>aa (b,C')
 |_=>aj
def xZ(f:FT):FT:=λenv C=>match f env C with
 |some (b,C')=>aa (!b,C')
 |none=>aj
def nH(f g:FT):FT:=λenv C=>match f env C with
 |some (true,C')=>g env C'
 |some (false,C')=>aa (aJ,C')
 |none=>aj
def tO(f g:FT):FT:=λenv C=>match f env C with
 |some (true,C')=>aa (ao,C')
 |some (false,C')=>g env C'
 |none=>aj
theorem amW{K:aM}{Z Θ:List aq}{env:En}{σ:St}{H:Hp}{x:V}{d:au}{b:Bool}(h:gw Z Θ env σ H d x)(e:Gz d=aa b):VH K x H b:=by
 cases d with
 |none=>cases e;cases(show x=_ from h);rfl
 |bool c=>cases e;cases(show x=_ from h);rfl
 |int i=>cases e;cases(show x=_ from h);rfl
 |str z=>
  simp only[Gz] at e;split at e
  .rename_i hz;cases e;cases(show x=_ from h);exact⟨rZ hz,rfl⟩
  .cases e
 |list ds=>
  cases e
  obtain⟨a,vs,rfl,ha,r⟩:=h.lst
  refine .inl ⟨vs,bR.of ha,?_⟩;have:=jo r;cases ds<;>cases vs<;>first|rfl|cases this
 |tuple ds=>
  cases e
  obtain⟨a,vs,rfl,ha,r⟩:=h.tup
  refine .inr (.inl ⟨vs,dj.of ha,?_⟩);have:=jo r;cases ds<;>cases vs<;>first|rfl|cases this
 |dict kvs=>
  simp only[Gz] at e;split at e
  .rename_i hs;cases e
   obtain⟨a,vs,rfl,da,r⟩:=h.dct
   rcases da with⟨ks,h1,ha⟩|⟨ks,⟨ne,h2⟩,ha⟩
   .refine .inr (.inr ⟨_,ha,?_⟩);have l1:=uz h1;have l2:=zy r;cases kvs<;>cases ks<;>cases vs<;>first|rfl|cases l1|cases l2
   .obtain⟨ks',h1⟩:=wG.mp hs
    exact absurd (vA h1 h2) ne
  .cases e
section
variable{X:Cx}{a b:Expr}{pos:Pos}
theorem sU(h:PE X a (eZ X.K f))(he:∀whole,isTrue a X.env whole=(do let v <-whole;uC a.pos;qX [v] (truthy v)):=by intro _;rfl):PT X a (gm X.K (pW f)):=
 (aju h he).weak λσ H Q aP=>by
  obtain⟨Z,Θ,env,C,b,C',S,hf,q⟩:=aP
  unfold pW at hf;split at hf
  .rename_i d e1 C1 h1;split at hf
   .rename_i b' hb;cases hf
    exact⟨Z,Θ,env,C,d,e1,C',S,h1,λv H' k f S' bo=>⟨b,amW bo hb,q H' k (S.go k S'.cell)⟩⟩
   .cases hf
  .cases hf
theorem aaW{K:aM}{t:TE}{f:FE}(w:∀σ H Q,tE K f σ H Q->t σ H Q):∀σ H Q,gm K (dI f) σ H Q->Ve t σ H Q:=by
 rintro σ H Q ⟨Z,Θ,env,C,b,C',S,hf,q⟩;unfold dI at hf;split at hf
 .rename_i b' e1 C1 h1;cases hf;refine w _ _ _ ⟨Z,Θ,env,C,.im (.bool b),e1,C',S,h1,λv H' k f R=>?_⟩
  obtain⟨S',r⟩:=R
  exact⟨b,r,q H' k (S.go k S'.cell)⟩
 .cases hf
theorem gq(ho:dm X (fU o) r)(L:gU X.K r op)(ha:PE X a (eZ X.K fa))(hb:PE X b (eZ X.K fb))(hm:DX o b=aJ):
  PT X (.Compare a [o] [b] pos) (gm X.K (dI (aO op fa fb))):=(akM ho ha hb hm).weak (aaW (J8 L))
theorem Uv(h:PT X a (gm X.K f)):PT X (.UnaryOp .Not a pos) (gm X.K (xZ f)):=(ami h).weak λσ H Q aP=>by
 obtain⟨Z,Θ,env,C,b,C',S,hf,q⟩:=aP
 unfold xZ at hf;split at hf
 .rename_i b' C1 h1;cases hf
  exact⟨Z,Θ,env,C,b',C',S,h1,q⟩
 .cases hf
theorem ajT{K:aM}{f g:FT}:∀σ H Q,gm K (nH f g) σ H Q->adM (gm K f) (gm K g) σ H Q:=by
 rintro σ H Q ⟨Z,Θ,env,C,b,C',S,hf,q⟩;unfold nH at hf;split at hf
 .rename_i C1 h1
  exact⟨Z,Θ,env,C,ao,C1,S,h1,λH1 k1 S1=>yo ⟨Z,Θ,env,C1,b,C',S1,hf,λH2 k2 S2=>q H2 (k1.trans k2) S2⟩⟩
 .rename_i C1 h1;cases hf
  exact⟨Z,Θ,env,C,aJ,C',S,h1,λH1 k1 S1=>ym (q H1 k1 S1)⟩
 .cases hf
theorem alj{K:aM}{f g:FT}:∀σ H Q,gm K (tO f g) σ H Q->tOr (gm K f) (gm K g) σ H Q:=by
 rintro σ H Q ⟨Z,Θ,env,C,b,C',S,hf,q⟩;unfold tO at hf;split at hf
 .rename_i C1 h1;cases hf
  exact⟨Z,Θ,env,C,ao,C',S,h1,λH1 k1 S1=>yo (q H1 k1 S1)⟩
 .rename_i C1 h1
  exact⟨Z,Θ,env,C,aJ,C1,S,h1,λH1 k1 S1=>ym ⟨Z,Θ,env,C1,b,C',S1,hf,λH2 k2 S2=>q H2 (k1.trans k2) S2⟩⟩
 .cases hf
variable{rest:List Expr}
theorem BR(h:PT X a (gm X.K f)):PW X (.BoolOp .And [a] pos) (gm X.K f):=pw_and1 h
theorem FZ(h:PT X a (gm X.K f)):PW X (.BoolOp .Or [a] pos) (gm X.K f):=pw_or1 h
theorem uJ(h:PT X a (gm X.K f))(hb:PW X (.BoolOp .And (b::rest) pos) (gm X.K g)):PW X (.BoolOp .And (a::b::rest) pos) (gm X.K (nH f g)):=(pw_and h hb).weak ajT
theorem CN(h:PT X a (gm X.K f))(hb:PW X (.BoolOp .Or (b::rest) pos) (gm X.K g)):PW X (.BoolOp .Or (a::b::rest) pos) (gm X.K (tO f g)):=(pw_or h hb).weak alj
end
def yt(op op':au->au->Option Vl)(fa fb fc:FB):FE:=λenv C=>match fa env C with
 |some (x,e1,C1)=>match fb e1 C1 with
  |some (y,e2,C2)=>match op x y with
   |some (.im (.bool true))=>match fc e2 C2 with
    |some (z,e3,C3)=>match op' y z with
     |some (.im (.bool b))=>aa (.im (.bool b),env,C3)
     |_=>aj
    |none=>aj
   |some (.im (.bool false))=>aa (.im (.bool aJ),env,C2)
   |_=>aj
  |none=>aj
 |none=>aj
theorem aaX{K:aM}{r r':R2}{op op':au->au->Option Vl}(L:gU K r op)(L':gU K r' op'){fa fb fc:FB}:∀σ H Q,tE K (yt op op' fa fb fc) σ H Q->Ul r r' (eZ K fa) (eZ K fb) (eZ K fc) σ H Q:=by
 rintro σ H Q ⟨Z,Θ,env,C,res,env',C',S,hf,q⟩;unfold yt at hf;split at hf
 .rename_i x e1 C1 h1;split at hf
  .rename_i y e2 C2 h2
   refine⟨Z,Θ,env,C,x,e1,C1,S,h1,λv H1 k1 f1 S1 b1=>⟨Z,Θ,e1,C1,y,e2,C2,S1,h2,λu H2 k2 f2 S2 b2=>?_⟩⟩
   split at hf
   .rename_i h3;split at hf
    .rename_i z e3 C3 h4;split at hf
     .rename_i b h5;cases hf;refine L Z Θ e2 C2 σ H2 v u x y _ S2 (b1.go S1 k2 f2) b2 h3 _ λw H3 k3 R=>⟨ao,R.2,yo ⟨Z,Θ,e2,C2,z,e3,C',R.1,h4,λw2 H4 k4 f4 S4 b4=>?_⟩⟩
      refine L' Z Θ e3 C' σ H4 u w2 y z _ S4 ((b2.go S2 k3 (Fz.refl _)).go R.1 k4 f4) b4 h5 Q λw3 H5 k5 R5=>?_
      have k:=(((k1.trans k2).trans k3).trans k4).trans k5;exact q w3 H5 k (Fz.refl _) ⟨S.go k R5.1.cell,R5.2⟩
     .cases hf
    .cases hf
   .rename_i h3;cases hf;refine L Z Θ e2 C' σ H2 v u x y _ S2 (b1.go S1 k2 f2) b2 h3 _ λw H3 k3 R=>⟨aJ,R.2,ym ?_⟩
    have k:=(k1.trans k2).trans k3;exact q _ H3 k (Fz.refl _) ⟨S.go k R.1.cell,rfl⟩
   .cases hf
  .cases hf
 .cases hf
section
variable{X:Cx}{a b c:Expr}{pos:Pos}{r r':R2}{o o':CmpOp}{op op':au->au->Option Vl}{fa fb fc:FB}
theorem amX(ho:dm X (fU o) r)(L:gU X.K r op)(ho':dm X (fU o') r')(L':gU X.K r' op')(ha:PE X a (eZ X.K fa))(hb:PE X b (eZ X.K fb))(hc:PE X c (eZ X.K fc))
  (hm:QT [o,o'] [b,c]=aJ:=by with_unfolding_all rfl):PE X (.Compare a [o,o'] [b,c] pos) (tE X.K (yt op op' fa fb fc)):=(ajs ho ho' ha hb hc hm).weak (aaX L L')
theorem amY(ho:dm X (fU o) r)(L:gU X.K r op)(ho':dm X (fU o') r')(L':gU X.K r' op')(ha:PE X a (eZ X.K fa))(hb:PE X b (eZ X.K fb))(hc:PE X c (eZ X.K fc))
  (hm:QT [o,o'] [b,c]=aJ:=by with_unfolding_all rfl):PT X (.Compare a [o,o'] [b,c] pos) (gm X.K (dI (yt op op' fa fb fc))):=(ajt ho ho' ha hb hc hm).weak (aaW (aaX L L'))
end
def sZ(f g:FE):FE:=λenv C=>match f env C with
 |some (.im (.bool true),_,C')=>g env C'
 |some (.im (.bool false),_,C')=>aa (.im (.bool aJ),env,C')
 |_=>aj
def Lr(f:FE):FE:=λenv C=>match f env C with
 |some (.im (.bool b),_,C')=>aa (.im (.bool (!b)),env,C')
 |_=>aj
def zY(c:FT)(f g:FE):FE:=λenv C=>match c env C with
 |some (true,C')=>f env C'
 |some (false,C')=>g env C'
 |none=>aj
def Mi(f:FB):FE:=λenv C=>match f env C with
 |some (.int i,_,C')=>aa (.im (.int (-i)),env,C')
 |_=>aj
section
variable{X:Cx}{a b c:Expr}{pos:Pos}{rest:List Expr}
theorem Ga{o}(h:PE X a (tE X.K f)):PE X (.BoolOp o [a] pos) (tE X.K f):=amj h
theorem Cm(ha:PE X a (tE X.K f))(hb:PE X (.BoolOp .And (b::rest) pos) (tE X.K g)):PE X (.BoolOp .And (a::b::rest) pos) (tE X.K (sZ f g)):=(amk ha hb).weak λσ H Q aP=>by
 obtain⟨Z,Θ,env,C,r,env',C',S,hf,q⟩:=aP
 unfold sZ at hf;split at hf
 .rename_i e1 C1 h1
  refine⟨Z,Θ,env,C,_,e1,C1,S,h1,λv H1 k1 f1 R1=>⟨ao,R1.2,yo ⟨Z,Θ,env,C1,r,env',C',S.go k1 R1.1.cell,hf,λw H2 k2 f2 R2=>q w H2 (k1.trans k2) f2 (R2.from k1)⟩⟩⟩
 .rename_i e1 C1 h1;cases hf
  exact⟨Z,Θ,env,C,_,e1,C',S,h1,λv H1 k1 f1 R1=>⟨aJ,R1.2,ym (q _ H1 k1 (Fz.refl _) ⟨S.go k1 R1.1.cell,rfl⟩)⟩⟩
 .cases hf
theorem amZ(ha:PE X a (tE X.K f)):PE X (.UnaryOp .Not a pos) (tE X.K (Lr f)):=(aml ha).weak λσ H Q aP=>by
 obtain⟨Z,Θ,env,C,r,env',C',S,hf,q⟩:=aP
 unfold Lr at hf;split at hf
 .rename_i b e1 C1 h1;cases hf
  exact⟨Z,Θ,env,C,_,e1,C',S,h1,λv H1 k1 f1 R1=>⟨b,R1.2,q _ H1 k1 (Fz.refl _) ⟨S.go k1 R1.1.cell,rfl⟩⟩⟩
 .cases hf
theorem adz(hc:PT X c (gm X.K t))(ha:PE X a (tE X.K f))(hb:PE X b (tE X.K g)):PE X (.IfExp c a b pos) (tE X.K (zY t f g)):=(ajp hc ha hb).weak λσ H Q aP=>by
 obtain⟨Z,Θ,env,C,r,env',C',S,hf,q⟩:=aP
 unfold zY at hf;split at hf
 .rename_i C1 h1
  exact⟨Z,Θ,env,C,ao,C1,S,h1,λH1 k1 S1=>yo ⟨Z,Θ,env,C1,r,env',C',S1,hf,λw H2 k2 f2 R2=>q w H2 (k1.trans k2) f2 (R2.from k1)⟩⟩
 .rename_i C1 h1
  exact⟨Z,Θ,env,C,aJ,C1,S,h1,λH1 k1 S1=>ym ⟨Z,Θ,env,C1,r,env',C',S1,hf,λw H2 k2 f2 R2=>q w H2 (k1.trans k2) f2 (R2.from k1)⟩⟩
 .cases hf
theorem am0(ha:PE X a (eZ X.K f)):PE X (.UnaryOp .USub a pos) (tE X.K (Mi f)):=(anU amt ha).weak λσ H Q aP=>by
 obtain⟨Z,Θ,env,C,r,env',C',S,hf,q⟩:=aP
 unfold Mi at hf;split at hf
 .rename_i i e1 C1 h1;cases hf
  exact⟨Z,Θ,env,C,_,e1,C',S,h1,λv H1 k1 f1 S1 b1=>⟨i,b1,q _ H1 k1 (Fz.refl _) ⟨S.go k1 S1.cell,rfl⟩⟩⟩
 .cases hf
end
def vJ(K:aM)(E:Hp)(Θ:List aq):Vl->V->Prop
 |.im d,v=>RZ E d v
 |.ow _,_=>False
 |.ce n,v=>∃a,v=.ref a/\Θ[n]?=aa a
 |.sc ns,v=>∃a,v=.ref a/\bR K E a (ns.map V.int)
 |.tp _ _ _,_=>False
inductive q9(K:aM)(E:Hp)(Θ:List aq):List Vl->List V->Prop
 |nil:q9 K E Θ [] []
 |cons {x:Vl} {v:V} {xs:List Vl} {vs:List V}:vJ K E Θ x v->q9 K E Θ xs vs->q9 K E Θ (x::xs) (v::vs)
theorem vJ.same{K:aM}{E E':Hp}{Θ:List aq}(s:bN E E'){x:Vl}{v:V}(h:vJ K E Θ x v):vJ K E' Θ x v:=by
 cases x with
 |im d=>exact RZ.same s h
 |ow d=>exact h
 |ce n=>exact h
 |sc ns=>obtain⟨a,e,q⟩:=h;exact⟨a,e,s.seq q⟩
 |tp=>exact h
theorem q9.same{K:aM}{E E':Hp}{Θ:List aq}(s:bN E E'){xs:List Vl}{vs:List V}(h:q9 K E Θ xs vs):q9 K E' Θ xs vs:=by
 induction h with
 |nil=>exact .nil
 |cons a _ ih=>exact .cons (a.same s) ih
inductive wu(K:aM)(f:FA)(σ:St)(H:Hp)(Q:List V->Hp->Prop):Prop
 |mk (Z Θ:List aq) (env:En) (C:Ce) (xs:List Vl) (env':En) (C':Ce) (S:Sm K Z Θ env C σ H) (hf:f env C=aa (xs,env',C')) (q:∀vs H',aZ Θ H H'->Fz env env'->Sm K Z Θ env' C' σ H'->q9 K (er (bf Z Θ env' σ) H') Θ xs vs->Q vs H'):wu K f σ H Q
def aY:FA:=λenv C=>aa ([],env,C)
def aH(f:FE)(g:FA):FA:=λenv C=>match f env C with
 |some (r,e1,C1)=>match g e1 C1 with
  |some (xs,e2,C2)=>aa (still r::xs,e2,C2)
  |none=>aj
 |none=>aj
def fQ:yJ:=λenv C=>aa ([],env,C)
def dJ(f:FB)(g:yJ):yJ:=λenv C=>match f env C with
 |some (d,e1,C1)=>match g e1 C1 with
  |some (ds,e2,C2)=>aa (d::ds,e2,C2)
  |none=>aj
 |none=>aj
theorem Res.arg{K:aM}{Z Θ:List aq}{env:En}{C:Ce}{σ:St}{H H':Hp}{r:Vl}{v:V}(h:Res K Z Θ env C σ H H' r v):Sm K Z Θ env C σ H'/\vJ K (er (bf Z Θ env σ) H') Θ (L2.still r) v:=by
 have g:=h.still;cases r with
 |im d=>exact g
 |ow d=>exact g
 |ce n=>exact g
 |sc ns=>exact g
 |tp=>exact h.elim
theorem zX.same(s:bN E E')(t:bN T T')(h:zX E T ds vs):zX E' T' ds vs:=by
 induction h with
 |nil=>exact .nil
 |cons a _ ih=>exact .cons (a.same s t) ih
section
variable{X:Cx}{e:Expr}{es:List Expr}{pos:Pos}
theorem bG:PA X [] (wu X.K aY):=qu.weak λσ H Q aP=>by
 obtain⟨Z,Θ,env,C,xs,env',C',S,hf,q⟩:=aP
 cases hf;exact q [] H (aZ.refl _ _) (Fz.refl _) S .nil
theorem aL{f:FE}{g:FA}(h:PE X e (tE X.K f))(hr:PA X es (wu X.K g))(hs:bJ (e::es) X.env=(aJ,eval e X.env)::bJ es X.env:=by rfl):PA X (e::es) (wu X.K (aH f g)):=(n6 h hr hs).weak λσ H Q aP=>by
 obtain⟨Z,Θ,env,C,xs,env',C',S,hf,q⟩:=aP
 unfold aH at hf;split at hf
 .rename_i r e1 C1 h1;split at hf
  .rename_i ys e2 C2 h2;cases hf
   refine⟨Z,Θ,env,C,r,e1,C1,S,h1,λv H1 k1 f1 R1=>?_⟩
   obtain⟨S1,a1⟩:=R1.arg
   exact⟨Z,Θ,e1,C1,ys,env',C',S1,h2,λvs H2 k2 f2 S2 a2=>q _ H2 (k1.trans k2) (f1.trans f2) S2 (.cons (a1.same (Vj S1 k2 f2)) a2)⟩
  .cases hf
 .cases hf
theorem gn:PA X [] (wj X.K fQ):=qu.weak λσ H Q aP=>by
 obtain⟨Z,Θ,env,C,xs,env',C',S,hf,q⟩:=aP
 cases hf;exact q [] H (aZ.refl _ _) (Fz.refl _) S .nil
theorem eX(h:PE X e (eZ X.K f))(hr:PA X es (wj X.K g))(hs:bJ (e::es) X.env=(aJ,eval e X.env)::bJ es X.env:=by rfl):PA X (e::es) (wj X.K (dJ f g)):=(n6 h hr hs).weak λσ H Q aP=>by
 obtain⟨Z,Θ,env,C,xs,env',C',S,hf,q⟩:=aP
 unfold dJ at hf;split at hf
 .rename_i d e1 C1 h1;split at hf
  .rename_i ys e2 C2 h2;cases hf
   exact⟨Z,Θ,env,C,d,e1,C1,S,h1,λv H1 k1 f1 S1 b1=>⟨Z,Θ,e1,C1,ys,env',C',S1,h2,λvs H2 k2 f2 S2 b2=>q _ H2 (k1.trans k2) (f1.trans f2) S2 (.cons (b1.go S1 k2 f2) b2)⟩⟩
  .cases hf
 .cases hf
end
def vK:List Vl->Option (List au)
 |[]=>aa []
 |.im d::r=>match vK r with
  |some ds=>aa (d::ds)
  |none=>aj
 |_=>aj
theorem RB{K:aM}{E:Hp}{Θ:List aq}:∀{xs:List Vl}{ds:List au}{vs:List V},vK xs=aa ds->q9 K E Θ xs vs->cA E ds vs
 |[],ds,vs,h,a=>by cases h;cases a;rfl
 |.im d::r,ds,vs,h,a=>by
  unfold vK at h;split at h
  .rename_i t ht;cases h;cases a with
   |cons a1 a2=>exact⟨_,_,rfl,a1,RB ht a2⟩
  .cases h
 |.ow _::r,ds,vs,h,a=>by cases h
 |.ce _::r,ds,vs,h,a=>by cases h
 |.sc _::r,ds,vs,h,a=>by cases h
 |.tp _ _ _::r,ds,vs,h,a=>by cases h
def jh(g:FA):FE:=λenv C=>match g env C with
 |some (xs,e',C')=>match vK xs with
  |some ds=>if ds.length<=f9 then aa (.ow (.list ds),e',C') else aj
  |none=>aj
 |none=>aj
def mK(g:FA):FE:=λenv C=>match g env C with
 |some (xs,e',C')=>match vK xs with
  |some ds=>if ds.length<=f9 then aa (.im (.tuple ds),e',C') else aj
  |none=>aj
 |none=>aj
section
variable{X:Cx}{e:Expr}{es:List Expr}{pos:Pos}
theorem j8{g:FA}(h:PA X es (wu X.K g)):PE X (.List es pos) (tE X.K (jh g)):=(amv h).weak λσ H Q aP=>by
 obtain⟨Z,Θ,env,C,r,env',C',S,hf,q⟩:=aP
 unfold jh at hf;split at hf
 .rename_i xs e1 C1 h1;split at hf
  .rename_i ds hd;split at hf
   .rename_i hl;cases hf
    refine⟨Z,Θ,env,C,xs,env',C',S,h1,λvs H1 k1 f1 S1 a1=>?_⟩
    have r:=RB hd a1
    exact⟨by rw[jo r];exact rZ hl,λp hp=>q _ _ (k1.trans (aZ.upd hp)) f1 ((oO S1 r hp).from k1)⟩
   .cases hf
  .cases hf
 .cases hf
theorem oU{x1}{g:FA}(h:PA X es (wu X.K g)):PE X (.Tuple es x1 pos) (tE X.K (mK g)):=(K7 h).weak λσ H Q aP=>by
 obtain⟨Z,Θ,env,C,r,env',C',S,hf,q⟩:=aP
 unfold mK at hf;split at hf
 .rename_i xs e1 C1 h1;split at hf
  .rename_i ds hd;split at hf
   .rename_i hl;cases hf
    refine⟨Z,Θ,env,C,xs,env',C',S,h1,λvs H1 k1 f1 S1 a1=>?_⟩
    have r:=RB hd a1
    exact⟨by rw[jo r];exact rZ hl,λp hp=>q _ _ (k1.trans (aZ.upd hp)) f1 ((Kv S1 r hp).from k1)⟩
   .cases hf
  .cases hf
 .cases hf
def xP:FE:=λenv C=>aa (.ow (.dict []),env,C)
theorem RC:PE X (.Dict [] [] pos) (tE X.K xP):=ajz.weak λσ H Q aP=>by
 obtain⟨Z,Θ,env,C,r,env',C',S,hf,q⟩:=aP
 cases hf;exact λp hp=>q _ _ (aZ.upd hp) (Fz.refl _) (alf (vs:=[]) S (λ_ z=>nomatch z) (.inl ⟨[],rfl,dO⟩) rfl hp)
end
def lK(K:aM)(r:List V->Hp->VK->Prop)(op:List au->Option Vl):Prop:=
 ∀(Z Θ:List aq)(env:En)(C:Ce)(σ:St)(H:Hp)(xs:List V)(ds:List au)(res:Vl),Sm K Z Θ env C σ H->Lq Z Θ env σ H ds xs->op ds=aa res->
  ∀Q:VK,(∀v H',aZ Θ H H'->Res K Z Θ env C σ H H' res v->Q v H')->r xs H Q
def fX(op:List au->Option Vl)(g:yJ):FE:=λenv C=>match g env C with
 |some (ds,e',C')=>match op ds with
  |some r=>aa (r,rst r env e',C')
  |none=>aj
 |none=>aj
theorem aaY{K:aM}{r:List V->Hp->VK->Prop}{op:List au->Option Vl}(L:lK K r op){g:yJ}:∀σ H Q,tE K (fX op g) σ H Q->Wd r (wj K g) σ H Q:=by
 rintro σ H Q ⟨Z,Θ,env,C,res,env',C',S,hf,q⟩;unfold fX at hf;split at hf
 .rename_i ds e1 C1 h1;split at hf
  .rename_i r0 h2;cases hf
   refine⟨Z,Θ,env,C,ds,e1,C',S,h1,λvs H1 k1 f1 S1 b1=>L Z Θ e1 C' σ H1 vs ds res S1 b1 h2 Q λz H2 k2 R=>?_⟩
   exact q z H2 (k1.trans k2) (f1.rst res) ((R.from k1).rst S (k1.trans k2))
  .cases hf
 .cases hf
section
variable{X:Cx}{x:Str}{p pos:Pos}{e:Expr}{es:List Expr}{g:yJ}{id T:String}{r:List V->Hp->VK->Prop}{op:List au->Option Vl}
theorem jb(hc:ie X (.builtin id) r)(L:lK X.K r op)(hg:Gl X x)(hm:X.mg x=aj)(hv:uv x=aa (.builtin id))(ha:PA X (e::es) (wj X.K g))(hn:x≠"__name__":=by decide)(hdb:(x==("__debug__":Str))=aJ:=by decide)
  (he:bJ (e::es) X.env=(aJ,eval e X.env)::bJ es X.env:=by rfl)(hpl:(gH pos (bJ es X.env)).any (·.1)=aJ:=by rfl):PE X (.Call (.Name x p) (e::es) [] pos) (tE X.K (fX op g)):=(J2 hc hg hm hv ha hn hdb he hpl).weak (aaY L)
theorem Bw(hc:ie X (.type T) r)(L:lK X.K r op)(hg:Gl X x)(hm:X.mg x=aj)(hv:uv x=aa (.type T))(ha:PA X (e::es) (wj X.K g))(hn:x≠"__name__":=by decide)(hdb:(x==("__debug__":Str))=aJ:=by decide)
  (he:bJ (e::es) X.env=(aJ,eval e X.env)::bJ es X.env:=by rfl)(hpl:(gH pos (bJ es X.env)).any (·.1)=aJ:=by rfl):PE X (.Call (.Name x p) (e::es) [] pos) (tE X.K (fX op g)):=(aiy hc hg hm hv ha hn hdb he hpl).weak (aaY L)
end
abbrev FN:=List Vl->Ce->Option (Vl×Ce)
def Di:Vl->Bool
 |.tp _ _ _=>ao
 |_=>aJ
def Mj(K:aM)(Z Θ:List aq)(C:Ce)(H H':Hp):Vl->V->Prop
 |.tp p d q,v=>∃t a vs us,v=.ref t/\H' t=aa (.tup (vs++.ref a::us))/\H a=aj/\Sm K (a::Z) Θ [] C [] H'/\jQ (er (bf (a::Z) Θ [] []) H') H' a d/\cA (er (bf (a::Z) Θ [] []) H') p vs/\cA (er (bf (a::Z) Θ [] []) H') q us
 |r,v=>Res K Z Θ [] C [] H H' r v
theorem Mj.res{K:aM}{Z Θ:List aq}{C:Ce}{H H':Hp}{r:Vl}{v:V}(n:Di r=aJ)(h:Mj K Z Θ C H H' r v):Res K Z Θ [] C [] H H' r v:=by
 cases r<;>first|exact h|cases n
def spT(K:aM)(f:FN):Sp:=λvs H Q _=>∃Z Θ C xs r C',Sm K Z Θ [] C [] H/\q9 K (er (bf Z Θ [] []) H) Θ xs vs/\f xs C=aa (r,C')/\
 ∀v H',aZ Θ H H'->Mj K Z Θ C' H H' r v->Q v H'
def bM(f:FN)(g:FA):FE:=λenv C=>match g env C with
 |some (xs,e',C1)=>match f xs C1 with
  |some (r,C2)=>if Di r then aj else aa (r,rst r env e',C2)
  |none=>aj
 |none=>aj
theorem qw(h:∀a,a∈P↔a∈P'):er P H=er P' H:=by
 funext b;unfold er;by_cases hb:b∈P
 .rw[bz hb,bz ((h b).mp hb)]
 .rw[bH hb,bH (λz=>hb ((h b).mpr z))]
theorem Fd(a:aq):a∈bf (Z++bU env σ) Θ [] []↔a∈bf Z Θ env σ:=by
 simp only[bf,bU,dB,lO];constructor
 .rintro((h|h)|h)
  .exact .inl h
  .exact .inr (.inr h)
  .exact .inr (.inl h)
 .rintro(h|h|h)
  .exact .inl (.inl h)
  .exact .inr h
  .exact .inl (.inr h)
section
variable{K:aM}{Z Θ:List aq}{env:En}{C C':Ce}{σ:St}{H H':Hp}{a:aq}
theorem Sm.yc(S:Sm K Z Θ env C σ H)(ha:H a=aj)(k:aZ Θ H H')(h':NT (H' a))(c:pP Θ C' H'):Sm K (a::Z) Θ env C' σ H':=by
 have sm:bN (er (bf Z Θ env σ) H) (er (bf (a::Z) Θ env σ) H'):=lR k S.qN λb m=>by
  rcases cB.mp m with rfl|m
  .exact .inr ha
  .exact .inl m
 refine⟨S.len,jD.mpr ⟨λm=>S.zW a m ha,S.nd⟩,λb m=>?_,λi x e=>?_,c⟩
 .rcases cB.mp m with rfl|m
  .exact h'
  .obtain⟨u,e,n⟩:=S.dom b m
   exact⟨u,k.keep _ _ e λz=>by
    have h:=S.nd;rw[kY] at h;exact h.2.2 b m b (iW _ z) rfl,n⟩
 .obtain⟨v,e1,r⟩:=S.slot i x e
  refine⟨v,e1,r.same sm λd b ex ev o' ho=>k.keep _ _ ho ?_⟩
  subst ex ev
  exact(S.oR (nu.mpr ⟨i,d,e,e1⟩)).2
theorem Sm.bare(S:Sm K Z Θ env C σ H):Sm K (Z++bU env σ) Θ [] C [] H:=by
 refine⟨rfl,?_,λb m=>?_,λi x e=>by simp at e,S.cell⟩
 .have h:=S.nd
  show((Z++bU env σ)++(Θ++[])).Nodup
  rw[lO,mR];have p:(Z++(Θ++bU env σ)).Perm (Z++(bU env σ++Θ)):=afw Z List.perm_append_comm;exact p.nodup h
 .rcases dB.mp m with m|m
  .exact S.dom b m
  .exact S.MP b (fK _ (fK _ m))
theorem Res.back(S:Sm K Z Θ env C σ H)(k:aZ Θ H H')(h:Res K (Z++bU env σ) Θ [] C' [] H H' r v):Res K Z Θ env C' σ H H' r v:=by
 have e1:er (bf (Z++bU env σ) Θ [] []) H'=er (bf Z Θ env σ) H':=qw Fd;cases r with
 |im d=>
  obtain⟨S',r⟩:=h
  rw[e1] at r
  exact⟨S.go k S'.cell,r⟩
 |ow d=>
  obtain⟨a,rfl,hn,S',r⟩:=h
  have e2:er (bf (a::(Z++bU env σ)) Θ [] []) H'=er (bf (a::Z) Θ env σ) H':=qw λb=>by
   show b∈a::bf (Z++bU env σ) Θ [] []↔b∈a::bf Z Θ env σ;rw[cB,cB,Fd]
  rw[e2] at r
  exact⟨a,rfl,hn,S.yc hn k (S'.dom a dN) S'.cell,r⟩
 |ce n=>exact⟨S.go k h.1.cell,h.2⟩
 |sc ns=>
  obtain⟨S',a,rfl,q⟩:=h
  rw[e1] at q
  exact⟨S.go k S'.cell,a,rfl,q⟩
 |tp=>exact h
end
section
variable{X:Cx}{x:Str}{k:Nat}{ps:List Str}{p pos:Pos}{e:Expr}{es:List Expr}{f:FN}{g:FA}
theorem ajU{K:aM}:∀σ H Q,tE K (bM f g) σ H Q->Vf (spT K f) [] E0 (wu K g) σ H Q:=by
 rintro σ H Q ⟨Z,Θ,env,C,res,env',C',S,hf,q⟩;unfold bM at hf;split at hf
 .rename_i xs e1 C1 h1;split at hf
  .rename_i r C2 h2;split at hf
   .cases hf
   rename_i nt;cases hf
   refine⟨Z,Θ,env,C,xs,e1,C1,S,h1,λvs H1 k1 f1 S1 a1=>?_⟩
   show spT K f (vs++[]) H1 Q E0;rw[lO];have e2:er (bf (Z++bU e1 σ) Θ [] []) H1=er (bf Z Θ e1 σ) H1:=qw Fd;rw[<-e2] at a1
   exact⟨Z++bU e1 σ,Θ,C1,xs,res,C',S1.bare,a1,h2,λv H2 k2 R=>q v H2 (k1.trans k2) (f1.rst res) (((Res.back S1 k2 (R.res (Bool.eq_false_iff.mpr nt))).from k1).rst S (k1.trans k2))⟩
  .cases hf
 .cases hf
theorem bZ(F:dR X.prog X.w X.K X.mg X.base x k ps (spT X.K f))(hr:jg k X.A)(hg:Gl X x)(ha:PA X (e::es) (wu X.K g))(hdb:(x==("__debug__":Str))=aJ:=by decide)
  (he:bJ (e::es) X.env=(aJ,eval e X.env)::bJ es X.env:=by rfl)(hpl:(gH pos (bJ es X.env)).any (·.1)=aJ:=by rfl):PE X (.Call (.Name x p) (e::es) [] pos) (tE X.K (bM f g)):=(adq F hr hg ha hdb he hpl).weak ajU
end
theorem Q8:∀{env:En}{σ:St},(∀(i j:Nat)(d e:au)(a:aq),env[i]?=aa (aa (Vl.ow d))->σ[i]?=aa (aa (V.ref a))->env[j]?=aa (aa (Vl.ow e))->σ[j]?=aa (aa (V.ref a))->i=j)->(bU env σ).Nodup
 |[],σ,_=>by cases σ<;>exact nZ
 |_::_,[],_=>nZ
 |x::en,v::s,h=>by
  rw[bU,kY]
  refine⟨?_,Q8 λi j d e a h1 h2 h3 h4=>?_,λa ha b hb e=>?_⟩
  .unfold own1;split
   .exact jD.mpr ⟨by simp,nZ⟩
   .exact nZ
  .have:=h (i+1) (j+1) d e a (by simpa using h1) (by simpa using h2) (by simpa using h3) (by simpa using h4);lia
  .subst e;unfold own1 at ha;split at ha
   .rw[iY] at ha;subst ha
    obtain⟨j,d,h1,h2⟩:=nu.mp hb
    have:=h 0 (j+1) _ d a rfl rfl (by simpa using h1) (by simpa using h2);lia
   .simp at ha
theorem get_set{α:Type}{l:List α}{i j:Nat}{x y:α}(h:(l.set i x)[j]?=aa y):(j=i/\y=x/\i<l.length)\/(j≠i/\l[j]?=aa y):=by
 by_cases e:i=j
 .subst e;rw[DG,bz rfl] at h;split at h
  .rename_i hl;cases h;exact .inl ⟨rfl,rfl,hl⟩
  .cases h
 .rw[wH e] at h;exact .inr ⟨λz=>e z.symm,h⟩
theorem abZ{α:Type}{l:List α}{i:Nat}{x:α}(h:i<l.length):(l.set i x)[i]?=aa x:=by
 rw[DG,bz rfl,bz h]
theorem xM{env:En}{σ:St}{i:Nat}{x:Vl}{v:V}{a:aq}(h:a∈bU (env.set i (aa x)) (σ.set i (aa v))):a∈bU env σ\/(∃d,x=.ow d)/\v=.ref a:=by
 obtain⟨j,d,h1,h2⟩:=nu.mp h
 rcases get_set h1 with⟨rfl,e,_⟩|⟨n,h1⟩
 .rcases get_set h2 with⟨_,e2,_⟩|⟨n,_⟩
  .cases e;cases e2;exact .inr ⟨⟨d,rfl⟩,rfl⟩
  .exact absurd rfl n
 .rcases get_set h2 with⟨e,_,_⟩|⟨_,h2⟩
  .exact absurd e n
  .exact .inl (nu.mpr ⟨j,d,h1,h2⟩)
section
variable{K:aM}{Z Θ:List aq}{env:En}{C:Ce}{σ:St}{H:Hp}{a:aq}{i:Nat}{v:V}
theorem Sm.dY(S:Sm K Z Θ env C σ H):Z.Nodup/\Θ.Nodup/\(bU env σ).Nodup/\(∀b∈Z,b∉Θ):=by
 have h:=S.nd;rw[kY,kY] at h
 obtain⟨h1,⟨h2,h3,_⟩,h4⟩:=h
 exact⟨h1,h2,h3,λb m m'=>h4 b m b (iW _ m') rfl⟩
theorem Af(h1:Z.Nodup)(h2:Θ.Nodup)(h3:O.Nodup)(h4:∀b∈Z,b∉Θ)(h5:∀b∈O,b∉Z/\b∉Θ):(Z++(Θ++O)).Nodup:=by
 rw[kY,kY]
 refine⟨h1,⟨h2,h3,λb m c m' e=>?_⟩,λb m c m' e=>?_⟩
 .subst e;exact(h5 b m').2 m
 .subst e;rcases dB.mp m' with m'|m'
  .exact h4 b m m'
  .exact(h5 b m').1 m
theorem Sm.zZ(S:Sm K Z Θ env C σ H){x:Vl}(hx:∀d,x≠.ow d)(r:Dh K (er (bf Z Θ env σ) H) H Θ x v):Sm K Z Θ (env.set i (aa x)) C (σ.set i (aa v)) H:=by
 have sub:∀b,b∈bU (env.set i (aa x)) (σ.set i (aa v))->b∈bU env σ:=λb m=>by
  rcases xM m with m|⟨⟨d,e⟩,_⟩
  .exact m
  .exact absurd e (hx d)
 have dY:=S.dY;have sm:bN (er (bf Z Θ env σ) H) (er (bf Z Θ (env.set i (aa x)) (σ.set i (aa v))) H):=uH λb m=>by
  rcases dB.mp m with m|m
  .exact iW _ m
  .rcases dB.mp m with m|m
   .exact fK _ (iW _ m)
   .exact fK _ (fK _ (sub b m))
 refine⟨by rw[wQ,wQ];exact S.len,?_,S.dom,λj y e=>?_,S.cell⟩
 .refine Af dY.1 dY.2.1 (Q8 λp q d e b h1 h2 h3 h4=>?_) dY.2.2.2 λb m=>S.oR (sub b m)
  rcases get_set h1 with⟨rfl,e1,_⟩|⟨n1,h1⟩
  .cases e1;exact absurd rfl (hx d)
  .rcases get_set h3 with⟨rfl,e1,_⟩|⟨n2,h3⟩
   .cases e1;exact absurd rfl (hx e)
   .rcases get_set h2 with⟨e2,_,_⟩|⟨_,h2⟩
    .exact absurd e2 n1
    .rcases get_set h4 with⟨e4,_,_⟩|⟨_,h4⟩
     .exact absurd e4 n2
     .exact Fb dY.2.2.1 h1 h2 h3 h4
 .rcases get_set e with⟨rfl,e1,hl⟩|⟨n,e⟩
  .cases e1
   exact⟨v,abZ (by rw[S.len];exact hl),r.same sm λd b ex _=>absurd ex (hx d)⟩
  .obtain⟨u,e1,r1⟩:=S.slot j y e
   exact⟨u,by rw[wH (lg n)];exact e1,r1.same sm λ_ _ _ _ _ h=>h⟩
theorem Sm.ad9(S:Sm K (a::Z) Θ env C σ H){d:au}(r:jQ (er (bf (a::Z) Θ env σ) H) H a d):Sm K Z Θ (env.set i (aa (.ow d))) C (σ.set i (aa (.ref a))) H:=by
 have sub:∀b,b∈bU (env.set i (aa (.ow d))) (σ.set i (aa (.ref a)))->b∈bU env σ\/b=a:=λb m=>by
  rcases xM m with m|⟨_,e⟩
  .exact .inl m
  .cases e;exact .inr rfl
 have dY:=S.dY;have Hi:=jD.mp dY.1;have sm:bN (er (bf (a::Z) Θ env σ) H) (er (bf Z Θ (env.set i (aa (.ow d))) (σ.set i (aa (.ref a)))) H):=uH λb m=>by
  rcases dB.mp m with m|m
  .exact iW _ (fP _ m)
  .rcases dB.mp m with m|m
   .exact fK _ (iW _ m)
   .rcases sub b m with m|rfl
    .exact fK _ (fK _ m)
    .exact iW _ dN
 have aea:a∉bU env σ:=λm=>(S.oR m).1 dN
 refine⟨by rw[wQ,wQ];exact S.len,?_,λb m=>S.dom b (fP _ m),λj y e=>?_,S.cell⟩
 .refine Af Hi.2 dY.2.1 (Q8 λp q d1 e b h1 h2 h3 h4=>?_) (λb m=>dY.2.2.2 b (fP _ m)) λb m=>?_
  .rcases get_set h1 with⟨rfl,e1,_⟩|⟨n1,h1⟩
   .rcases get_set h3 with⟨e3,_,_⟩|⟨n2,h3⟩
    .exact e3.symm
    .rcases get_set h2 with⟨_,e2,_⟩|⟨n,_⟩
     .cases e2;rcases get_set h4 with⟨e4,_,_⟩|⟨_,h4⟩
      .exact e4.symm
      .exact absurd (nu.mpr ⟨q,e,h3,h4⟩) aea
     .exact absurd rfl n
   .rcases get_set h2 with⟨e2,_,_⟩|⟨_,h2'⟩
    .exact absurd e2 n1
    .have mp:=nu.mpr ⟨p,d1,h1,h2'⟩;rcases get_set h3 with⟨rfl,e3,_⟩|⟨n2,h3⟩
     .rcases get_set h4 with⟨_,e4,_⟩|⟨n,_⟩
      .cases e4;exact absurd mp aea
      .exact absurd rfl n
     .rcases get_set h4 with⟨e4,_,_⟩|⟨_,h4⟩
      .exact absurd e4 n2
      .exact Fb dY.2.2.1 h1 h2' h3 h4
  .rcases sub b m with m|rfl
   .obtain⟨p,q⟩:=S.oR m
    exact⟨λz=>p (fP _ z),q⟩
   .exact⟨Hi.1,dY.2.2.2 b dN⟩
 .rcases get_set e with⟨rfl,e1,hl⟩|⟨n,e⟩
  .cases e1
   exact⟨_,abZ (by rw[S.len];exact hl),a,rfl,r.same sm λ_ h=>h⟩
  .obtain⟨u,e1,r1⟩:=S.slot j y e
   exact⟨u,by rw[wH (lg n)];exact e1,r1.same sm λ_ _ _ _ _ h=>h⟩
theorem Res.set(h:Res K Z Θ env C σ H0 H r v):Sm K Z Θ (env.set i (aa r)) C (σ.set i (aa v)) H:=by
 cases r with
 |im d=>exact h.1.zZ (λ_ e=>nomatch e) h.2
 |ow d=>obtain⟨a,rfl,_,S,r⟩:=h;exact S.ad9 r
 |ce n=>exact h.1.zZ (λ_ e=>nomatch e) h.2
 |sc ns=>exact h.1.zZ (λ_ e=>nomatch e) h.2
 |tp=>exact h.elim
end
inductive Fl where
 |nx|rt (r:Vl)|bk|ct
abbrev FS:=En->Ce->Option (Fl×En×Ce)
structure jZ(Θ Θ':List aq)(H:Hp):Prop where
 ex:∃Δ,Θ'=Θ++Δ/\∀a∈Δ,H a=aj
theorem jZ.refl(Θ:List aq)(H:Hp):jZ Θ Θ H:=⟨[],by rw[lO],λ_ m=>nomatch m⟩
structure fj(K:aM)(Z Θ:List aq)(env:En)(σ:St)(H:Hp)(Θ':List aq)(env':En)(C':Ce)(σ':St)(H':Hp):Prop where
 th:jZ Θ Θ' H
 kp:aZ (Θ++bU env σ) H H'
 own:∀a∈bU env' σ',a∈bU env σ\/H a=aj
 sm:Sm K Z Θ' env' C' σ' H'
def Ls(K:aM)(Z Θ:List aq)(C:Ce)(own:List aq)(H H':Hp):Vl->V->Prop
 |.im d,v=>Sm K Z Θ [] C [] H'/\RZ (er (bf Z Θ [] []) H') d v
 |.ow d,v=>∃a,v=.ref a/\(a∈own\/H a=aj)/\Sm K (a::Z) Θ [] C [] H'/\jQ (er (bf (a::Z) Θ [] []) H') H' a d
 |.ce n,v=>Sm K Z Θ [] C [] H'/\∃a,v=.ref a/\Θ[n]?=aa a
 |.sc ns,v=>Sm K Z Θ [] C [] H'/\∃a,v=.ref a/\bR K (er (bf Z Θ [] []) H') a (ns.map V.int)
 |.tp p d q,v=>∃t a vs us,v=.ref t/\H' t=aa (.tup (vs++.ref a::us))/\(a∈own\/H a=aj)/\Sm K (a::Z) Θ [] C [] H'/\jQ (er (bf (a::Z) Θ [] []) H') H' a d/\cA (er (bf (a::Z) Θ [] []) H') p vs/\cA (er (bf (a::Z) Θ [] []) H') q us
structure Wm(K:aM)(Z Θ:List aq)(env:En)(σ:St)(H:Hp)(Θ':List aq)(C':Ce)(r:Vl)(v:V)(H':Hp):Prop where
 th:jZ Θ Θ' H
 kp:aZ (Θ++bU env σ) H H'
 ok:Ls K Z Θ' C' (bU env σ) H H' r v
def Ml(K:aM)(Z Θ:List aq)(env:En)(σ:St)(H:Hp)(env':En)(C':Ce)(D:Ends):Fl->Prop
 |.nx=>∀Θ' σ' H',fj K Z Θ env σ H Θ' env' C' σ' H'->D.nx σ' H'
 |.bk=>∀Θ' σ' H',fj K Z Θ env σ H Θ' env' C' σ' H'->D.bk σ' H'
 |.ct=>∀Θ' σ' H',fj K Z Θ env σ H Θ' env' C' σ' H'->D.ct σ' H'
 |.rt r=>∀Θ' v H',Wm K Z Θ env σ H Θ' C' r v H'->D.rt v H'
inductive tS(K:aM)(f:FS)(D:Ends)(σ:St)(H:Hp):Prop
 |mk (Z Θ:List aq) (env:En) (C:Ce) (fl:Fl) (env':En) (C':Ce) (S:Sm K Z Θ env C σ H) (hf:f env C=aa (fl,env',C')) (q:Ml K Z Θ env σ H env' C' D fl):tS K f D σ H
section
variable{K:aM}{Z Θ Θ1 Θ2:List aq}{env e1 e2:En}{C C1 C2:Ce}{σ σ1 σ2:St}{H H1 H2:Hp}
theorem jZ.trans(h:jZ Θ Θ1 H)(k:∀a,H a≠aj->H1 a≠aj)(g:jZ Θ1 Θ2 H1):jZ Θ Θ2 H:=by
 obtain⟨Δ,e,n⟩:=h.ex
 obtain⟨Δ',e',n'⟩:=g.ex
 refine⟨Δ++Δ',by rw[e',e,mR],λa m=>?_⟩
 rcases dB.mp m with m|m
 .exact n a m
 .cases h:H a with
  |none=>rfl
  |some o=>exact absurd (n' a m) (k a (by rw[h];exact wM _))
theorem aaZ(th:jZ Θ Θ1 H)(k1:aZ (Θ++bU env σ) H H1)(ow:∀a∈bU e1 σ1,a∈bU env σ\/H a=aj)(k2:aZ (Θ1++bU e1 σ1) H1 H2):aZ (Θ++bU env σ) H H2:=by
 refine⟨λa o e n=>k2.keep a o (k1.keep a o e n) λm=>n ?_,λa e=>k2.dom a (k1.dom a e)⟩
 have hn:H a≠aj:=by rw[e];exact wM _
 rcases dB.mp m with m|m
 .obtain⟨Δ,e',n'⟩:=th.ex
  rw[e'] at m;rcases dB.mp m with m|m
  .exact iW _ m
  .exact absurd (n' a m) hn
 .rcases ow a m with m|m
  .exact fK _ m
  .exact absurd m hn
theorem fj.trans(p:fj K Z Θ env σ H Θ1 e1 C1 σ1 H1)(q:fj K Z Θ1 e1 σ1 H1 Θ2 e2 C2 σ2 H2):fj K Z Θ env σ H Θ2 e2 C2 σ2 H2 where
 th:=p.th.trans p.kp.dom q.th
 kp:=aaZ p.th p.kp p.own q.kp
 own:=λa m=>by
  rcases q.own a m with m|m
  .exact p.own a m
  .exact .inr (p.kp.none m)
 sm:=q.sm
theorem fj.ret(p:fj K Z Θ env σ H Θ1 e1 C1 σ1 H1)(q:Wm K Z Θ1 e1 σ1 H1 Θ2 C2 r v H2):Wm K Z Θ env σ H Θ2 C2 r v H2 where
 th:=p.th.trans p.kp.dom q.th
 kp:=aaZ p.th p.kp p.own q.kp
 ok:=by
  have h:=q.ok;cases r with
  |im d=>exact h
  |ow d=>
   obtain⟨a,e,m,S,r⟩:=h
   refine⟨a,e,?_,S,r⟩
   rcases m with m|m
   .exact p.own a m
   .exact .inr (p.kp.none m)
  |ce n=>exact h
  |sc ns=>exact h
  |tp=>
   obtain⟨t,a,vs,us,e,e',m,R⟩:=h
   exact⟨t,a,vs,us,e,e',m.elim (p.own a) λm=>.inr (p.kp.none m),R⟩
theorem Ml.trans(p:fj K Z Θ env σ H Θ1 e1 C1 σ1 H1)(h:Ml K Z Θ env σ H e2 C2 D fl):Ml K Z Θ1 e1 σ1 H1 e2 C2 D fl:=by
 cases fl with
 |nx=>exact λΘ' σ' H' q=>h Θ' σ' H' (p.trans q)
 |bk=>exact λΘ' σ' H' q=>h Θ' σ' H' (p.trans q)
 |ct=>exact λΘ' σ' H' q=>h Θ' σ' H' (p.trans q)
 |rt r=>exact λΘ' v H' q=>h Θ' v H' (p.ret q)
theorem sy(k:aZ Θ H H1):aZ (Θ++O) H H1:=⟨λa o e n=>k.keep a o e λm=>n (iW _ m),k.dom⟩
theorem fj.rJ(k:aZ Θ H H1)(f:Fz env e1)(S:Sm K Z Θ e1 C1 σ H1):fj K Z Θ env σ H Θ e1 C1 σ H1:=
 ⟨jZ.refl _ _,sy k,λa m=>.inl (f.own.subset m),S⟩
end
def jW:FS:=λenv C=>aa (.nx,env,C)
def bK(f g:FS):FS:=λenv C=>match f env C with
 |some (.nx,e1,C1)=>g e1 C1
 |r=>r
def jF(c:FT)(f g:FS):FS:=λenv C=>match c env C with
 |some (true,C1)=>f env C1
 |some (false,C1)=>g env C1
 |none=>aj
def iC(f:FE):FS:=λenv C=>match f env C with
 |some (r,e1,C1)=>aa (.rt r,e1,C1)
 |none=>aj
def oX(i:Nat):FS:=λenv C=>match env[i]? with
 |some (some x)=>aa (.rt x,env,C)
 |_=>aj
def di(i:Nat)(f:FE):FS:=λenv C=>match f env C with
 |some (r,e1,C1)=>aa (.nx,e1.set i (aa r),C1)
 |none=>aj
section
variable{X:Cx}{st:dM}{rest:List dM}{pos:Pos}
theorem fj.same{K:aM}{Z Θ:List aq}{env:En}{C:Ce}{σ:St}{H:Hp}(S:Sm K Z Θ env C σ H):fj K Z Θ env σ H Θ env C σ H:=fj.rJ (aZ.refl _ _) (Fz.refl _) S
theorem mY:jG X [] (tS X.K jW):=akJ.weak λD σ H aP=>by
 obtain⟨Z,Θ,env,C,fl,env',C',S,hf,q⟩:=aP
 cases hf;exact q Θ σ H (fj.same S)
theorem cN(h:PS X st (tS X.K f)):jG X [st] (tS X.K f):=akK h
theorem ajV{K:aM}{f g:FS}:∀D σ H,tS K (bK f g) D σ H->adN (tS K f) (tS K g) D σ H:=by
 rintro D σ H ⟨Z,Θ,env,C,fl,env',C',S,hf,q⟩;unfold bK at hf;split at hf
 .rename_i e1 C1 h1
  exact⟨Z,Θ,env,C,.nx,e1,C1,S,h1,λΘ1 σ1 H1 p=>⟨Z,Θ1,e1,C1,fl,env',C',p.sm,hf,q.trans p⟩⟩
 .rename_i hne
  refine⟨Z,Θ,env,C,fl,env',C',S,hf,?_⟩
  cases fl with
  |nx=>exact absurd hf (hne _ _)
  |bk=>exact q
  |ct=>exact q
  |rt r=>exact q
theorem bW(h:PS X st (tS X.K f))(hr:jG X rest (tS X.K g)):jG X (st::rest) (tS X.K (bK f g)):=(ajq h hr).weak ajV
theorem mZ(hc:PT X c (gm X.K t))(ha:jG X a (tS X.K f))(hb:jG X b (tS X.K g)):PS X (.If c a b pos) (tS X.K (jF t f g)):=(anP hc ha hb).weak λD σ H aP=>by
 obtain⟨Z,Θ,env,C,fl,env',C',S,hf,q⟩:=aP
 unfold jF at hf;split at hf
 .rename_i C1 h1
  exact⟨Z,Θ,env,C,ao,C1,S,h1,λH1 k1 S1=>yo ⟨Z,Θ,env,C1,fl,env',C',S1,hf,q.trans (fj.rJ k1 (Fz.refl _) S1)⟩⟩
 .rename_i C1 h1
  exact⟨Z,Θ,env,C,aJ,C1,S,h1,λH1 k1 S1=>ym ⟨Z,Θ,env,C1,fl,env',C',S1,hf,q.trans (fj.rJ k1 (Fz.refl _) S1)⟩⟩
 .cases hf
theorem Sm.none{K:aM}{Z Θ:List aq}{env:En}{C:Ce}{σ:St}{H:Hp}(S:Sm K Z Θ env C σ H):Sm K Z Θ [] C [] H:=by
 have dY:=S.dY
 exact⟨rfl,Af dY.1 dY.2.1 nZ dY.2.2.2 (λ_ m=>nomatch m),S.dom,λi x e=>by simp at e,S.cell⟩
theorem By:bN (er (bf Z Θ env σ) H) (er (bf Z Θ [] []) H):=uH λb m=>by
 rcases dB.mp m with m|m
 .exact iW _ m
 .rcases dB.mp m with m|m
  .exact fK _ (iW _ m)
  .nomatch m
theorem Res.ret{K:aM}{Z Θ:List aq}{env:En}{C:Ce}{σ:St}{H H':Hp}{O:List aq}{r:Vl}{v:V}(h:Res K Z Θ env C σ H H' r v):Ls K Z Θ C O H H' r v:=by
 cases r with
 |im d=>exact⟨h.1.none,h.2.same By⟩
 |ow d=>obtain⟨a,e,n,S,r⟩:=h;exact⟨a,e,.inr n,S.none,r.same By λ_ h=>h⟩
 |ce n=>exact⟨h.1.none,h.2⟩
 |sc ns=>obtain⟨S,a,e,q⟩:=h;exact⟨S.none,a,e,By.seq q⟩
 |tp=>exact h.elim
theorem jq(h:PE X e (tE X.K f)):PS X (.Return (aa e) pos) (tS X.K (iC f)):=(Uh h).weak λD σ H aP=>by
 obtain⟨Z,Θ,env,C,fl,env',C',S,hf,q⟩:=aP
 unfold iC at hf;split at hf
 .rename_i r e1 C1 h1;cases hf
  exact⟨Z,Θ,env,C,r,env',C',S,h1,λv H1 k f R=>q Θ v H1 ⟨jZ.refl _ _,sy k,R.ret⟩⟩
 .cases hf
theorem sE(h:PE X e (qF i)):PS X (.Return (aa e) pos) (tS X.K (oX i)):=(Uh h).weak λD σ H aP=>by
 obtain⟨Z,Θ,env,C,fl,env',C',S,hf,q⟩:=aP
 unfold oX at hf;split at hf
 .rename_i x hx;cases hf
  obtain⟨v,e1,r⟩:=S.slot i x hx
  refine⟨v,e1,q Θ v H ⟨jZ.refl _ _,aZ.refl _ _,?_⟩⟩
  cases x with
  |im d=>exact⟨S.none,RZ.same By r⟩
  |ow d=>
   obtain⟨a,rfl,r⟩:=r
   have m:a∈bU env σ:=nu.mpr ⟨i,d,hx,e1⟩;have sm:bN (er (bf Z Θ env σ) H) (er (bf (a::Z) Θ [] []) H):=uH λb mb=>by
    rcases dB.mp mb with mb|mb
    .rcases cB.mp mb with rfl|mb
     .exact fK _ (fK _ m)
     .exact iW _ mb
    .rcases dB.mp mb with mb|mb
     .exact fK _ (iW _ mb)
     .nomatch mb
   have dY:=S.dY
   refine⟨a,rfl,.inl m,⟨rfl,Af (jD.mpr ⟨(S.oR m).1,dY.1⟩) dY.2.1 nZ (λb mb=>?_) (λ_ m=>nomatch m),λb mb=>?_,λi x e=>by simp at e,S.cell⟩,r.same sm λ_ h=>h⟩
   .rcases cB.mp mb with rfl|mb
    .exact(S.oR m).2
    .exact dY.2.2.2 b mb
   .rcases cB.mp mb with rfl|mb
    .exact r.nt
    .exact S.dom b mb
  |ce n=>exact⟨S.none,r⟩
  |sc ns=>obtain⟨a,e,q⟩:=r;exact⟨S.none,a,e,By.seq q⟩
  |tp=>exact r.elim
 .cases hf
theorem RG{K:aM}{i:Nat}{t:TE}{f:FE}(w:∀σ H Q,tE K f σ H Q->t σ H Q):∀D σ H,tS K (di i f) D σ H->Df t (xR i) D σ H:=by
 rintro D σ H ⟨Z,Θ,env,C,fl,env',C',S,hf,q⟩;unfold di at hf;split at hf
 .rename_i r e1 C1 h1;cases hf;refine w _ _ _ ⟨Z,Θ,env,C,r,e1,C',S,h1,λv H1 k f R=>q Θ _ H1 ⟨jZ.refl _ _,sy k,λa m=>?_,R.set⟩⟩;rcases xM m with m|⟨⟨d,e⟩,e2⟩
  .exact .inl (f.own.subset m)
  .subst e
   obtain⟨b,e3,n,_⟩:=R
   rw[e2] at e3;cases e3;exact .inr n
 .cases hf
theorem gh(hN:X.N.Nodup)(hi:X.N[i]?=aa x)(hx:Loc X.env.scope x)(he:PE X e (tE X.K f))(hs:ux e (aa (.Name x pos')) pos.line X.env=pure aJ:=by rfl)(hf:X.fn x=ao\/X.env.scope.names.lookup x=aa .local:=by first|exact .inl rfl|exact .inr rfl|assumption):
  PS X (.Assign [.Name x pos'] e pos) (tS X.K (di i f)):=(acw hN hi hx he hs hf).weak (RG λ_ _ _ h=>h)
end
abbrev FG:=au->En->Option En
abbrev Hj:=List au->En->Option En
def Ds(K:aM)(g:TG)(fg:FG):Prop:=∀(Z Θ:List aq)(env:En)(C:Ce)(σ:St)(H:Hp)(v:V)(d:au)(env':En),Sm K Z Θ env C σ H->RZ (er (bf Z Θ env σ) H) d v->fg d env=aa env'->
 ∀Q:St->Hp->Prop,(∀σ',Sm K Z Θ env' C σ' H->(∀a∈bU env' σ',a∈bU env σ)->Q σ' H)->g v σ H Q
def Mm(K:aM)(g:vY)(fg:Hj):Prop:=∀(Z Θ:List aq)(env:En)(C:Ce)(σ:St)(H:Hp)(vs:List V)(ds:List au)(env':En),Sm K Z Θ env C σ H->cA (er (bf Z Θ env σ) H) ds vs->fg ds env=aa env'->
 ∀Q:St->Hp->Prop,(∀σ',Sm K Z Θ env' C σ' H->(∀a∈bU env' σ',a∈bU env σ)->Q σ' H)->g vs σ H Q
def fJ(i:Nat):FG:=λd env=>aa (env.set i (aa (.im d)))
def CP:Hj:=λds env=>match ds with
 |[]=>aa env
 |_=>aj
def vH(g:FG)(u:Hj):Hj:=λds env=>match ds with
 |d::r=>match g d env with
  |some e1=>u r e1
  |none=>aj
 |[]=>aj
def Dt(n:Nat)(u:Hj):FG:=λd env=>match d with
 |.tuple ds=>if ds.length=n then u ds env else aj
 |_=>aj
theorem acN(h:∀a∈bU e1 σ1,a∈bU env σ):bN (er (bf Z Θ env σ) H) (er (bf Z Θ e1 σ1) H):=uH λb m=>by
 rcases dB.mp m with m|m
 .exact iW _ m
 .rcases dB.mp m with m|m
  .exact fK _ (iW _ m)
  .exact fK _ (fK _ (h b m))
section
variable{K:aM}
theorem nA:Ds K (xR i) (fJ i):=by
 intro Z Θ env C σ H v d env' S r e Q q;cases e;refine q _ (S.zZ (λ_ z=>nomatch z) r) λa m=>?_
 rcases xM m with m|⟨⟨_,z⟩,_⟩
 .exact m
 .cases z
theorem ab0:Mm K VB CP:=by
 intro Z Θ env C σ H vs ds env' S r e Q q;unfold CP at e;split at e
 .cases e
  exact⟨r,q _ S λ_ m=>m⟩
 .cases e
theorem Ka(h:Ds K g fg)(hu:Mm K u fu):Mm K (Vc g u) (vH fg fu):=by
 intro Z Θ env C σ H vs ds env' S r e Q q;unfold vH at e;split at e
 .rename_i d r'
  obtain⟨v,ws,rfl,r1,r2⟩:=r
  split at e
  .rename_i e1 h1
   refine⟨v,ws,rfl,h Z Θ env C σ H v d e1 S r1 h1 _ λσ1 S1 o1=>?_⟩
   exact hu Z Θ e1 C σ1 H ws r' env' S1 (r2.same (acN o1)) e Q λσ2 S2 o2=>q σ2 S2 λa m=>o1 a (o2 a m)
  .cases e
 .cases e
theorem acO(hu:Mm K u fu):Ds K (Ma K n u) (Dt n fu):=by
 intro Z Θ env C σ H v d env' S r e Q q;unfold Dt at e;split at e
 .rename_i ds;split at e
  .rename_i hl
   obtain⟨a,vs,rfl,ha,r⟩:=r
   exact⟨a,vs,rfl,dj.of (jn ha),(jo r).trans hl,hu Z Θ env C σ H vs ds env' S r e Q q⟩
  .cases e
 .cases e
end
def Mp(f:FE)(g:FG):FS:=λenv C=>match f env C with
 |some (r,e1,C1)=>match still r with
  |.im d=>match g d e1 with
   |some e2=>aa (.nx,e2,C1)
   |none=>aj
  |_=>aj
 |none=>aj
theorem Res.uN{K:aM}{Z Θ:List aq}{env:En}{C:Ce}{σ:St}{H H':Hp}{r:Vl}{v:V}{d:au}(h:Res K Z Θ env C σ H H' r v)(e:L2.still r=.im d):Sm K Z Θ env C σ H'/\RZ (er (bf Z Θ env σ) H') d v:=by
 have g:=h.still;rw[e] at g;exact g
section
variable{X:Cx}{pos:Pos}
theorem am1{tg e:Expr}{f:FE}{g:TG}{fg:FG}(he:PE X e (tE X.K f))(hg:PG X tg g)(L:Ds X.K g fg)(hs:wX [tg] e pos.line X.env=pure aJ:=by rfl)(hw:wY [tg] e X.env=pure aj:=by rfl)(h1:(rT [tg] X.env).map (·.2)=[assign tg X.env]:=by rfl):
  PS X (.Assign [tg] e pos) (tS X.K (Mp f fg)):=(K5 he hg hs hw h1).weak λD σ H aP=>by
 obtain⟨Z,Θ,env,C,fl,env',C',S,hf,q⟩:=aP
 unfold Mp at hf;split at hf
 .rename_i r e1 C1 h1;split at hf
  .rename_i d hd;split at hf
   .rename_i e2 h2;cases hf
    refine⟨Z,Θ,env,C,r,e1,C',S,h1,λv H1 k f R=>?_⟩
    obtain⟨S1,r1⟩:=R.uN hd
    exact L Z Θ e1 C' σ H1 v d env' S1 r1 h2 D.nx λσ' S' o=>q Θ σ' H1 ⟨jZ.refl _ _,sy k,λa m=>.inl (f.own.subset (o a m)),S'⟩
   .cases hf
  .cases hf
 .cases hf
end
inductive mG(K:aM)(E H:Hp)(Θ:List aq):List aq->List Vl->List V->Prop
 |nil:mG K E H Θ [] [] []
 |cons {as:List aq} {x:Vl} {v:V} {xs:List Vl} {vs:List V}:vJ K E Θ x v->mG K E H Θ as xs vs->mG K E H Θ as (x::xs) (v::vs)
 |own {as:List aq} {a:aq} {d:au} {xs:List Vl} {vs:List V}:jQ E H a d->mG K E H Θ as xs vs->mG K E H Θ (as++[a]) (.ow d::xs) (.ref a::vs)
theorem mG.same{K:aM}{E E' H:Hp}{Θ as:List aq}{xs:List Vl}{vs:List V}(s:bN E E')(h:mG K E H Θ as xs vs):mG K E' H Θ as xs vs:=by
 induction h with
 |nil=>exact .nil
 |cons a _ ih=>exact .cons (a.same s) ih
 |own r _ ih=>exact .own (r.same s λ_ h=>h) ih
theorem mG.heap{K:aM}{E H H':Hp}{Θ as:List aq}{xs:List Vl}{vs:List V}(s:bN H H')(h:mG K E H Θ as xs vs):mG K E H' Θ as xs vs:=by
 induction h with
 |nil=>exact .nil
 |cons a _ ih=>exact .cons a ih
 |own r _ ih=>exact .own (r.same (bN.refl _) λo ho=>s _ _ ho) ih
inductive wz(K:aM)(f:FA)(σ:St)(H:Hp)(Q:List V->Hp->Prop):Prop
 |mk (Z Θ:List aq) (env:En) (C:Ce) (xs:List Vl) (env':En) (C':Ce) (S:Sm K Z Θ env C σ H) (hf:f env C=aa (xs,env',C')) (q:∀vs as H',aZ Θ H H'->Fz env env'->(∀a∈as,H a=aj)->Sm K (as++Z) Θ env' C' σ H'->mG K (er (bf (as++Z) Θ env' σ) H') H' Θ as xs vs->Q vs H'):wz K f σ H Q
def gK(f:FE)(g:FA):FA:=λenv C=>match f env C with
 |some (r,e1,C1)=>match g e1 C1 with
  |some (xs,e2,C2)=>aa (r::xs,e2,C2)
  |none=>aj
 |none=>aj
section
variable{K:aM}{Z Z' Θ:List aq}{env:En}{C:Ce}{σ:St}{H:Hp}
theorem jN:a∈bf Z Θ env σ↔a∈Z\/a∈Θ\/a∈bU env σ:=by rw[dB,dB]
theorem Sm.perm(S:Sm K Z Θ env C σ H)(p:Z.Perm Z'):Sm K Z' Θ env C σ H:=by
 have e:er (bf Z Θ env σ) H=er (bf Z' Θ env σ) H:=qw λa=>by rw[jN,jN,p.mem_iff]
 refine⟨S.len,(List.Perm.append_right _ p).nodup S.nd,λa m=>S.dom a (p.mem_iff.mpr m),λi x h=>?_,S.cell⟩
 rw[<-e];exact S.slot i x h
end
section
variable{X:Cx}{e:Expr}{es:List Expr}{pos:Pos}
theorem rm:PA X [] (wz X.K aY):=qu.weak λσ H Q aP=>by
 obtain⟨Z,Θ,env,C,xs,env',C',S,hf,q⟩:=aP
 cases hf;exact q [] [] H (aZ.refl _ _) (Fz.refl _) (λ_ m=>nomatch m) S .nil
theorem jd(h:PE X e (tE X.K f))(hr:PA X es (wz X.K g))(hs:bJ (e::es) X.env=(aJ,eval e X.env)::bJ es X.env:=by rfl):PA X (e::es) (wz X.K (gK f g)):=(n6 h hr hs).weak λσ H Q aP=>by
 obtain⟨Z,Θ,env,C,xs,env',C',S,hf,q⟩:=aP
 unfold gK at hf;split at hf
 .rename_i r e1 C1 h1;split at hf
  .rename_i ys e2 C2 h2;cases hf
   refine⟨Z,Θ,env,C,r,e1,C1,S,h1,λv H1 k1 f1 R1=>?_⟩
   have plain:∀{x:Vl},Sm X.K Z Θ e1 C1 σ H1->vJ X.K (er (bf Z Θ e1 σ) H1) Θ x v->r=x->wz X.K g σ H1 λxs H2=>Q (v::xs) H2:=λ{x} S1 a1 ex=>by
    subst ex
    refine⟨Z,Θ,e1,C1,ys,env',C',S1,h2,λvs as H2 k2 f2 n2 S2 a2=>q _ as H2 (k1.trans k2) (f1.trans f2) (λa m=>k1.none (n2 a m)) S2 (.cons (a1.same (lR k2 S1.qN λa m=>?_)) a2)⟩
    rcases dB.mp m with m|m
    .rcases dB.mp m with m|m
     .exact .inr (n2 a m)
     .exact .inl (iW _ m)
    .exact .inl (f2.sub (Z:=Z) a (fK _ m))
   cases r with
   |im d=>exact plain (x:=.im d) R1.1 R1.2 rfl
   |ce n=>exact plain (x:=.ce n) R1.1 R1.2 rfl
   |sc ns=>exact plain (x:=.sc ns) R1.1 R1.2 rfl
   |tp=>exact R1.elim
   |ow d=>
    obtain⟨a,rfl,hn,S1,r1⟩:=R1
    refine⟨a::Z,Θ,e1,C1,ys,env',C',S1,h2,λvs as H2 k2 f2 n2 S2 a2=>?_⟩
    have ez:as++a::Z=(as++[a])++Z:=by rw[mR];rfl
    rw[ez] at S2 a2;have na:a∉Θ:=λm=>(S1.dY.2.2.2 a dN) m
    refine q _ (as++[a]) H2 (k1.trans k2) (f1.trans f2) (λb m=>?_) S2 (.own (r1.same (lR k2 S1.qN λb m=>?_) λo ho=>k2.keep _ _ ho na) a2)
    .rcases dB.mp m with m|m
     .exact k1.none (n2 b m)
     .rw[iY.mp m];exact hn
    .rcases dB.mp m with m|m
     .rcases dB.mp m with m|m
      .rcases dB.mp m with m|m
       .exact .inr (n2 b m)
       .rw[iY.mp m];exact .inl dN
      .exact .inl (iW _ (fP _ m))
     .exact .inl (f2.sub (Z:=a::Z) b (fK _ m))
  .cases hf
 .cases hf
end
def setM{α:Type}:List Nat->List α->List (Option α)->List (Option α)
 |i::is,x::xs,e=>setM is xs (e.set i (aa x))
 |_,_,e=>e
theorem Ky{K:aM}{Z Θ:List aq}{C:Ce}{H:Hp}{E:Hp}:∀{as:List aq}{xs:List Vl}{vs:List V},mG K E H Θ as xs vs->∀{is:List Nat}{env:En}{σ:St},is.length=xs.length->bN E (er (bf (as++Z) Θ env σ) H)->Sm K (as++Z) Θ env C σ H->
  Sm K Z Θ (setM is xs env) C (setM is vs σ) H/\∀a∈bU (setM is xs env) (setM is vs σ),a∈bU env σ\/a∈as:=by
 intro as xs vs h;induction h with
 |nil=>
  intro is env σ hl _ S;cases is with
  |nil=>exact⟨S,λa m=>.inl m⟩
  |cons _ _=>cases hl
 |@cons as x v xs vs a1 _ ih=>
  intro is env σ hl sm S;cases is with
  |nil=>cases hl
  |cons i is=>
   have hx:∀d,x≠.ow d:=λd z=>by subst z;exact a1
   have sl:Dh K (er (bf (as++Z) Θ env σ) H) H Θ x v:=by
    have a2:=a1.same sm;cases x with
    |im d=>exact a2
    |ow d=>exact absurd rfl (hx d)
    |ce n=>exact a2
    |sc ns=>exact a2
    |tp=>exact a2
   have S1:Sm K (as++Z) Θ (env.set i (aa x)) C (σ.set i (aa v)) H:=S.zZ hx sl;have o1:∀b∈bU (env.set i (aa x)) (σ.set i (aa v)),b∈bU env σ:=λb m=>by
    rcases xM m with m|⟨⟨d,z⟩,_⟩
    .exact m
    .exact absurd z (hx d)
   obtain⟨S2,o2⟩:=ih (is:=is) (by simpa using hl) (sm.trans (acN o1)) S1
   refine⟨S2,λb m=>?_⟩
   rcases o2 b m with m|m
   .exact .inl (o1 b m)
   .exact .inr m
 |@own as a d xs vs r _ ih=>
  intro is env σ hl sm S;cases is with
  |nil=>cases hl
  |cons i is=>
   have pm:((as++[a])++Z).Perm (a::(as++Z)):=by
    rw[mR];exact List.perm_middle
   have S0:=S.perm pm;have ee:er (bf ((as++[a])++Z) Θ env σ) H=er (bf (a::(as++Z)) Θ env σ) H:=qw λb=>by rw[jN,jN,pm.mem_iff]
   rw[ee] at sm;have S1:Sm K (as++Z) Θ (env.set i (aa (.ow d))) C (σ.set i (aa (.ref a))) H:=S0.ad9 (r.same sm λ_ h=>h);have o1:∀b∈bU (env.set i (aa (.ow d))) (σ.set i (aa (.ref a))),b∈bU env σ\/b=a:=λb m=>by
    rcases xM m with m|⟨_,z⟩
    .exact .inl m
    .cases z;exact .inr rfl
   obtain⟨S2,o2⟩:=ih (is:=is) (by simpa using hl) (sm.trans (uH λb m=>by
    rcases dB.mp m with m|m
    .exact iW _ (fP _ m)
    .rcases dB.mp m with m|m
     .exact fK _ (iW _ m)
     .rcases o1 b m with m|rfl
      .exact fK _ (fK _ m)
      .exact iW _ dN)) S1
   refine⟨S2,λb m=>?_⟩
   rcases o2 b m with m|m
   .rcases o1 b m with m|rfl
    .exact .inl m
    .exact .inr (fK _ (iY.mpr rfl))
   .exact .inr (iW _ m)
theorem BV{K:aM}{E H:Hp}{Θ as:List aq}{xs:List Vl}{vs:List V}(h:mG K E H Θ as xs vs):vs.length=xs.length:=by
 induction h with
 |nil=>rfl
 |cons _ _ ih=>rw[cZ,cZ,ih]
 |own _ _ ih=>rw[cZ,cZ,ih]
def lW(is:List Nat)(g:FA):FS:=λenv C=>match g env C with
 |some (xs,e1,C1)=>if is.length=xs.length/\xs.length<=f9 then aa (.nx,setM is xs e1,C1) else aj
 |none=>aj
def M3(is:List Nat):vY:=match is with
 |[]=>VB
 |i::r=>Vc (xR i) (M3 r)
theorem Tq:∀{is:List Nat}{vs:List V}{σ:St}{H:Hp}{Q:St->Hp->Prop},is.length=vs.length->Q (setM is vs σ) H->M3 is vs σ H Q
 |[],[],σ,H,Q,_,q=>⟨rfl,q⟩
 |i::is,v::vs,σ,H,Q,h,q=>⟨v,vs,rfl,Tq (by simpa using h) q⟩
 |[],_::_,_,_,_,h,_=>by cases h
 |_::_,[],_,_,_,h,_=>by cases h
section
variable{X:Cx}{pos:Pos}
theorem zJ{i j:Nat}{x y:Str}{a b:Expr}{g:FA}{px py pt:Pos}{kt k2 pB}(hc:X.calm=ao)(hN:X.N.Nodup)(hi:X.N[i]?=aa x)(hj:X.N[j]?=aa y)(hij:i≠j)
  (hx:X.env.scope.names.lookup x=aa .local)(hy:X.env.scope.names.lookup y=aa .local)(ha:PA X [a,b] (wz X.K g))
  (hw:wY [.Tuple [.Name x px,.Name y py] kt pt] (.Tuple [a,b] k2 pB) X.env=pure (aa [x,y]))
  (hs:wX [.Tuple [.Name x px,.Name y py] kt pt] (.Tuple [a,b] k2 pB) pos.line X.env=pure aJ:=by rfl):
  PS X (.Assign [.Tuple [.Name x px,.Name y py] kt pt] (.Tuple [a,b] k2 pB) pos) (tS X.K (lW [i,j] g)):=(amn hc hN hi hj hij hx hy ha hw hs).weak λD σ H aP=>by
 obtain⟨Z,Θ,env,C,fl,env',C',S,hf,q⟩:=aP
 unfold lW at hf;split at hf
 .rename_i xs e1 C1 h1;split at hf
  .rename_i hl;cases hf
   refine⟨Z,Θ,env,C,xs,e1,C',S,h1,λvs as H1 k1 f1 n1 S1 a1=>?_⟩
   have l2:=BV a1
   obtain⟨S2,o2⟩:=Ky a1 hl.1 (bN.refl _) S1
   have e2:∃v w,vs=[v,w]:=by
    have:vs.length=2:=by rw[l2,<-hl.1];rfl
    match vs,this with
    |[v,w],_=>exact⟨v,w,rfl⟩
   obtain⟨v,w,rfl⟩:=e2
   refine⟨v,w,rfl,q Θ _ H1 ⟨jZ.refl _ _,sy k1,λb m=>?_,S2⟩⟩
   rcases o2 b m with m|m
   .exact .inl (f1.own.subset m)
   .exact .inr (n1 b m)
  .cases hf
 .cases hf
theorem Tr{tg:Expr}{es:List Expr}{g:FA}{is:List Nat}{n:Nat}{x1 pt}(ha:PA X es (wz X.K g))(hg:PG X tg (Ma X.K n (M3 is)))(hn:n=is.length:=by rfl)
  (hs:wX [tg] (.Tuple es x1 pt) pos.line X.env=pure aJ:=by rfl)(hw:wY [tg] (.Tuple es x1 pt) X.env=pure aj:=by rfl)(h1:(rT [tg] X.env).map (·.2)=[assign tg X.env]:=by rfl):
  PS X (.Assign [tg] (.Tuple es x1 pt) pos) (tS X.K (lW is g)):=(K5 (K7 ha) hg hs hw h1).weak λD σ H aP=>by
 obtain⟨Z,Θ,env,C,fl,env',C',S,hf,q⟩:=aP
 unfold lW at hf;split at hf
 .rename_i xs e1 C1 h1;split at hf
  .rename_i hl;cases hf
   refine⟨Z,Θ,env,C,xs,e1,C',S,h1,λvs as H1 k1 f1 n1 S1 a1=>⟨by rw[BV a1];exact rZ hl.2,λp hp=>?_⟩⟩
   have l2:=BV a1
   refine⟨p,vs,rfl,dj.of dO,by rw[l2,hn,hl.1],Tq (by rw[hl.1,l2]) ?_⟩
   have kp:aZ Θ H1 (upd H1 p (.tup vs)):=aZ.upd hp;have S1':=S1.xW (bN.upd (o:=.tup vs) hp);have a1':mG X.K (er (bf (as++Z) Θ e1 σ) H1) (upd H1 p (.tup vs)) Θ as xs vs:=a1.heap λb o ho=>by rw[cV (pM ho hp)];exact ho
   obtain⟨S2,o2⟩:=Ky a1' hl.1 (lR kp S1.qN λb m=>.inl m) S1'
   refine q Θ _ _ ⟨jZ.refl _ _,sy (k1.trans kp),λb m=>?_,S2⟩;rcases o2 b m with m|m
   .exact .inl (f1.own.subset m)
   .exact .inr (n1 b m)
  .cases hf
 .cases hf
end
theorem RJ:∀{env:En}{σ:St}{i:Nat}{d d':au},env[i]?=aa (aa (.ow d))->bU (env.set i (aa (.ow d'))) σ=bU env σ
 |[],σ,i,d,d',h=>by simp at h
 |x::e,[],i,d,d',h=>by cases i<;>rfl
 |x::e,v::s,0,d,d',h=>by
  simp at h;subst h;show own1 (aa (.ow d')) v++bU e s=own1 (aa (.ow d)) v++bU e s;rcases v with _|v
  .rfl
  .cases v<;>rfl
 |x::e,v::s,i+1,d,d',h=>by
  show own1 x v++bU (e.set i (aa (.ow d'))) s=own1 x v++bU e s;rw[RJ (by simpa using h)]
section
variable{K:aM}{Z Θ:List aq}{env:En}{C:Ce}{σ:St}{H:Hp}{a:aq}{i:Nat}{d d':au}{o:HO}
theorem Ld(h:a∈P):er P (upd H a o)=er P H:=by
 funext b;unfold er;by_cases hb:b=a
 .subst hb;rw[bz h,bz h]
 .rw[cV hb]
theorem Sm.write(S:Sm K Z Θ env C σ H)(e1:env[i]?=aa (aa (.ow d)))(e2:σ[i]?=aa (aa (.ref a)))(r:jQ (er (bf Z Θ env σ) H) (upd H a o) a d'):fj K Z Θ env σ H Θ (env.set i (aa (.ow d'))) C σ (upd H a o):=by
 have m:a∈bU env σ:=nu.mpr ⟨i,d,e1,e2⟩;have no:=S.oR m;have eo:bU (env.set i (aa (.ow d'))) σ=bU env σ:=RJ e1;have mp:a∈bf Z Θ env σ:=fK _ (fK _ m);have ep:bf Z Θ (env.set i (aa (.ow d'))) σ=bf Z Θ env σ:=by show _++(_++_)=_;rw[eo]
 refine⟨jZ.refl _ _,⟨λb u hb n=>?_,λb hb=>?_⟩,λb mb=>.inl (by rw[eo] at mb;exact mb),⟨by rw[wQ];exact S.len,by rw[ep];exact S.nd,λb mb=>?_,λj y ej=>?_,⟨S.cell.len,λn b ns h1 h2=>?_⟩⟩⟩
 .rw[cV (λz=>n (fK _ (by rw[z];exact m)))];exact hb
 .by_cases z:b=a
  .subst z;rw[dO];exact wM _
  .rw[cV z];exact hb
 .rw[cV (λz=>no.1 (by rw[<-z];exact mb))];exact S.dom b mb
 .rw[ep,Ld mp];rcases get_set ej with⟨rfl,ex,hl⟩|⟨n,ej⟩
  .cases ex
   exact⟨_,e2,a,rfl,r⟩
  .obtain⟨v,e3,r3⟩:=S.slot j y ej
   refine⟨v,e3,r3.same (bN.refl _) λd2 b ex ev u hu=>?_⟩
   subst ex ev;rw[cV]
   .exact hu
   .intro z;subst z;exact n (Fb S.dY.2.2.1 ej e3 e1 e2)
 .rw[cV (λz=>no.2 (by rw[<-z];exact p7 h1))];exact S.cell.at_ n b ns h1 h2
end
def oY:Option (Option Vl)->Bool
 |some (some (.ow (.list _)))=>ao
 |_=>aJ
def lG(i:Nat)(f:FE):FS:=λenv C=>if oY env[i]? then match f env C with
  |some (r,e1,C1)=>match still r,e1[i]? with
   |.im d,some (some (.ow (.list ds)))=>if ds.length<f9 then aa (.nx,e1.set i (aa (.ow (.list (ds++[d])))),C1) else aj
   |_,_=>aj
  |none=>aj
 else aj
theorem aa0(h:oY x=ao):∃ds,x=aa (aa (.ow (.list ds))):=by
 unfold oY at h;split at h
 .exact⟨_,rfl⟩
 .cases h
section
variable{X:Cx}{pos:Pos}
theorem xQ(ho:PE X o (qF i))(he:PE X e (tE X.K f))
  (hs0:ux (.Call (.Attribute o "append" apos) [e] [] cpos) aj pos.line X.env=pure aJ:=by rfl)
  (hbase:vm o "append" X.env (eval o X.env)=eval o X.env:=by rfl)
  (hfew:((gH cpos (bJ [e] X.env)).all (λx=>!x.1)&&(zq cpos (zf [] X.env)).all (λx=>x.1.isSome)
   &&decide (([e]:List Expr).length+([]:List oh).length+(if([]:List oh).isEmpty then 0 else 1)<30))=ao:=by rfl)
  (hline:(apos.endLine==cpos.line)=ao:=by rfl)(hs:bJ [e] X.env=(aJ,eval e X.env)::bJ [] X.env:=by rfl)(hplain:(gH cpos (bJ [] X.env)).any (·.1)=aJ:=by rfl):
  PS X (.Expr (.Call (.Attribute o "append" apos) [e] [] cpos) pos) (tS X.K (lG i f)):=
 (SX (Gh Ny Xv afd (tW.r QX) ho (n6 he qu hs) hbase hfew hline hs hplain) hs0).weak λD σ H aP=>by
  obtain⟨Z,Θ,env,C,fl,env',C',S,hf,q⟩:=aP
  unfold lG at hf;split at hf
  .rename_i h0
   obtain⟨ds0,h0⟩:=aa0 h0
   obtain⟨v0,rK,a,rfl,Dq,ha0,r0⟩:=S.slot i _ h0
   split at hf
   .rename_i r e1 C1 h1;split at hf
    .rename_i d ds hd hi;split at hf
     .rename_i hl;cases hf
      refine⟨_,rK,.inl ⟨rfl,Dq,bR.of ha0⟩,Z,Θ,env,C,r,e1,C',S,h1,λv H1 k f R=>?_⟩
      obtain⟨S1,r1⟩:=R.uN hd
      obtain⟨v1,ev1,a1,Wn,vs,ha1,r2⟩:=S1.slot i _ hi
      subst Wn;rw[rK] at ev1;cases ev1
      refine⟨a,vs,v,rfl,rfl,ha1,by rw[jo r2,iK];unfold f9 at hl;lia,?_⟩
      have w:fj X.K Z Θ e1 σ H1 Θ (e1.set i (aa (.ow (.list (ds++[d]))))) C' σ (upd H1 a (.lst (vs++[v]))):=S1.write hi rK ⟨_,dO,zA r2 ⟨v,[],rfl,r1,rfl⟩⟩;exact q Θ σ _ ((fj.rJ k f S1).trans w)
     .cases hf
    .cases hf
   .cases hf
  .cases hf
def nR{κ:Type}[DecidableEq κ](f:au->Option κ)(k:κ)(dk d:au)(kvs:List (au×au)):List (au×au):=
 if(kvs.any λp=>decide (f p.1=aa k))=ao then kvs.map (λp=>if f p.1=aa k then(p.1,d) else p) else kvs++[(dk,d)]
def putD(kvs:List (au×au))(dk d:au):Option (List (au×au)):=match cX dk with
 |some k=>if(cO cX kvs).isSome then aa (nR cX k dk d kvs) else aj
 |none=>match rA dk with
  |some ks=>if(cO rA kvs).isSome then aa (nR rA ks dk d kvs) else aj
  |none=>aj
theorem ab1[DecidableEq κ]:∀{kvs:List (au×au)}{ks:List κ}{vs:List V},cO f kvs=aa ks->jk E kvs vs->(kvs.any λp=>decide (f p.1=aa k))=((ks.zip vs).any λkv=>decide (kv.1=k))
 |[],ks,vs,h,r=>by
  cases h
  cases(show vs=[] from r)
  rfl
 |(p,d)::kvs,ks,vs,h,r=>by
  unfold cO at h;split at h
  .rename_i k' t h1 h2;cases h
   obtain⟨v,w,rfl,q,s⟩:=r
   show(decide (f p=aa k)||_)=(decide (k'=k)||_)
   rw[ab1 h2 s,h1];congr 1;rw[rO,decide_eq_true_iff,decide_eq_true_iff]
   exact⟨λe=>gP e,λe=>by rw[e]⟩
  .cases h
theorem ab2[DecidableEq κ](hv:RZ E d v):∀{kvs:List (au×au)}{ks:List κ}{vs:List V},cO f kvs=aa ks->jk E kvs vs->
  ∃vs',cO f (kvs.map λp=>if f p.1=aa k then(p.1,d) else p)=aa ks/\jk E (kvs.map λp=>if f p.1=aa k then(p.1,d) else p) vs'/\ks.zip vs'=(ks.zip vs).map λkv=>if kv.1=k then(kv.1,v) else kv
 |[],ks,vs,h,r=>by
  cases h
  exact⟨[],rfl,rfl,rfl⟩
 |(p,e)::kvs,ks,vs,h,r=>by
  unfold cO at h;split at h
  .rename_i k' t h1 h2;cases h
   obtain⟨u,w,rfl,q,s⟩:=r
   obtain⟨vs',g1,g2,g3⟩:=ab2 (k:=k) hv h2 s
   have h1':f p=aa k':=h1;by_cases ek:k'=k
   .subst ek
    refine⟨v::vs',?_,?_,?_⟩
    .rw[cJ];show cO f ((if f p=aa k' then(p,d) else(p,e))::_)=_;rw[bz h1'];unfold cO;rw[g1];simp only[h1']
    .rw[cJ];show jk E ((if f p=aa k' then(p,d) else(p,e))::_) _;rw[bz h1']
     exact⟨v,vs',rfl,hv,g2⟩
    .show(k',v)::t.zip vs'=(if k'=k' then(k',v) else(k',u))::_
     rw[bz rfl,g3];rfl
   .have ne:¬f p=aa k:=λz=>ek (gP (h1'.symm.trans z))
    refine⟨u::vs',?_,?_,?_⟩
    .rw[cJ];show cO f ((if f p=aa k then(p,d) else(p,e))::_)=_;rw[bH ne];unfold cO;rw[g1];simp only[h1']
    .rw[cJ];show jk E ((if f p=aa k then(p,d) else(p,e))::_) _;rw[bH ne]
     exact⟨u,vs',rfl,q,g2⟩
    .show(k',u)::t.zip vs'=(if k'=k then(k',v) else(k',u))::_
     rw[bH ek,g3];rfl
  .cases h
theorem aa1{κ:Type}{f:au->Option κ}{k:κ}{E:Hp}{dk d:au}{v:V}(hk:f dk=aa k)(hv:RZ E d v):∀{kvs:List (au×au)}{ks:List κ}{vs:List V},cO f kvs=aa ks->jk E kvs vs->
  cO f (kvs++[(dk,d)])=aa (ks++[k])/\jk E (kvs++[(dk,d)]) (vs++[v])/\(ks++[k]).zip (vs++[v])=ks.zip vs++[(k,v)]
 |[],ks,vs,h,r=>by
  cases h
  cases(show vs=[] from r)
  refine⟨?_,⟨v,[],rfl,hv,rfl⟩,rfl⟩
  show cO f [(dk,d)]=_;unfold cO cO;simp only[hk];rfl
 |(p,e)::kvs,ks,vs,h,r=>by
  unfold cO at h;split at h
  .rename_i k' t h1 h2;cases h
   obtain⟨u,w,rfl,q,s⟩:=r
   obtain⟨g1,g2,g3⟩:=aa1 hk hv h2 s
   refine⟨?_,⟨u,_,rfl,q,g2⟩,?_⟩
   .show cO f ((p,e)::(kvs++[(dk,d)]))=_;unfold cO;rw[g1];simp only[show f p=aa k' from h1];rfl
   .show(k',u)::(t++[k]).zip (w++[v])=_
    rw[g3];rfl
  .cases h
theorem Kz{κ:Type}[DecidableEq κ]{f:au->Option κ}{k:κ}{E:Hp}{dk d:au}{v:V}(hk:f dk=aa k)(hv:RZ E d v){kvs:List (au×au)}{ks:List κ}{vs:List V}(h:cO f kvs=aa ks)(r:jk E kvs vs):
  ∃ks' vs',cO f (nR f k dk d kvs)=aa ks'/\jk E (nR f k dk d kvs) vs'/\ks'.zip vs'=putK (ks.zip vs) k v:=by
 unfold nR putK;rw[ab1 h r];split
 .obtain⟨vs',g1,g2,g3⟩:=ab2 (k:=k) hv h r
  exact⟨ks,vs',g1,g2,g3⟩
 .obtain⟨g1,g2,g3⟩:=aa1 hk hv h r
  exact⟨_,_,g1,g2,g3⟩
theorem set_dict(hu:X.A.units+1<gj):vP X (λo i v H Q=>∃a H',o=.ref a/\tL H a i v H'/\Q H'):=by
 intro pins s σ H o i v ov iv u Q I ro ri rv h
 obtain⟨a,H',rfl,g,q⟩:=h
 cases ro;exact aag hu I g ri rv λs' I'=>⟨H',I',q⟩
theorem aiV(hu:X.A.units+1<gj):vP X (λo i v H Q=>∃(a b:aq)(ks:List Key),o=.ref a/\H a=aa (.dK [])/\i=.ref b/\H b=aa (.tup (ks.map kV))/\Q (upd H a (.dT [(ks,v)]))):=by
 intro pins s σ H o i v ov iv u Q I ro ri rv h
 obtain⟨a,b,ks,rfl,ha,rfl,hb,q⟩:=h
 cases ro;have hb':(upd H a (.dT [])) b=aa (.tup (ks.map kV)):=by rw[cV (Va hb ha (λz=>nomatch z))];exact hb
 refine aag hu (I.Hh ha) (tL.t (kvs:=[]) (k:=ks) (v:=v) dO hb' (by rw[iK];decide)) ri rv λs' I'=>⟨_,I',?_⟩
 rw[abA];exact q
theorem vP.or(h:vP X t)(h':vP X t'):vP X (λo i v H Q=>t o i v H Q\/t' o i v H Q):=by
 intro pins s σ H o i v ov iv u Q I ro ri rv q;rcases q with q|q
 .exact h pins s σ H o i v ov iv u Q I ro ri rv q
 .exact h' pins s σ H o i v ov iv u Q I ro ri rv q
theorem alk(hu:X.A.units+1<gj):vP X (λo i v H Q=>(Vh o i v H Q\/∃a H',o=.ref a/\tL H a i v H'/\Q H')\/∃(a b:aq)(ks:List Key),o=.ref a/\H a=aa (.dK [])/\i=.ref b/\H b=aa (.tup (ks.map kV))/\Q (upd H a (.dT [(ks,v)]))):=
 (set_list.or (set_dict hu)).or (aiV hu)
def rB:Option (Option Vl)->Bool
 |some (some _)=>ao
 |_=>aJ
theorem alm(h:rB x=ao):∃y,x=aa (aa y):=by
 unfold rB at h;split at h
 .exact⟨_,rfl⟩
 .cases h
def Dj(i:Nat)(d dk:au)(e:En)(C:Ce):Option Vl->Option (Fl×En×Ce)
 |some (.ow (.list ds))=>(intD dk).bind λz=>(oE ds.length z).bind λj=>aa (.nx,e.set i (aa (.ow (.list (ds.set j d)))),C)
 |some (.ow (.dict kvs))=>(putD kvs dk d).bind λkvs'=>bif decide (kvs.length<f9) then aa (.nx,e.set i (aa (.ow (.dict kvs'))),C) else aj
 |some (.ce n)=>(intD dk).bind λz=>(intD d).bind λy=>(C[n]?).bind λns=>(oE ns.length z).bind λj=>aa (.nx,e,C.set n (ns.set j y))
 |_=>aj
def o9(i:Nat)(fk:FB)(fe:FE):FS:=λenv C=>(fe env C).bind λp=>(tY (still p.1)).bind λd=>(fk p.2.1 p.2.2).bind λk=>bif rB p.2.1[i]? then(k.2.1[i]?).bind (Dj i d k.1 k.2.1 k.2.2) else aj
def Gj(o i v:V)(H:Hp)(Q:Hp->Prop):Prop:=(Vh o i v H Q\/∃a H',o=.ref a/\tL H a i v H'/\Q H')\/∃(a b:aq)(ks:List Key),o=.ref a/\H a=aa (.dK [])/\i=.ref b/\H b=aa (.tup (ks.map kV))/\Q (upd H a (.dT [(ks,v)]))
section
variable{K:aM}{Z Θ:List aq}{e2:En}{C2:Ce}{σ:St}{H2:Hp}{i:Nat}{d dk:au}{v w:V}{a:aq}{R:Hp->Prop}{p:Fl×En×Ce}
theorem ajW(S2:Sm K Z Θ e2 C2 σ H2)(eu:σ[i]?=aa (aa (.ref a)))(hi:e2[i]?=aa (aa (.ow (.list ds))))(rt:jQ (er (bf Z Θ e2 σ) H2) H2 a (.list ds))(r2:RZ (er (bf Z Θ e2 σ) H2) d v)(b2:gw Z Θ e2 σ H2 dk w)(hf:Dj i d dk e2 C2 (aa (.ow (.list ds)))=aa p):
  p.1=.nx/\((∀Hx,fj K Z Θ e2 σ H2 Θ p.2.1 p.2.2 σ Hx->R Hx)->Gj (.ref a) w v H2 R):=by
 obtain⟨z,hz,hf⟩:=jz hf
 obtain⟨j,hj,hf⟩:=jz hf
 cases hf;have hz:=Kw hz;subst hz
 obtain⟨vs,ha,r3⟩:=rt
 have b2:w=.int z:=b2;subst b2
 exact⟨rfl,λq=>.inl (.inl ⟨a,vs,z,j,rfl,rfl,ha,by rw[jo r3];exact hj,q _ (S2.write hi eu ⟨_,dO,abV r2 j r3⟩)⟩)⟩
theorem ab3(kvs:List (au×au)):nR rA Wo dk d kvs≠[]:=λz=>by
 unfold nR at z;split at z
 .rename_i hz;cases kvs with
  |nil=>cases hz
  |cons _ _=>cases z
 .cases kvs<;>cases z
theorem ajX{kvs:List (au×au)}(S2:Sm K Z Θ e2 C2 σ H2)(eu:σ[i]?=aa (aa (.ref a)))(hi:e2[i]?=aa (aa (.ow (.dict kvs))))(rt:jQ (er (bf Z Θ e2 σ) H2) H2 a (.dict kvs))(r2:RZ (er (bf Z Θ e2 σ) H2) d v)(b2:gw Z Θ e2 σ H2 dk w)(hf:Dj i d dk e2 C2 (aa (.ow (.dict kvs)))=aa p):
  p.1=.nx/\((∀Hx,fj K Z Θ e2 σ H2 Θ p.2.1 p.2.2 σ Hx->R Hx)->Gj (.ref a) w v H2 R):=by
 refine hide λGG gg=>?_
 obtain⟨kvs',hp,hf⟩:=jz hf
 cases hl:decide (kvs.length<f9) with
 |false=>rw[hl] at hf;cases hf
 |true=>
 rw[hl] at hf;cases hf;have hl:=of_decide_eq_true hl;have hl':∀{κ:Type}(ks:List κ)(vs:List V),ks.length=kvs.length->(ks.zip vs).length<cu:=λks vs e=>by
  rw[Ot,iK,e];unfold f9 at hl;lia
 obtain⟨vs,da,r3⟩:=rt
 unfold putD at hp;split at hp
 .rename_i k hk;split at hp
  case isFalse=>cases hp
  rename_i hs';cases hp;have wk:w=kV k:=by
   cases dk<;>first|(cases hk;exact b2)|cases hk
  rcases da with⟨ks,g1,ha⟩|⟨ks,⟨ne,g2⟩,ha⟩
  .obtain⟨ks',vs',g3,g4,g5⟩:=Kz hk r2 g1 r3
   subst wk;exact gg ⟨rfl,λq=>.inl (.inr ⟨a,_,rfl,tL.k (k:=k) (v:=v) ha (hl' ks vs (uz g1)),q _ (S2.write hi eu ⟨vs',.inl ⟨ks',g3,by rw[g5];exact dO⟩,g4⟩)⟩)⟩
  .obtain⟨ao8,g1⟩:=wG.mp hs'
   exact absurd (vA g1 g2) ne
 .split at hp
  case h_2=>cases hp
  rename_i Wo hks;split at hp
  case isFalse=>cases hp
  rename_i hs';cases hp
  obtain⟨b,hb,rfl⟩:∃b,H2 b=aa (.tup (Wo.map kV))/\w=.ref b:=by
   cases dk<;>first|cases hks|skip
   obtain⟨b,ws,rfl,hb,rr⟩:=b2.tup
   rw[xr hks rr] at hb
   exact⟨b,hb,rfl⟩
  rcases da with⟨ks,g1,ha⟩|⟨ks,⟨ne,g1⟩,ha⟩
  .obtain⟨ao8,g2⟩:=wG.mp hs'
   have e0:=vA g1 g2;subst e0;cases g1;have e0:vs=[]:=r3;subst e0
   obtain⟨ks',vs',g3,g4,g5⟩:=Kz (kvs:=[]) (vs:=[]) (ks:=[]) hks r2 rfl rfl
   exact gg ⟨rfl,λq=>.inr ⟨a,b,Wo,rfl,ha,rfl,hb,q _ (S2.write hi eu ⟨vs',.inr ⟨ks',⟨ab3 [],g3⟩,by rw[g5];exact dO⟩,g4⟩)⟩⟩
  .obtain⟨ks',vs',g3,g4,g5⟩:=Kz hks r2 g1 r3
   exact gg ⟨rfl,λq=>.inl (.inr ⟨a,_,rfl,tL.t ha hb (hl' ks vs (uz g1)),q _ (S2.write hi eu ⟨vs',.inr ⟨ks',⟨ab3 kvs,g3⟩,by rw[g5];exact dO⟩,g4⟩)⟩)⟩
theorem ajY(S2:Sm K Z Θ e2 C2 σ H2)(hth:Θ[n]?=aa a)(r2:RZ (er (bf Z Θ e2 σ) H2) d v)(b2:gw Z Θ e2 σ H2 dk w)(hf:Dj i d dk e2 C2 (aa (.ce n))=aa p):
  p.1=.nx/\((∀Hx,fj K Z Θ e2 σ H2 Θ p.2.1 p.2.2 σ Hx->R Hx)->Gj (.ref a) w v H2 R):=by
 refine hide λGG gg=>?_
 obtain⟨z,hz,hf⟩:=jz hf
 obtain⟨y,hy,hf⟩:=jz hf
 obtain⟨ns,hns,hf⟩:=jz hf
 obtain⟨j,hj,hf⟩:=jz hf
 cases hf;have hz:=Kw hz;have hy:=Kw hy;subst hz hy;have b2:w=.int z:=b2;have ev:v=.int y:=r2;subst ev b2;have ha:=S2.cell.at_ n a ns hth hns;have am:a∈Θ:=p7 hth;refine gg ⟨rfl,λq=>.inl (.inl ⟨a,_,z,j,rfl,rfl,ha,by rw[bw];exact hj,q _ ?_⟩)⟩;have kc:aZ Θ H2 (upd H2 a (.lst ((ns.map V.int).set j (.int y)))):=⟨λb o hb nb=>by rw[cV (λzz=>nb (by rw[zz];exact am))];exact hb,λb hb=>by
  by_cases zz:b=a
  .subst zz;rw[dO];exact wM _
  .rw[cV zz];exact hb⟩
 refine fj.rJ kc (Fz.refl _) (S2.go kc ⟨by rw[wQ];exact S2.cell.len,λm b ms h5 h6=>?_⟩);rcases get_set h6 with⟨rfl,e6,_⟩|⟨nm,h6⟩
 .rw[hth] at h5;cases h5;cases e6;rw[dO,List.map_set]
 .rw[cV]
  .exact S2.cell.at_ m b ms h5 h6
  .intro zz;subst zz
   obtain⟨l1,l1'⟩:=jH.mp h5
   obtain⟨l2,l2'⟩:=jH.mp hth
   rcases af5 m n with hlt|heq|hgt
   .exact HQ.mp S2.dY.2.1 m n l1 l2 hlt (l1'.trans l2'.symm)
   .exact nm heq
   .exact HQ.mp S2.dY.2.1 n m l2 l1 hgt (l2'.trans l1'.symm)
theorem aln(S2:Sm K Z Θ e2 C2 σ H2)(eu:σ[i]?=aa (aa u))(hi:e2[i]?=aa s)(r2:RZ (er (bf Z Θ e2 σ) H2) d v)(b2:gw Z Θ e2 σ H2 dk w)(hf:Dj i d dk e2 C2 s=aa p):
  p.1=.nx/\((∀Hx,fj K Z Θ e2 σ H2 Θ p.2.1 p.2.2 σ Hx->R Hx)->Gj u w v H2 R):=by
 cases s with
 |none=>cases hf
 |some s=>
 obtain⟨u',eu',sl⟩:=S2.slot i _ hi
 rw[eu] at eu';cases eu';cases s with
 |im _=>cases hf
 |sc _=>cases hf
 |tp=>cases hf
 |ce n=>
  obtain⟨a,rfl,hth⟩:=sl
  exact ajY S2 hth r2 b2 hf
 |ow x=>
  obtain⟨a,rfl,rt⟩:=sl
  cases x<;>first|exact ajW S2 eu hi rt r2 b2 hf|exact ajX S2 eu hi rt r2 b2 hf|cases hf
end
theorem Cp(hu:X.A.units+1<gj)(ho:PE X o (qF i))(hk:PE X k (eZ X.K fk))(he:PE X e (tE X.K fe))
  (ha:∀v,assign (.Subscript o k p) X.env v=(do
   let ov <-qX [v] (eval o X.env)
   let iv <-qX [v,ov] (eval k X.env)
   uC p
   qX [v,ov,iv] (setItem ov iv v)
   release [v,ov,iv] []):=by intro _;rfl)
  (hs:wX [.Subscript o k p] e pos.line X.env=pure aJ:=by rfl)(hw:wY [.Subscript o k p] e X.env=pure aj:=by rfl)(h1:(rT [.Subscript o k p] X.env).map (·.2)=[assign (.Subscript o k p) X.env]:=by rfl):
  PS X (.Assign [.Subscript o k p] e pos) (tS X.K (o9 i fk fe)):=(K5 he (amm (t:=Gj) ho hk (alk hu) ha) hs hw h1).weak λD σ H aP=>by
 obtain⟨Z,Θ,env,C,fl,env',C',S,hf,q⟩:=aP
 obtain⟨p,h1,hf⟩:=jz hf
 obtain⟨d,hd,hf⟩:=jz hf
 obtain⟨kp,h2,hf⟩:=jz hf
 cases h3:rB p.2.1[i]? with
 |false=>rw[h3] at hf;cases hf
 |true=>
 rw[h3] at hf
 obtain⟨s,hi,hf⟩:=jz hf
 obtain⟨y3,h3⟩:=alm h3
 refine⟨Z,Θ,env,C,p.1,p.2.1,p.2.2,S,h1,λv H1 k1 f1 R1=>?_⟩
 obtain⟨S1,r1⟩:=R1.uN (FQ hd)
 obtain⟨u,eu,_⟩:=S1.slot i _ h3
 refine⟨u,eu,Z,Θ,p.2.1,p.2.2,kp.1,kp.2.1,kp.2.2,S1,h2,λw H2 k2 f2 S2 b2=>?_⟩
 obtain⟨e0,go⟩:=aln (R:=λHx=>D.nx σ Hx) S2 eu hi (r1.same (Vj S1 k2 f2)) b2 hf
 have e0:fl=.nx:=e0;subst e0;exact go λHx st=>q Θ σ _ ((fj.rJ (k1.trans k2) (f1.trans f2) S2).trans st)
end
def intsOf:List au->Option (List Int)
 |[]=>aa []
 |.int i::r=>match intsOf r with
  |some t=>aa (i::t)
  |none=>aj
 |_=>aj
theorem RK:∀{ds:List au}{ns:List Int}{vs:List V},intsOf ds=aa ns->cA E ds vs->vs=ns.map V.int
 |[],ns,vs,h,r=>by cases h;exact r
 |.int i::ds,ns,vs,h,r=>by
  unfold intsOf at h;split at h
  .rename_i t ht;cases h
   obtain⟨u,w,rfl,q,s⟩:=r
   rw[RK ht s];have:u=.int i:=q;rw[this];rfl
  .cases h
 |.none::_,_,_,h,_=>by cases h
 |.bool _::_,_,_,h,_=>by cases h
 |.str _::_,_,_,h,_=>by cases h
 |.list _::_,_,_,h,_=>by cases h
 |.tuple _::_,_,_,h,_=>by cases h
 |.dict _::_,_,_,h,_=>by cases h
def GC(i:Nat)(f:FE):FS:=λenv C=>match f env C with
 |some (.ow (.list ds),e1,C1)=>match intsOf ds with
  |some ns=>aa (.nx,e1.set i (aa (.ce C1.length)),C1++[ns])
  |none=>aj
 |_=>aj
section
variable{X:Cx}{pos:Pos}
theorem ajZ{K:aM}{i:Nat}{f:FE}:∀D σ H,tS K (GC i f) D σ H->Df (tE K f) (xR i) D σ H:=by
 rintro D σ H ⟨Z,Θ,env,C,fl,env',C',S,hf,q⟩;unfold GC at hf;split at hf
 .rename_i ds e1 C1 h1;split at hf
  .rename_i ns hns;cases hf
   refine⟨Z,Θ,env,C,_,e1,C1,S,h1,λv H1 k f R=>?_⟩
   obtain⟨a,rfl,hn,S1,vs,ha,r⟩:=R
   have ev:=RK hns r;subst ev;have dY:=S1.dY;have Hi:=jD.mp dY.1;have cl:=S1.cell.len;have c':pP (Θ++[a]) (C1++[ns]) H1:=by
    refine⟨by rw[gb,gb,cl];rfl,λm b ms h5 h6=>?_⟩
    by_cases hm:m<Θ.length
    .rw[p6 hm] at h5;rw[p6 (by rw[cl];exact hm)] at h6;exact S1.cell.at_ m b ms h5 h6
    .rw[pF (by lia)] at h5;rw[pF (by lia)] at h6;rw[cl] at h6;cases hm0:m-Θ.length with
     |zero=>rw[hm0] at h5 h6;cases h5;cases h6;exact ha
     |succ j=>rw[hm0] at h5;simp at h5
   have o1:∀b∈bU (e1.set i (aa (.ce C1.length))) (σ.set i (aa (.ref a))),b∈bU e1 σ:=λb m=>by
    rcases xM m with m|⟨⟨_,z⟩,_⟩
    .exact m
    .cases z
   have S2:Sm K Z (Θ++[a]) e1 (C1++[ns]) σ H1:=by
    have mm:∀b,b∈bf Z (Θ++[a]) e1 σ↔b∈bf (a::Z) Θ e1 σ:=λb=>by
     rw[jN,jN,dB,iY,cB];constructor
     .rintro(h|(h|h)|h)
      .exact .inl (.inr h)
      .exact .inr (.inl h)
      .exact .inl (.inl h)
      .exact .inr (.inr h)
     .rintro((h|h)|h|h)
      .exact .inr (.inl (.inr h))
      .exact .inl h
      .exact .inr (.inl (.inl h))
      .exact .inr (.inr h)
    refine⟨S1.len,Af Hi.2 ?_ dY.2.2.1 (λb m=>?_) λb m=>?_,λb m=>S1.dom b (fP _ m),λj x e=>?_,c'⟩
    .rw[kY]
     exact⟨dY.2.1,jD.mpr ⟨by simp,nZ⟩,λb m c m' e=>by
      rw[iY] at m';subst e m';exact dY.2.2.2 b dN m⟩
    .intro m';rcases dB.mp m' with m'|m'
     .exact dY.2.2.2 b (fP _ m) m'
     .rw[iY.mp m'] at m;exact Hi.1 m
    .obtain⟨p1,p2⟩:=S1.oR m
     refine⟨λz=>p1 (fP _ z),λm'=>?_⟩
     rcases dB.mp m' with m'|m'
     .exact p2 m'
     .rw[iY.mp m'] at p1;exact p1 dN
    .obtain⟨v,e3,r3⟩:=S1.slot j x e
     rw[qw mm]
     refine⟨v,e3,?_⟩
     cases x with
     |im d=>exact r3
     |ow d=>exact r3
     |ce n=>
      obtain⟨b,e5,e6⟩:=r3
      exact⟨b,e5,by rw[p6 (jH.mp e6).1];exact e6⟩
     |sc ns=>exact r3
     |tp=>exact r3
   have S3:Sm K Z (Θ++[a]) (e1.set i (aa (.ce C1.length))) (C1++[ns]) (σ.set i (aa (.ref a))) H1:=
    S2.zZ (λ_ z=>nomatch z) ⟨a,rfl,by rw[cl,pF (cg _),PK];rfl⟩
   exact q (Θ++[a]) _ H1 ⟨⟨[a],rfl,λb m=>by rw[iY.mp m];exact hn⟩,sy k,λb m=>.inl (f.own.subset (o1 b m)),S3⟩
  .cases hf
 .cases hf
theorem am2(hN:X.N.Nodup)(hi:X.N[i]?=aa x)(hx:Loc X.env.scope x)(he:PE X e (tE X.K f))(hs:ux e (aa (.Name x pos')) pos.line X.env=pure aJ:=by rfl)(hf:X.fn x=ao\/X.env.scope.names.lookup x=aa .local:=by first|exact .inl rfl|exact .inr rfl|assumption):
  PS X (.Assign [.Name x pos'] e pos) (tS X.K (GC i f)):=(acw hN hi hx he hs hf).weak ajZ
def Mq(i:Nat)(f:FB):FS:=λenv C=>match env[i]? with
 |some (some (.im (.int x)))=>match f env C with
  |some (.int y,_,C1)=>aa (.nx,env.set i (aa (.im (.int (x+y)))),C1)
  |_=>aj
 |_=>aj
theorem am3(hN:X.N.Nodup)(hi:X.N[i]?=aa x)(hx:Loc X.env.scope x)(he:PE X e (eZ X.K f))(hf:X.fn x=ao\/X.env.scope.names.lookup x=aa .local:=by first|exact .inl rfl|exact .inr rfl|assumption):
  PS X (.AugAssign (.Name x pos') .Add e pos) (tS X.K (Mq i f)):=(amo hN hi hx he amq hf).weak λD σ H aP=>by
 obtain⟨Z,Θ,env,C,fl,env',C',S,hf,q⟩:=aP
 unfold Mq at hf;split at hf
 .rename_i z h0;split at hf
  .rename_i y e1 C1 h1;cases hf
   obtain⟨v,ev,r⟩:=S.slot i _ h0
   refine⟨v,ev,Z,Θ,env,C,_,e1,C',S,h1,λw H1 k f S1 b1=>⟨z,y,r,b1,?_⟩⟩
   have S2:=S.go k S1.cell;refine q Θ _ H1 ⟨jZ.refl _ _,sy k,λa m=>?_,S2.zZ (λ_ z=>nomatch z) (rfl:RZ _ (.int (z+y)) _)⟩;rcases xM m with m|⟨⟨_,z⟩,_⟩
   .exact .inl m
   .cases z
  .cases hf
 .cases hf
end
def jU(c:FT)(body:FS):Nat->FS
 |0=>λ_ _=>aj
 |n+1=>λenv C=>match c env C with
  |some (false,C1)=>aa (.nx,env,C1)
  |some (true,C1)=>match body env C1 with
   |some (.nx,e2,C2)=>jU c body n e2 C2
   |some (.ct,e2,C2)=>jU c body n e2 C2
   |some (.bk,e2,C2)=>aa (.nx,e2,C2)
   |some (.rt r,e2,C2)=>aa (.rt r,e2,C2)
   |none=>aj
  |none=>aj
def CQ:Nat:=100000
def uc(c:FT)(body:FS):FS:=jU c body CQ
theorem ah2{K:aM}{c:FT}{body:FS}{n:Nat}:∀D σ H,tS K (jU c body n) D σ H->acy (gm K c) (tS K body) D σ H:=by
 rintro D σ H ⟨Z,Θ,env,C,fl,env',C',S,hf,q⟩
 refine⟨λm σ1 H1=>∃Θ1 e1 C1,fj K Z Θ env σ H Θ1 e1 C1 σ1 H1/\jU c body m e1 C1=aa (fl,env',C'),⟨n,Θ,env,C,fj.same S,hf⟩,?_⟩
 rintro m σ1 H1 ⟨Θ1,e1,C1,p,hf⟩;cases m with
 |zero=>cases hf
 |succ m=>
  unfold jU at hf;split at hf
  .rename_i C2 h1;cases hf
   exact⟨Z,Θ1,env',C1,aJ,C',p.sm,h1,λH2 k2 S2=>ym (q Θ1 σ1 H2 (p.trans (fj.rJ k2 (Fz.refl _) S2)))⟩
  .rename_i C2 h1
   refine⟨Z,Θ1,e1,C1,ao,C2,p.sm,h1,λH2 k2 S2=>yo ⟨λσ' H'=>∃Θ1 e1 C1,fj K Z Θ env σ H Θ1 e1 C1 σ' H'/\jU c body m e1 C1=aa (fl,env',C'),λσ' H' h=>⟨m,Yb m,h⟩,?_⟩⟩
   have p2:=p.trans (fj.rJ k2 (Fz.refl _) S2);split at hf
   .rename_i e3 C3 h2
    exact⟨Z,Θ1,e1,C2,.nx,e3,C3,S2,h2,λΘ3 σ3 H3 p3=>⟨Θ3,e3,C3,p2.trans p3,hf⟩⟩
   .rename_i e3 C3 h2
    exact⟨Z,Θ1,e1,C2,.ct,e3,C3,S2,h2,λΘ3 σ3 H3 p3=>⟨Θ3,e3,C3,p2.trans p3,hf⟩⟩
   .rename_i e3 C3 h2;cases hf
    exact⟨Z,Θ1,e1,C2,.bk,env',C',S2,h2,λΘ3 σ3 H3 p3=>q Θ3 σ3 H3 (p2.trans p3)⟩
   .rename_i r e3 C3 h2;cases hf
    exact⟨Z,Θ1,e1,C2,.rt r,env',C',S2,h2,λΘ3 v H3 p3=>q Θ3 v H3 (p2.ret p3)⟩
   .cases hf
  .cases hf
theorem Es(hp:QS (model X.prog X.w) X.A X.env X.xe)(hc:PT X c (gm X.K t))(hb:jG X body (tS X.K f)):PS X (.While c body [] pos) (tS X.K (uc t f)):=(ajr hp hc hb).weak ah2
abbrev FI:=En->Ce->Option (List au×En×Ce)
def yu(P T:List aq)(H:Hp)(J:It)(its:List au):Prop:=∀(i:Nat)(H2:Hp)(P2:List aq),bN (er P H) (er P2 H2)->bN (er T H) (er T H2)->(∀a∈P2,H2 a≠aj)->
 (∀d,its[i]?=aa d->J.go i H2/\∀x H3,J.yC i H2 x H3->bN H2 H3/\RZ (er P2 H3) d x)/\(i=its.length->J.stop i H2)
inductive tI(K:aM)(b:Bool)(f:FI)(σ:St)(H:Hp)(R:It->Hp->Prop):Prop
 |mk (Z Θ:List aq) (env:En) (C:Ce) (its:List au) (env':En) (C':Ce) (S:Sm K Z Θ env C σ H) (hf:f env C=aa (its,env',C')) (q:∀J H',aZ Θ H H'->Fz env env'->Sm K Z Θ env' C' σ H'->yu (bf Z Θ env' σ) (if b then Θ else bf Z Θ env' σ) H' J its->R J H'):tI K b f σ H R
theorem PI.weak(h:PI X tg e t)(w:∀σ H Q,t' σ H Q->t σ H Q):PI X tg e t':=λpins s σ H Q I q=>h pins s σ H Q I (w σ H Q q)
theorem PI.or(h:PI X tg e t)(h':PI X tg e t'):PI X tg e (λσ H R=>t σ H R\/t' σ H R):=λpins s σ H R I q=>q.elim (h pins s σ H R I) (h' pins s σ H R I)
section
variable{K:aM}{P T:List aq}{H:Hp}{a:aq}{ds:List au}{vs:List V}
theorem Tt(ha:er T H a=aa (.lst vs))(r:cA (er P H) ds vs):yu P T H (V7 K a) ds:=λi H2 P2 s1 s2 n=>by
 have h2:bR K H2 a vs:=bR.of (jn (s2 _ _ ha))
 refine⟨λd hd=>?_,λhi=>⟨vs,h2,by rw[jo r,hi];exact cg _⟩⟩
 obtain⟨v,ev,rv⟩:=vG r hd
 refine⟨⟨vs,v,h2,ev⟩,λx H3 y=>?_⟩
 obtain⟨rfl,y⟩:=y
 have:=y vs h2;rw[ev] at this;cases this
 exact⟨bN.refl _,rv.same s1⟩
theorem Uw(ha:er P H a=aa (.tup vs))(r:cA (er P H) ds vs):yu P T H (V8 K a) ds:=λi H2 P2 s1 s2 n=>by
 have h2:dj K H2 a vs:=dj.of (jn (s1 _ _ ha))
 refine⟨λd hd=>?_,λhi=>⟨vs,h2,by rw[jo r,hi];exact cg _⟩⟩
 obtain⟨v,ev,rv⟩:=vG r hd
 refine⟨⟨vs,v,h2,ev⟩,λx H3 y=>?_⟩
 obtain⟨rfl,y⟩:=y
 have:=y vs h2;rw[ev] at this;cases this
 exact⟨bN.refl _,rv.same s1⟩
def chars(z:Str):List au:=z.cps.toList.map λc=>.str ⟨#[c]⟩
theorem acP(z:Str):yu P T H (Wh z) (chars z):=λi H2 P2 s1 s2 n=>by
 refine⟨λd hd=>?_,λhi=>?_⟩
 .unfold chars at hd;rw[iJ] at hd;cases hc:z.cps.toList[i]? with
  |none=>rw[hc] at hd;cases hd
  |some c=>
   rw[hc] at hd;cases hd;have hc':z.cps[i]?=aa c:=by rw[<-Ak];exact hc
   have hlt:i<z.cps.size:=by
    obtain⟨h,_⟩:=Array.getElem?_eq_some_iff.mp hc'
    exact h
   refine⟨hlt,λx H3 y=>?_⟩
   obtain⟨rfl,c',ec,rfl⟩:=y
   rw[hc'] at ec;cases ec
   exact⟨bN.refl _,rfl⟩
 .show z.cps.size<=i;rw[hi];unfold chars;rw[bw,j5];exact cg _
def jt(lo:Int)(n:Nat):List au:=(fB n).map λ(k:Nat)=>.int (lo+(k:Int))
theorem aa2(lo:Int)(n:Nat):yu P T H (G4 lo n) (jt lo n):=λi H2 P2 s1 s2 nn=>by
 refine⟨λd hd=>?_,λhi=>?_⟩
 .unfold jt at hd;rw[iJ] at hd;by_cases hlt:i<n
  .rw[Xq hlt] at hd;cases hd
   refine⟨hlt,λx H3 y=>?_⟩
   obtain⟨rfl,rfl⟩:=y
   exact⟨bN.refl _,rfl⟩
  .rw[Al (by rw[lZ];lia)] at hd;cases hd
 .show n<=i;rw[hi];unfold jt;rw[bw,lZ];exact cg _
end
def Wq:au->Option (List au)
 |.list ds=>aa ds
 |.tuple ds=>aa ds
 |.str z=>aa (chars z)
 |_=>aj
def iB(f:FB):FI:=λenv C=>match f env C with
 |some (d,e1,C1)=>match Wq d with
  |some its=>aa (its,e1,C1)
  |none=>aj
 |none=>aj
def iV(f:FE):FI:=λenv C=>match f env C with
 |some (r,e1,C1)=>match still r with
  |.im d=>match Wq d with
   |some its=>aa (its,e1,C1)
   |none=>aj
  |_=>aj
 |none=>aj
def ju(f:FB):FI:=λenv C=>match f env C with
 |some (.int j,_,C1)=>if -(2^62)<=j/\j<2^62 then aa (jt 0 j.toNat,env,C1) else aj
 |_=>aj
section
variable{X:Cx}{tg e:Expr}
theorem GD(h:PE X e (eZ X.K f))(hgo:∀i u,yU tg i u=pure ():=by intro _ _;rfl):PI X tg e (tI X.K ao (iB f)):=(((S7 h).or (Ui h)).or (acE h hgo)).weak λσ H R aP=>by
 obtain⟨Z,Θ,env,C,its,env',C',S,hf,q⟩:=aP
 unfold iB at hf;split at hf
 .rename_i d e1 C1 h1;split at hf
  .rename_i ys hi;cases hf;cases d<;>first|cases hi|skip
   .refine .inr ⟨Z,Θ,env,C,_,env',C',S,h1,λv H1 k f S1 b=>⟨_,b,q _ H1 k f S1 (acP _)⟩⟩
   .refine .inl (.inl ⟨Z,Θ,env,C,_,env',C',S,h1,λv H1 k f S1 b=>?_⟩)
    obtain⟨a,vs,rfl,ha,r⟩:=b
    exact⟨a,rfl,⟨vs,bR.of (jn ha)⟩,q _ H1 k f S1 (Tt ha r)⟩
   .refine .inl (.inr ⟨Z,Θ,env,C,_,env',C',S,h1,λv H1 k f S1 b=>?_⟩)
    obtain⟨a,vs,rfl,ha,r⟩:=b
    exact⟨a,rfl,⟨vs,dj.of (jn ha)⟩,q _ H1 k f S1 (Uw ha r)⟩
  .cases hf
 .cases hf
theorem z6(h:PE X e (tE X.K f))(hgo:∀i u,yU tg i u=pure ():=by intro _ _;rfl):PI X tg e (tI X.K aJ (iV f)):=(((S7 h).or (Ui h)).or (acE h hgo)).weak λσ H R aP=>by
 obtain⟨Z,Θ,env,C,its,env',C',S,hf,q⟩:=aP
 unfold iV at hf;split at hf
 .rename_i r e1 C1 h1;split at hf
  .rename_i d hd;split at hf
   .rename_i ys hi;cases hf;cases d<;>first|cases hi|skip
    .refine .inr ⟨Z,Θ,env,C,_,env',C',S,h1,λv H1 k f R=>?_⟩
     obtain⟨S1,b⟩:=R.uN hd
     exact⟨_,b,q _ H1 k f S1 (acP _)⟩
    .refine .inl (.inl ⟨Z,Θ,env,C,_,env',C',S,h1,λv H1 k f R=>?_⟩)
     obtain⟨S1,a,vs,rfl,ha,r⟩:=R.uN hd
     exact⟨a,rfl,⟨vs,bR.of (jn ha)⟩,q _ H1 k f S1 (Tt ha r)⟩
    .refine .inl (.inr ⟨Z,Θ,env,C,_,env',C',S,h1,λv H1 k f R=>?_⟩)
     obtain⟨S1,a,vs,rfl,ha,r⟩:=R.uN hd
     exact⟨a,rfl,⟨vs,dj.of (jn ha)⟩,q _ H1 k f S1 (Uw ha r)⟩
   .cases hf
  .cases hf
 .cases hf
theorem uA(hg:Gl X "range")(hm:X.mg "range"=aj)(ha:PE X a (eZ X.K f))(hs:bJ [a] X.env=(aJ,eval a X.env)::bJ [] X.env:=by rfl)(hs':bJ [a] X.env=[(aJ,eval a X.env)]:=by rfl):PI X tg (.Call (.Name "range" p) [a] [] pos) (tI X.K b (ju f)):=
 (air hg hm (eX ha gn hs) hs').weak λσ H R aP=>by
  obtain⟨Z,Θ,env,C,its,env',C',S,hf,q⟩:=aP
  unfold ju at hf;split at hf
  .rename_i j e1 C1 h1;split at hf
   .rename_i hj;cases hf
    refine⟨Z,Θ,env,C,[.int j],e1,C',S,by unfold dJ fQ;rw[h1],λvs H1 k f S1 b1=>?_⟩
    cases b1 with
    |cons b1 b2=>
     cases b2
     exact⟨j,by rw[show _=V.int j from b1],hj.1,hj.2,q _ H1 k (Fz.refl _) (S.go k S1.cell) (aa2 0 j.toNat)⟩
   .cases hf
  .cases hf
end
def jf(g:FG)(body:FS):List au->FS
 |[]=>λenv C=>aa (.nx,env,C)
 |d::r=>λenv C=>match g d env with
  |some e1=>match body e1 C with
   |some (.nx,e2,C2)=>jf g body r e2 C2
   |some (.ct,e2,C2)=>jf g body r e2 C2
   |some (.bk,e2,C2)=>aa (.nx,e2,C2)
   |some (.rt v,e2,C2)=>aa (.rt v,e2,C2)
   |none=>aj
  |none=>aj
def iT(fi:FI)(g:FG)(body:FS):FS:=λenv C=>match fi env C with
 |some (its,e1,C1)=>jf g body its e1 C1
 |none=>aj
theorem fj.er{K:aM}{Z Θ Θ1:List aq}{env e1:En}{C1:Ce}{σ σ1:St}{H H1:Hp}(p:fj K Z Θ env σ H Θ1 e1 C1 σ1 H1):bN (er (bf Z Θ env σ) H) (er (bf Z Θ1 e1 σ1) H1):=λb o h=>by
 unfold L2.er at h⊢;split at h
 .cases h
 .rename_i n;have hb:H b≠aj:=by rw[h];exact wM _
  rw[bH]
  .refine p.kp.keep b o h λm=>n ?_
   rcases dB.mp m with m|m
   .exact jN.mpr (.inr (.inl m))
   .exact jN.mpr (.inr (.inr m))
  .intro m;rcases jN.mp m with m|m|m
   .exact n (jN.mpr (.inl m))
   .obtain⟨Δ,e,hn⟩:=p.th.ex
    rw[e] at m;rcases dB.mp m with m|m
    .exact n (jN.mpr (.inr (.inl m)))
    .exact hb (hn b m)
   .rcases p.own b m with m|m
    .exact n (jN.mpr (.inr (.inr m)))
    .exact hb m
theorem alo(s:bN (er P H) (er P2 H2)):bN (er P H) (er P H2):=λb o h=>by
 have h2:=jn (s b o h);unfold er at h⊢;split at h
 .cases h
 .rename_i n;rw[bH n];exact h2
theorem aj0{K:aM}{fi:FI}{g:TG}{fg:FG}{body:FS}(L:Ds K g fg):∀D σ H,tS K (iT fi fg body) D σ H->adO (tI K aJ fi) g (tS K body) D σ H:=by
 rintro D σ H ⟨Z,Θ,env,C,fl,env',C',S,hf,q⟩;unfold iT at hf;split at hf
 .rename_i its e1 C1 h1
  refine⟨Z,Θ,env,C,its,e1,C1,S,h1,λJ H1 k1 f1 S1 it=>?_⟩
  have p1:=fj.rJ k1 f1 S1
  refine⟨λi m σ2 H2=>m=its.length-i/\i<=its.length/\∃Θ2 e2 C2,fj K Z Θ e1 σ H1 Θ2 e2 C2 σ2 H2/\jf fg body (its.drop i) e2 C2=aa (fl,env',C'),⟨its.length,rfl,m9 _,Θ,e1,C1,fj.same S1,hf⟩,?_⟩
  rintro i m σ2 H2 ⟨rfl,hi,Θ2,e2,C2,p2,hl⟩
  obtain⟨Wr,Ws⟩:=it i H2 (bf Z Θ2 e2 σ2) p2.er (alo p2.er) p2.sm.zW
  cases hd:its[i]? with
  |none=>
   have hi2:i=its.length:=by
    have:=W8.mp hd;lia
   rw[hi2,agl] at hl;cases hl;exact .inl ⟨Ws hi2,q Θ2 σ2 H2 (p1.trans p2)⟩
  |some d=>
   have hlt:i<its.length:=(jH.mp hd).1;have ed:its.drop i=d::its.drop (i+1):=by
    rw[afa hlt]
    obtain⟨_,e⟩:=jH.mp hd
    rw[e]
   rw[ed] at hl;unfold jf at hl
   obtain⟨go,yl⟩:=Wr d hd
   refine .inr ⟨go,λσ' H'=>∃Θ2 e2 C2,fj K Z Θ e1 σ H1 Θ2 e2 C2 σ' H'/\jf fg body (its.drop (i+1)) e2 C2=aa (fl,env',C'),λσ' H' h=>⟨its.length-(i+1),by lia,rfl,hlt,h⟩,λx H3 y=>?_⟩
   obtain⟨s3,r3⟩:=yl x H3 y
   have S3:=p2.sm.xW s3;have p3:=p2.trans (fj.rJ (aZ.of s3) (Fz.refl _) S3);split at hl
   .rename_i e4 h4;refine L Z Θ2 e2 C2 σ2 H3 x d e4 S3 r3 h4 _ λσ4 S4 o4=>?_
    have p4:fj K Z Θ e1 σ H1 Θ2 e4 C2 σ4 H3:=p3.trans ⟨jZ.refl _ _,aZ.refl _ _,λa m=>.inl (o4 a m),S4⟩;split at hl
    .rename_i e5 C5 h5
     exact⟨Z,Θ2,e4,C2,.nx,e5,C5,S4,h5,λΘ5 σ5 H5 p5=>⟨Θ5,e5,C5,p4.trans p5,hl⟩⟩
    .rename_i e5 C5 h5
     exact⟨Z,Θ2,e4,C2,.ct,e5,C5,S4,h5,λΘ5 σ5 H5 p5=>⟨Θ5,e5,C5,p4.trans p5,hl⟩⟩
    .rename_i e5 C5 h5;cases hl
     exact⟨Z,Θ2,e4,C2,.bk,env',C',S4,h5,λΘ5 σ5 H5 p5=>q Θ5 σ5 H5 (p1.trans (p4.trans p5))⟩
    .rename_i r e5 C5 h5;cases hl
     exact⟨Z,Θ2,e4,C2,.rt r,env',C',S4,h5,λΘ5 v H5 p5=>q Θ5 v H5 (p1.ret (p4.ret p5))⟩
    .cases hl
   .cases hl
 .cases hf
theorem pQ(hp:QS (model X.prog X.w) X.A X.env X.xe)(hc:X.calm=ao)(hi:PI X tg iter (tI X.K aJ fi))(hg:PG X tg g)(L:Ds X.K g fg)(hb:jG X body (tS X.K f))
  (hs:∀x,vf iter X.env x=pure x:=by intro _;rfl):PS X (.For tg iter body [] pos) (tS X.K (iT fi fg f)):=(amr hp hc hi hg hb hs).weak (aj0 L)
def yL:iD->au->Option (List au)
 |.one,d=>aa [d]
 |.many n,.tuple ds=>if ds.length=n then aa ds else aj
 |_,_=>aj
def frB(js:List Nat)(env:En):En:=js.map λj=>((env[j]?).join).map still
def eN(ds:List au):En:=ds.map λd=>aa (.im d)
def kj(T:iD)(ft:FT)(fe:FE)(fs:En):List au->Ce->Option (List au×Ce)
 |[],C=>aa ([],C)
 |d::r,C=>match yL T d with
  |some ts=>match ft (eN ts++fs) C with
   |some (false,C1)=>kj T ft fe fs r C1
   |some (true,C1)=>match fe (eN ts++fs) C1 with
    |some (x,_,C2)=>match still x with
     |.im y=>match kj T ft fe fs r C2 with
      |some (ys,C3)=>aa (y::ys,C3)
      |none=>aj
     |_=>aj
    |none=>aj
   |none=>aj
  |none=>aj
def iG(js:List Nat)(env:En):En:=env.mapIdx λi x=>if i∈js then x.map still else x
def j0(fi:FI)(T:iD)(ft:FT)(fe:FE)(js:List Nat):FE:=λenv C=>match fi env C with
 |some (its,e1,C1)=>match kj T ft fe (frB js e1) its C1 with
  |some (ys,C2)=>if ys.length<=f9 then aa (.ow (.list ys),if gO ys then e1 else iG js e1,C2) else aj
  |none=>aj
 |none=>aj
theorem adA:∀{a b:En},a.length=b.length->(∀(i:Nat)(x y:Option Vl),a[i]?=aa x->b[i]?=aa y->Wl x y)->Fz a b
 |[],[],_,_=>trivial
 |x::r,y::t,hl,h=>⟨h 0 x y rfl rfl,adA (by simpa using hl) λi u v h1 h2=>h (i+1) u v (by simpa using h1) (by simpa using h2)⟩
 |[],_::_,hl,_=>by cases hl
 |_::_,[],hl,_=>by cases hl
theorem Cq(js:List Nat)(env:En):Fz env (iG js env):=adA (by unfold iG;rw[List.length_mapIdx]) λi x y h1 h2=>by
 unfold iG at h2;rw[afB,h1] at h2;have h2:(if i∈js then ZX still x else x)=y:=gP h2;rw[<-h2];split
 .cases x with
  |none=>exact .inl rfl
  |some x=>
   cases x with
   |ow d=>exact .inr ⟨d,rfl,rfl⟩
   |im d=>exact .inl rfl
   |ce n=>exact .inl rfl
   |sc ns=>exact .inl rfl
   |tp=>exact .inl rfl
 .exact .inl rfl
theorem acQ{js:List Nat}{env:En}{k:Nat}{x:Vl}(h:(frB js env)[k]?=aa (aa x)):∃j:Nat,js[k]?=aa j/\(iG js env)[j]?=aa (aa x)/\∀d,x≠.ow d:=by
 unfold frB at h;rw[iJ] at h;cases hj:js[k]? with
 |none=>rw[hj] at h;cases h
 |some j=>
  rw[hj] at h;have h':((env[j]?).join).map still=aa x:=gP h
  refine⟨j,rfl,?_,?_⟩
  .unfold iG;rw[afB];cases hv:env[j]? with
   |none=>rw[hv] at h';cases h'
   |some y=>
    rw[hv] at h';show aa (if j∈js then ZX still y else y)=_;rw[bz (p7 hj)];exact congrArg aa h'
  .cases hv:(env[j]?).join with
   |none=>rw[hv] at h';cases h'
   |some y=>
    rw[hv] at h';have e:still y=x:=gP h';rw[<-e];intro d z;cases y<;>cases z
theorem Cr:∀{env:En}{σ:St},(∀(i:Nat)(d:au),env[i]?≠aa (aa (.ow d)))->bU env σ=[]
 |[],σ,_=>by cases σ<;>rfl
 |_::_,[],_=>rfl
 |x::e,v::s,h=>by
  rw[bU,Cr (env:=e) (σ:=s) λi d z=>h (i+1) d (by simpa using z)];have h0:=h 0;simp at h0;unfold own1;split
  .rename_i d a;exact absurd rfl (h0 d)
  .rfl
section
variable{K:aM}{Z Θ:List aq}{env:En}{C C2:Ce}{σ:St}{H H2:Hp}{D:aq}
abbrev lX(D:aq)(Z:List aq)(env:En)(σ:St):List aq:=D::(Z++bU env σ)
theorem pO{js:List Nat}{a:aq}{eB:En}{sB:St}(h:bU eB sB=[]):a∈bf (lX D Z env σ) Θ eB sB↔a=D\/a∈bf Z Θ env σ:=by
 rw[jN,jN,h,cB,dB];constructor
 .rintro((h|h|h)|h|h)
  .exact .inl h
  .exact .inr (.inl h)
  .exact .inr (.inr (.inr h))
  .exact .inr (.inr (.inl h))
  .nomatch h
 .rintro(h|h|h|h)
  .exact .inl (.inl h)
  .exact .inl (.inr (.inl h))
  .exact .inr (.inl h)
  .exact .inl (.inr (.inr h))
theorem Le{js:List Nat}{ts:List au}:∀(i:Nat)(d:au),(eN ts++frB js env)[i]?≠aa (aa (.ow d)):=λi d z=>by
 by_cases hi:i<(eN ts).length
 .rw[p6 hi] at z;unfold eN at z;rw[iJ] at z;cases h:ts[i]? with
  |none=>rw[h] at z;cases z
  |some t=>rw[h] at z;cases z
 .rw[pF (by lia)] at z
  obtain⟨j,_,_,h⟩:=acQ z
  exact h d rfl
theorem Sm.blk{js:List Nat}{ts:List au}{vs:List V}(S:Sm K Z Θ (iG js env) C σ H)(hD:H D=oK)(k:aZ Θ H H2)(nt:NT (H2 D))(c:pP Θ C2 H2)(r:cA (er (bf (lX D Z (iG js env) σ) Θ [] []) H2) ts vs):
  Sm K (lX D Z (iG js env) σ) Θ (eN ts++frB js env) C2 (vs.map aa++frees js σ) H2:=by
 have no:=Cr (env:=eN ts++frB js env) (σ:=vs.map aa++frees js σ) Le;have dY:=S.dY;have lv:=jo r;have M4:(eN ts).length=ts.length:=by unfold eN;rw[bw]
 have ee:er (bf (lX D Z (iG js env) σ) Θ (eN ts++frB js env) (vs.map aa++frees js σ)) H2=er (bf (lX D Z (iG js env) σ) Θ [] []) H2:=qw λa=>by rw[pO (js:=js) no,pO (js:=js) rfl]
 have sm:bN (er (bf Z Θ (iG js env) σ) H) (er (bf (lX D Z (iG js env) σ) Θ [] []) H2):=lR k S.qN λb m=>by
  rcases(pO (js:=js) rfl).mp m with rfl|m
  .exact .inr hD
  .exact .inl m
 refine⟨?_,?_,λb m=>?_,λi x e=>?_,c⟩
 .rw[gb,gb,bw,lv,M4];unfold frees frB;rw[bw,bw]
 .show(lX D Z (iG js env) σ++(Θ++bU (eN ts++frB js env) (vs.map aa++frees js σ))).Nodup
  rw[no];refine Af (jD.mpr ⟨λm=>?_,?_⟩) dY.2.1 nZ (λb m m'=>?_) (λ_ m=>nomatch m)
  .rcases dB.mp m with m|m
   .exact(S.dom D m).ne hD
   .exact S.zW D (jN.mpr (.inr (.inr m))) hD
  .rw[kY]
   exact⟨dY.1,dY.2.2.1,λb m c' m' e=>by subst e;exact(S.oR m').1 m⟩
  .rcases cB.mp m with rfl|m
   .exact S.zW b (jN.mpr (.inr (.inl m'))) hD
   .rcases dB.mp m with m|m
    .exact dY.2.2.2 b m m'
    .exact(S.oR m).2 m'
 .rcases cB.mp m with rfl|m
  .exact nt
  .have:NT (H b)/\b∉Θ:=by
    rcases dB.mp m with m|m
    .exact⟨S.dom b m,dY.2.2.2 b m⟩
    .exact⟨S.MP b (jN.mpr (.inr (.inr m))),(S.oR m).2⟩
   obtain⟨⟨u,e,n⟩,nb⟩:=this
   exact⟨u,k.keep _ _ e nb,n⟩
 .rw[ee];by_cases hi:i<ts.length
  .rw[p6 (by rw[M4];exact hi)] at e;unfold eN at e;rw[iJ] at e;cases ht:ts[i]? with
   |none=>rw[ht] at e;cases e
   |some t=>
    rw[ht] at e;cases e
    obtain⟨v,ev,rv⟩:=vG r ht
    exact⟨v,by rw[p6 (by rw[bw,lv];exact hi),iJ,ev];rfl,rv⟩
  .rw[pF (by rw[M4];lia),M4] at e
   obtain⟨j,hj,hx,nx⟩:=acQ e
   obtain⟨v,ev,rv⟩:=S.slot j x hx
   refine⟨v,?_,rv.same sm λd _ z=>absurd z (nx d)⟩
   rw[pF (by rw[bw,lv];lia),bw,lv];unfold frees;rw[iJ,hj];show aa ((σ[j]?).join)=_;rw[ev];rfl
end
def jB:FT:=λ_ C=>aa (ao,C)
theorem zB{X:Cx}:oF X [] (gm X.K jB):=λpins s σ H Q I aP=>by
 obtain⟨Z,Θ,env,C,b,C',S,hf,q⟩:=aP
 cases hf;exact ak0 pins s σ H Q I (q H (aZ.refl _ _) S)
theorem xN{X:Cx}{c:Expr}{f:FT}(h:PT X c (gm X.K f)):oF X [c] (gm X.K f):=ak1 h
theorem aob{K:aM}{T:iD}{E H:Hp}{d:au}{x:V}{ts:List au}(h:yL T d=aa ts)(r:RZ E d x)(s:bN E H):∃vs,yE K T x H vs/\cA E ts vs:=by
 cases T with
 |one=>cases h;exact⟨[x],rfl,x,[],rfl,r,rfl⟩
 |many n=>
  cases d<;>first|cases h|skip
  rename_i ds;have h:(if ds.length=n then aa ds else aj)=aa ts:=h;split at h
  .rename_i hl;cases h
   obtain⟨a,vs,rfl,ha,r⟩:=r
   exact⟨vs,⟨a,rfl,dj.of (s _ _ ha),(jo r).trans hl⟩,r⟩
  .cases h
def uO{α:Type}(T:iD)(ft:FT)(st:En->α->Ce->Option (α×Ce))(fs:En):List au->α->Ce->Option (α×Ce)
 |[],a,C=>aa (a,C)
 |d::r,a,C=>(yL T d).bind λts=>(ft (eN ts++fs) C).bind λp=>bif p.1 then(st (eN ts++fs) a p.2).bind λq=>uO T ft st fs r q.1 q.2 else uO T ft st fs r a p.2
inductive aeb{α:Type}(Θ:List aq)(H1:Hp)(n:Nat)(Ob:α->Hp->Prop)(run:Nat->α->Ce->Prop)(i m:Nat)(H2:Hp):Prop
 |mk (a:α) (Ci:Ce) (hm:m=n-i) (hi:i<=n) (ki:aZ Θ H1 H2) (ci:pP Θ Ci H2) (ob:Ob a H2) (hc:run i a Ci):aeb Θ H1 n Ob run i m H2
section
variable{K:aM}{α:Type}{T:iD}{ft:FT}{st:En->α->Ce->Option (α×Ce)}{js:List Nat}{Z Θ:List aq}{e1:En}{C1 C':Ce}{σ:St}{H1:Hp}{J:It}{its:List au}{D:aq}{o0:HO}{a0 aE:α}
theorem Ux{Hx Hy:Hp}{u:HO}(hD:H1 D=oK)(kk:aZ Θ H1 Hx):aZ Θ H1 (upd Hx D u):=by
 refine⟨λa o ha na=>?_,λa ha=>?_⟩
 .rw[cV (pM ha hD)];exact kk.keep _ _ ha na
 .by_cases z:a=D
  .subst z;rw[dO];exact wM _
  .rw[cV z];exact kk.dom a ha
theorem Kc{Hx:Hp}{u:HO}(hD:D∉Θ)(c:pP Θ C1 Hx):pP Θ C1 (upd Hx D u):=by
 refine⟨c.len,λn b ns e2 e3=>?_⟩
 rw[cV]
 .exact c.at_ n b ns e2 e3
 .intro z;subst z;exact hD (p7 e2)
theorem RL{em:TM}{Ob:α->Hp->Prop}{done:Hp->Prop}(S1:Sm K Z Θ e1 C1 σ H1)(it:yu (bf Z Θ e1 σ) Θ H1 J its)(hD:H1 D=oK)(ob0:Ob a0 (upd H1 D o0))(Du:∀a Hx Hy,aZ Θ Hx Hy->Ob a Hx->Ob a Hy)(obn:∀a Hx,Ob a Hx->NT (Hx D))
  (hem:∀(ts:List au)(a:α)(C2:Ce)(p:α×Ce)(vs:List V)(H4:Hp)(Q:Hp->Prop),st (eN ts++frB js e1) a C2=aa p->Sm K (lX D Z (iG js e1) σ) Θ (eN ts++frB js e1) C2 (vs.map aa++frees js σ) H4->aZ Θ H1 H4->Ob a H4->(∀H6,aZ Θ H1 H6->pP Θ p.2 H6->Ob p.1 H6->Q H6)->em (vs.map aa++frees js σ) H4 Q)
  (hc:uO T ft st (frB js e1) its a0 C1=aa (aE,C'))(hq:∀H2,aZ Θ H1 H2->pP Θ C' H2->Ob aE H2->done H2):yp K T (gm K ft) em (frees js σ) J (upd H1 D o0) done:=by
 have rG:D∉Θ:=λm=>(S1.cell.dom D m).ne hD
 have S1f:=S1.fz (Cq js e1)
 refine⟨aeb Θ H1 its.length Ob (λi a Ci=>uO T ft st (frB js e1) (its.drop i) a Ci=aa (aE,C')),⟨its.length,⟨a0,C1,rfl,m9 _,aZ.upd hD,Kc rG S1.cell,ob0,hc⟩⟩,λi m H2 hh=>?_⟩
 cases hh with
 |mk a Ci hm hi ki ci ob hc=>
 subst hm;have nt:=obn a H2 ob;have smP:bN (er (bf Z Θ e1 σ) H1) (er (bf (lX D Z (iG js e1) σ) Θ [] []) H2):=lR ki S1.qN λb m=>by
  rcases(pO (js:=js) rfl).mp m with rfl|m
  .exact .inr hD
  .exact .inl ((Cq js e1).sub b m)
 have ao9:∀a∈bf (lX D Z (iG js e1) σ) Θ [] [],H2 a≠oK:=λa m=>(S1f.blk hD ki nt ci (show cA _ [] [] from rfl)).zW a ((pO (js:=js) (Cr (env:=eN []++frB js e1) Le)).mpr ((pO (js:=js) rfl).mp m))
 obtain⟨Wr,Ws⟩:=it i H2 _ smP (acJ ki) ao9
 cases hd:its[i]? with
 |none=>
  have hi2:i=its.length:=Nat.le_antisymm hi (W8.mp hd);rw[hi2,agl] at hc;cases hc;exact .inl ⟨Ws hi2,hq H2 ki ci ob⟩
 |some d=>
  obtain⟨hlt,ed⟩:=jH.mp hd
  rw[afa hlt,ed] at hc
  obtain⟨go,yl⟩:=Wr d hd
  refine .inr ⟨go,λx H3 y=>?_⟩
  obtain⟨s3,r3⟩:=yl x H3 y
  obtain⟨ts,ht,hc⟩:=jz hc
  obtain⟨p,hft,hc⟩:=jz hc
  obtain⟨vs,tv,rvs⟩:=aob (K:=K) ht r3 (CJ _ _)
  refine⟨vs,tv,?_⟩
  have k3:aZ Θ H1 H3:=ki.trans (aZ.of s3);have Wt:=Du a _ _ (aZ.of s3) ob;have SB:=S1f.blk (js:=js) hD k3 (obn a H3 Wt) ⟨ci.len,λn b ns e2 e3=>s3 _ _ (ci.at_ n b ns e2 e3)⟩ rvs;have lt:its.length-(i+1)<its.length-i:=by lia
  refine⟨_,Θ,_,Ci,p.1,p.2,SB,hft,λH4 k4 S4=>?_⟩
  cases hp:p.1 with
  |false=>
   rw[hp] at hc;exact ym ⟨_,lt,⟨a,p.2,rfl,hlt,k3.trans k4,S4.cell,Du a _ _ k4 Wt,hc⟩⟩
  |true=>
   rw[hp] at hc
   obtain⟨q,hs,hc⟩:=jz hc
   exact yo (hem ts a p.2 q vs H4 _ hs S4 (k3.trans k4) (Du a _ _ k4 Wt) λH6 k6 c6 o6=>⟨_,lt,⟨q.1,q.2,rfl,hlt,k6,c6,o6,hc⟩⟩)
end
def VN(fe:FE):En->List au->Ce->Option (List au×Ce):=λenv acc C=>(fe env C).bind λq=>(tY (still q.1)).bind λy=>bif decide (acc.length<f9) then aa (acc++[y],q.2.2) else aj
theorem Tu{T:iD}{ft:FT}{fe:FE}{fs:En}{C':Ce}:∀{its:List au}{ys acc:List au}{C:Ce},kj T ft fe fs its C=aa (ys,C')->acc.length+ys.length<=f9->uO T ft (VN fe) fs its acc C=aa (acc++ys,C')
 |[],ys,acc,C,h,_=>by
  cases h;rw[lO];rfl
 |d::r,ys,acc,C,h,hl=>by
  unfold kj at h;unfold uO;split at h
  case h_2=>cases h
  rename_i ts ht;rw[ht,jx];split at h
  case h_3=>cases h
  .rename_i C1 hf;rw[hf,jx];exact Tu h hl
  .rename_i C1 hf;rw[hf,jx];split at h
   case h_2=>cases h
   rename_i x e2 C2 hx;split at h
   case h_2=>cases h
   rename_i y hy;split at h
   case h_2=>cases h
   rename_i zs C3 hz;cases h;rw[cZ] at hl
   show(VN fe (eN ts++fs) acc C1).bind _=_
   unfold VN;rw[hx,jx,hy,show tY (.im y)=aa y from rfl,jx,gk (by lia),show acc++y::zs=(acc++[y])++zs by rw[mR];rfl];exact Tu hz (by rw[gb];show acc.length+1+_<=_;lia)
theorem ab4{K:aM}{fi:FI}{T:iD}{ft:FT}{fe:FE}{js:List Nat}:∀σ H Q,tE K (j0 fi T ft fe js) σ H Q->Wf K (tI K ao fi) T (λ_=>gm K ft) (λ_=>tE K fe) js σ H Q:=by
 rintro σ H Q ⟨Z,Θ,env,C,res,env',C',S,hf,q⟩;unfold j0 at hf;split at hf
 case h_2=>cases hf
 rename_i its e1 C1 h1;split at hf
 case h_2=>cases hf
 rename_i ys C2 h2;split at hf
 case isFalse=>cases hf
 rename_i hl;cases hf
 refine⟨Z,Θ,env,C,its,e1,C1,S,h1,λJ H1 k1 f1 S1 it D hD b=>?_⟩
 have rG:D∉Θ:=λm=>(S1.cell.dom D m).ne hD
 have Wu:D∈bf (lX D Z (iG js e1) σ) Θ [] []:=(pO (js:=js) rfl).mpr (.inl rfl);refine RL (a0:=[]) (Ob:=λacc Hx=>jQ (er (bf (lX D Z (iG js e1) σ) Θ [] []) Hx) Hx D (.list acc)) S1 it hD ⟨[],dO,rfl⟩ (λa Hx Hy kk r=>r.same (lR kk (λa m=>jN.mpr (.inr (.inl m))) λa m=>.inl m) λo h=>kk.keep _ _ h rG)
  (λa Hx r=>by obtain⟨vs,e,_⟩:=r;exact⟨_,e,λ_ z=>nomatch z⟩) ?_ (Tu (acc:=[]) h2 (by rw[Ax,Jh];exact hl)) λH2 ki ci r=>?_
 .intro ts acc C2 p vs H4 Q hs S4 k4 r4 hQ
  obtain⟨w,hfe,hs⟩:=jz hs
  obtain⟨yd,ud,hs⟩:=jz hs
  have ud:=FQ ud;cases hlt:decide (acc.length<f9) with
  |false=>rw[hlt] at hs;cases hs
  |true=>
  rw[hlt] at hs;cases hs
  refine⟨_,Θ,_,C2,w.1,w.2.1,w.2.2,S4,hfe,λy H5 k5 f5 R5=>?_⟩
  obtain⟨S5,r5⟩:=R5.uN ud
  obtain⟨vW,hD5,rr⟩:=r4.same (lR k5 (λa m=>jN.mpr (.inr (.inl m))) λa m=>.inl m) λo h=>k5.keep _ _ h rG
  have Wv:bU w.2.1 (vs.map aa++frees js σ)=[]:=by
   have:=(Fz.own (σ:=vs.map aa++frees js σ) f5)
   rw[Cr Le] at this;exact agm.mp this
  have e5:er (bf (lX D Z (iG js e1) σ) Θ w.2.1 (vs.map aa++frees js σ)) H5=er (bf (lX D Z (iG js e1) σ) Θ [] []) H5:=qw λa=>by rw[pO (js:=js) Wv,pO (js:=js) rfl]
  rw[e5] at r5;have lt:=of_decide_eq_true hlt
  refine⟨vW,hD5,by rw[jo rr,iK];unfold f9 at lt;lia,hQ _ (Ux (Hy:=H5) hD (k4.trans k5)) (Kc rG S5.cell) ⟨_,dO,?_⟩⟩
  rw[Ld Wu];exact zA rr ⟨y,[],rfl,r5,rfl⟩
 .obtain⟨vW,hDi,ri⟩:=r
  refine q _ H2 (k1.trans ki) ?_ ?_
  .split
   .exact f1
   .exact f1.trans (Cq js e1)
  .refine⟨D,rfl,k1.none hD,?_⟩
   split
   .rename_i hn;have SD:=S1.yc hD ki ⟨_,hDi,λ_ z=>nomatch z⟩ ci
    exact⟨SD,vW,hDi,ri.kO (λa vs e=>Cj SD (jn e)) hn⟩
   .refine⟨(S1.fz (Cq js e1)).yc hD ki ⟨_,hDi,λ_ z=>nomatch z⟩ ci,vW,hDi,?_⟩
    rw[qw (P':=bf (D::Z) Θ (iG js e1) σ) λa=>by rw[pO (js:=js) rfl];show _↔a∈D::bf Z Θ (iG js e1) σ;rw[cB]] at ri;exact ri
section
variable{X:Cx}{NT NF:List Str}{js:List Nat}{elt tg iter:Expr}{ifs:List Expr}{T:iD}{fi:FI}{ft:FT}{fe:FE}{scope:jO}{pos:Pos}
theorem uP(B:qz X NT NF js scope)(tk:pU tg NT T)(hc:X.calm=ao)(hi:PI X tg iter (tI X.K ao fi))
  (hin:∀b,oF (X.bk (NT++NF) scope b) ifs (gm X.K ft)/\PE (X.bk (NT++NF) scope b) elt (tE X.K fe))
  (hs:∀x,vf iter X.env x=pure x:=by intro _;rfl):PE X (.ListComp elt [⟨tg,iter,ifs,0⟩] scope pos) (tE X.K (j0 fi T ft fe js)):=(an7 B tk hc hi hin hs).weak ab4
theorem RM{i:Nat}{y:Str}{pos' spos:Pos}(B:qz X NT NF js scope)(tk:pU tg NT T)(hc:X.calm=ao)(hi:PI X tg iter (tI X.K ao fi))
  (hin:∀b,oF (X.bk (NT++NF) scope b) ifs (gm X.K ft)/\PE (X.bk (NT++NF) scope b) elt (tE X.K fe))
  (hsw:ux (.ListComp elt [⟨tg,iter,ifs,0⟩] scope pos) (aa (.Name y pos')) spos.line X.env=pure ao)(hN:X.N.Nodup)(hI:X.N[i]?=aa y)(hy:X.env.scope.names.lookup y=aa .local)
  (hs:∀x,vf iter X.env x=pure x:=by intro _;rfl):PS X (.Assign [.Name y pos'] (.ListComp elt [⟨tg,iter,ifs,0⟩] scope pos) spos) (tS X.K (di i (j0 fi T ft fe js))):=(ajD B tk hc hi hin hsw hN hI hy hs).weak (RG ab4)
end
def CT(n:Nat):Vl->Bool
 |.ce m=>decide (m<n)
 |_=>ao
def fN(k n:Nat)(body:FS):FN:=λxs C=>if xs.length=k then match body (xs.map aa++gR (n-xs.length) aj) C with
  |some (.rt r,_,C')=>if CT C.length r then aa (r,C'.take C.length) else aj
  |some (.nx,_,C')=>aa (.im .none,C'.take C.length)
  |_=>aj
 else aj
section
variable{K:aM}{Z Θ:List aq}{C:Ce}{H:Hp}{xs:List Vl}{vs:List V}
theorem RN(a:q9 K E Θ xs vs):vs.length=xs.length:=by
 induction a with
 |nil=>rfl
 |cons _ _ ih=>rw[cZ,cZ,ih]
theorem alp(a:q9 K E Θ xs vs):∀{i:Nat}{x:Vl},xs[i]?=aa x->∃v,vs[i]?=aa v/\vJ K E Θ x v:=by
 induction a with
 |nil=>intro i x e;simp at e
 |cons h _ ih=>
  intro i x e;cases i with
  |zero=>simp at e;subst e;exact⟨_,rfl,h⟩
  |succ i=>
   obtain⟨v,e2,h2⟩:=ih (i:=i) (by simpa using e)
   exact⟨v,by simpa using e2,h2⟩
theorem Sm.start(S:Sm K Z Θ [] C [] H)(a:q9 K (er (bf Z Θ [] []) H) Θ xs vs):Sm K Z Θ (xs.map aa++gR n oK) C (vs.map aa++gR n oK) H/\bU (xs.map aa++gR n oK) (vs.map aa++gR n oK)=[]:=by
 have lv:=RN a;have at':∀{i:Nat}{x:Vl},(xs.map aa++gR n oK)[i]?=aa (aa x)->∃v,vs[i]?=aa v/\vJ K (er (bf Z Θ [] []) H) Θ x v/\i<vs.length:=λ{i x} e=>by
  by_cases hi:i<xs.length
  .rw[p6 (by rw[bw];exact hi),iJ] at e;cases hx:xs[i]? with
   |none=>rw[hx] at e;cases e
   |some y=>
    rw[hx] at e;cases e
    obtain⟨v,e1,h⟩:=alp a hx
    exact⟨v,e1,h,by rw[lv];exact hi⟩
  .rw[pF (by rw[bw];lia)] at e;have:=p7 e;exact nomatch(List.eq_of_mem_replicate this)
 have no:bU (xs.map aa++gR n oK) (vs.map aa++gR n oK)=[]:=Cr λi d e=>by
  obtain⟨v,_,h,_⟩:=at' e
  exact h
 refine⟨⟨by simp[lv],?_,S.dom,λi x e=>?_,S.cell⟩,no⟩
 .show(Z++(Θ++bU _ _)).Nodup
  rw[no];exact S.nd
 .obtain⟨v,e1,h,hl⟩:=at' e
  refine⟨v,by rw[p6 (by rw[bw];exact hl),iJ,e1];rfl,?_⟩
  have ee:er (bf Z Θ (xs.map aa++gR n oK) (vs.map aa++gR n oK)) H=er (bf Z Θ [] []) H:=by
   show er (Z++(Θ++bU _ _)) H=_;rw[no];rfl
  rw[ee];cases x with
  |im d=>exact h
  |ow d=>exact h.elim
  |ce m=>exact h
  |sc ns=>exact h
  |tp=>exact h.elim
theorem Sm.cut(S:Sm K Z (Θ++Δ) [] C [] H):Sm K Z Θ [] (C.take Θ.length) [] H:=by
 have dY:=S.dY;have cl:=S.cell.len;rw[gb] at cl
 refine⟨rfl,Af dY.1 (kY.mp dY.2.1).1 nZ (λb m m'=>dY.2.2.2 b m (iW _ m')) (λ_ m=>nomatch m),S.dom,λi x e=>by simp at e,⟨by rw[pJ];lia,λn a ns e1 e2=>?_⟩⟩
 have hn:n<Θ.length:=(jH.mp e1).1;rw[Xw,bz hn] at e2;exact S.cell.at_ n a ns (by rw[p6 hn];exact e1) e2
theorem Ls.cut(t:jZ Θ Θ' H)(ok:CT Θ.length r=ao)(no:O=[])(h:Ls K Z Θ' C' O H H' r v):Mj K Z Θ (C'.take Θ.length) H H' r v:=by
 obtain⟨Δ,rfl,hn⟩:=t.ex
 have sm:∀{Y:List aq},bN (er (bf Y (Θ++Δ) [] []) H') (er (bf Y Θ [] []) H'):=λ{Y}=>uH λa m=>by
  rcases jN.mp m with m|m|m
  .exact jN.mpr (.inl m)
  .exact jN.mpr (.inr (.inl (iW _ m)))
  .nomatch m
 cases r with
 |im d=>exact⟨h.1.cut,h.2.same sm⟩
 |ow d=>
  obtain⟨a,e,m,S,r⟩:=h
  refine⟨a,e,?_,S.cut,r.same sm λ_ h=>h⟩
  rcases m with m|m
  .rw[no] at m;nomatch m
  .exact m
 |ce n=>
  obtain⟨S,a,e,e2⟩:=h
  refine⟨S.cut,a,e,?_⟩
  rw[p6 (of_decide_eq_true ok)] at e2;exact e2
 |sc ns=>
  obtain⟨S,a,e,q⟩:=h
  exact⟨S.cut,a,e,sm.seq q⟩
 |tp=>
  obtain⟨t,a,vs,us,e,e',m,S,r,p,q⟩:=h
  refine⟨t,a,vs,us,e,e',?_,S.cut,r.same sm λ_ h=>h,p.same sm,q.same sm⟩
  rcases m with m|m
  .rw[no] at m;nomatch m
  .exact m
end
section
variable{P:bL}{w:bI}{K:aM}{mg:Str->Option Value}{base:bC}
theorem jA{x qual:Str}{st:dM}{f:aq}{fd:dZ}{N ps:List Str}{k:Nat}{body:FS}{k1 k2:Nat}(F:gC K x qual st f fd)(S:iQ N ps (dw st))
  (hb:∀(cdv:Value)(A:cM)(outer:List Env)(s:aD)(H:Hp)(E:XK),jg k (A.deeper (envOfC qual (dw st) s.heap.objs.size f cdv))->jG (zV fZ P w K mg base N qual (dw st) f cdv A outer s H E).vX (xK st) (tS K body))
  (e1:k1=ps.length:=by rfl)(e2:k2=N.length:=by rfl):dX P w K mg base fZ (k+1) f fd ps (spT K (fN k1 k2 body)):=by
 subst e1 e2;refine F.ok S (λvs H Q E h=>?_) (λcdv A outer s H vs Q E hr h=>⟨_,hb cdv A outer s H E hr,?_⟩)
 .obtain⟨Z,Θ,C,xs,r,C',S0,a,hf,_⟩:=h
  unfold fN at hf;split at hf
  .rename_i hl;rw[RN a,hl]
  .cases hf
 .obtain⟨Z,Θ,C,xs,r,C',S0,a,hf,q⟩:=h
  unfold fN at hf;split at hf
  case isFalse=>cases hf
  rename_i hl;have lv:=RN a
  obtain⟨S1,no⟩:=S0.start (n:=N.length-vs.length) a
  rw[lv] at S1 no;have hs:start N vs=vs.map aa++gR (N.length-xs.length) aj:=by unfold start;rw[lv]
  rw[hs];have cl:=S0.cell.len;split at hf
  .rename_i r0 e' C1 hb';split at hf
   .rename_i hok;cases hf
    refine⟨Z,Θ,_,C,.rt r,e',C1,S1,hb',λΘ' v H' R=>?_⟩
    have kp:=R.kp;rw[no,lO] at kp;rw[cl] at q hok;exact q v H' kp (R.ok.cut R.th hok no)
   .cases hf
  .rename_i e' C1 hb';cases hf
   refine⟨Z,Θ,_,C,.nx,e',C1,S1,hb',λΘ' σ' H' R=>?_⟩
   have kp:=R.kp;rw[no,lO] at kp
   obtain⟨Δ,e,hn⟩:=R.th.ex
   have S2:=R.sm.none;rw[e] at S2;rw[cl] at q;exact q .non H' kp ⟨S2.cut,rfl⟩
  .cases hf
theorem am4(hS:bR K H a (ns.map V.int))(h:f [.sc ns] []=aa (.im (.bool ao),C')):spT K f [.ref a] H (λv _=>v=.bl ao) E:=by
 refine⟨[],[],[],[.sc ns],_,C',⟨rfl,nZ,(λ_ m=>nomatch m),λi x e=>by simp at e,⟨rfl,λn b ms e _=>by simp at e⟩⟩,.cons ⟨a,rfl,?_⟩ .nil,h,λv H' _ R=>R.2⟩
 show bR K (er [] H) a _;rw[FJ];exact hS
end
def ye(i:Nat):FE:=λenv C=>match env[i]? with
 |some (some (.sc ns))=>aa (.im (.int ns.length),env,C)
 |_=>aj
def GF(i:Nat)(f:FB):FE:=λenv C=>match env[i]? with
 |some (some (.sc ns))=>match f env C with
  |some (.int k,_,C1)=>match fY ns k with
   |some z=>aa (.im (.int z),env,C1)
   |none=>aj
  |_=>aj
 |_=>aj
section
variable{X:Cx}{o k:Expr}{i:Nat}{p pos:Pos}
theorem ab5(ho:PE X o (qF i))(hg:Gl X "len")(hm:X.mg "len"=aj)(hv:uv "len"=aa (.builtin "len"))
  (he:bJ [o] X.env=(aJ,eval o X.env)::bJ [] X.env:=by rfl)(hpl:(gH pos (bJ [] X.env)).any (·.1)=aJ:=by rfl):PE X (.Call (.Name "len" p) [o] [] pos) (tE X.K (ye i)):=
 (J2 Zb hg hm hv (n6 ho qu he) (by decide) (by decide) he hpl).weak λσ H Q aP=>by
  obtain⟨Z,Θ,env,C,r,env',C',S,hf,q⟩:=aP
  unfold ye at hf;split at hf
  .rename_i ns h0;cases hf
   obtain⟨v,ev,a,rfl,sq⟩:=S.slot i _ h0
   have:=q (.int ns.length) H (aZ.refl _ _) (Fz.refl _) ⟨S,rfl⟩
   exact⟨_,ev,a,_,rfl,.inl ((CJ _ _).seq sq),by rw[bw];exact this⟩
  .cases hf
theorem am5(ho:PE X o (qF i))(hk:PE X k (eZ X.K f))(hs:Kq k):PE X (.Subscript o k pos) (tE X.K (GF i f)):=(Vg Tf ho hk hs).weak λσ H Q aP=>by
 obtain⟨Z,Θ,env,C,r,env',C',S,hf,q⟩:=aP
 unfold GF at hf;split at hf
 case h_2=>cases hf
 rename_i ns h0;split at hf
 case h_2=>cases hf
 rename_i z e1 C1 h1;split at hf
 case h_2=>cases hf
 rename_i y hy;cases hf
 obtain⟨v,ev,a,rfl,sq⟩:=S.slot i _ h0
 refine⟨_,ev,Z,Θ,env,C,_,e1,C',S,h1,λw H1 k1 f1 S1 b1=>?_⟩
 have S2:=S.go k1 S1.cell
 obtain⟨v2,ev2,a2,ea2,sq2⟩:=S2.slot i _ h0
 rw[ev] at ev2;cases ev2;cases ea2
 refine⟨a,_,z,.int y,rfl,b1,(CJ _ _).seq sq2,?_,q _ H1 k1 (Fz.refl _) ⟨S2,rfl⟩⟩
 unfold fY at hy⊢;rw[bw];cases hj:oE ns.length z with
 |none=>rw[hj] at hy;cases hy
 |some j=>
  rw[hj] at hy
  show(ns.map V.int)[j]?=_
  rw[iJ,show ns[j]?=aa y from hy];rfl
end
section
variable{K:aM}{X:Cx}
theorem ou(h:Lq Z Θ env σ H [d] vs):∃v,vs=[v]/\gw Z Θ env σ H d v:=by
 cases h with
 |cons a b=>cases b;exact⟨_,rfl,a⟩
theorem adB(h:Lq Z Θ env σ H [d,e] vs):∃v w,vs=[v,w]/\gw Z Θ env σ H d v/\gw Z Θ env σ H e w:=by
 cases h with
 |cons a b=>
  cases b with
  |cons b c=>cases c;exact⟨_,_,rfl,a,b⟩
def GJ:au->Option Nat
 |.list ds=>aa ds.length
 |.tuple ds=>aa ds.length
 |.str z=>if z.length<=f9 then aa z.length else aj
 |.dict kvs=>if(cO cX kvs).isSome then aa kvs.length else aj
 |_=>aj
def lF:List au->Option Vl
 |[d]=>(GJ d).map λn=>.im (.int n)
 |_=>aj
def adC(K:aM):List V->Hp->VK->Prop:=λxs H Q=>((∃p ys,xs=[.ref p]/\(bR K H p ys\/dj K H p ys)/\Q (.int ys.length) H)\/∃z,xs=[.str z]/\z.length<=cu/\Q (.int z.length) H)\/∃a kvs,xs=[V.ref a]/\H a=aa (.dK kvs)/\Q (.int kvs.length) H
theorem oM:ie X (.builtin "len") (adC X.K):=(Zb.or ag3).or aiE
theorem oV:lK K (adC K) lF:=by
 intro Z Θ env C σ H xs ds res S b e Q q;unfold lF at e;split at e
 case h_2=>cases e
 rename_i d
 obtain⟨v,rfl,bb⟩:=ou b
 cases hn:GJ d with
 |none=>rw[hn] at e;cases e
 |some n=>
  rw[hn] at e;cases e;have fin:=q (.int n) H (aZ.refl _ _) (jE S rfl rfl);cases d<;>first|cases hn|skip
  .rename_i z;simp only[GJ] at hn;split at hn
   .rename_i hl;cases hn;cases bb.str;exact .inl (.inr ⟨z,rfl,rZ hl,fin⟩)
   .cases hn
  .obtain⟨a,vs,rfl,ha,r⟩:=bb.lst
   exact .inl (.inl ⟨a,vs,rfl,.inl (bR.of ha),by rw[jo r];exact fin⟩)
  .obtain⟨a,vs,rfl,ha,r⟩:=bb.tup
   exact .inl (.inl ⟨a,vs,rfl,.inr (dj.of ha),by rw[jo r];exact fin⟩)
  .rename_i kvs;simp only[GJ] at hn;split at hn
   .rename_i hs;cases hn
    obtain⟨a,vs,rfl,da,r⟩:=bb.dct
    rcases da with⟨ks,h1,ha⟩|⟨ks,⟨ne,h2⟩,ha⟩
    .refine .inr ⟨a,_,rfl,ha,?_⟩;rw[Ot,uz h1,zy r,Nat.min_self];exact fin
    .obtain⟨ks',h1⟩:=wG.mp hs
     exact absurd (vA h1 h2) ne
   .cases hn
def Gk:List au->Option Vl
 |[.int i]=>aa (.im (.int (if i<0 then -i else i)))
 |_=>aj
theorem acR:lK K (λxs H Q=>∃i,xs=[.int i]/\Q (.int (if i<0 then -i else i)) H) Gk:=by
 intro Z Θ env C σ H xs ds res S b e Q q;unfold Gk at e;split at e
 case h_2=>cases e
 cases e
 obtain⟨v,rfl,bb⟩:=ou b
 cases bb.int
 exact⟨_,rfl,q _ H (aZ.refl _ _) (jE S rfl rfl)⟩
def yf:List au->Option Vl
 |[.int i]=>aa (.im (.int i))
 |[.bool k]=>aa (.im (.int (if k then 1 else 0)))
 |_=>aj
theorem Uy:lK K (λxs H Q=>(∃i,xs=[.int i]/\Q (.int i) H)\/∃k,xs=[.bl k]/\Q (.int (if k then 1 else 0)) H) yf:=by
 intro Z Θ env C σ H xs ds res S b e Q q;unfold yf at e;split at e
 case h_3=>cases e
 .cases e
  obtain⟨v,rfl,bb⟩:=ou b
  cases bb.int;exact .inl ⟨_,rfl,q _ H (aZ.refl _ _) (jE S rfl rfl)⟩
 .cases e
  obtain⟨v,rfl,bb⟩:=ou b
  cases(show v=.bl _ from bb)
  exact .inr ⟨_,rfl,q _ H (aZ.refl _ _) (jE S rfl rfl)⟩
def Cu:List au->Option Vl
 |[.int i,.int j]=>aa (.im (.int (if j>i then j else i)))
 |_=>aj
def uK:List au->Option Vl
 |[.int i,.int j]=>aa (.im (.int (if j<i then j else i)))
 |_=>aj
theorem alq:lK K (λxs H Q=>∃i j,xs=[.int i,.int j]/\Q (.int (if j>i then j else i)) H) Cu:=by
 intro Z Θ env C σ H xs ds res S b e Q q;unfold Cu at e;split at e
 case h_2=>cases e
 cases e
 obtain⟨v,w,rfl,b1,b2⟩:=adB b
 cases b1.int;cases b2.int
 exact⟨_,_,rfl,q _ H (aZ.refl _ _) (jE S rfl rfl)⟩
theorem KC:lK K (λxs H Q=>∃i j,xs=[.int i,.int j]/\Q (.int (if j<i then j else i)) H) uK:=by
 intro Z Θ env C σ H xs ds res S b e Q q;unfold uK at e;split at e
 case h_2=>cases e
 cases e
 obtain⟨v,w,rfl,b1,b2⟩:=adB b
 cases b1.int;cases b2.int
 exact⟨_,_,rfl,q _ H (aZ.refl _ _) (jE S rfl rfl)⟩
def boolsOf:List au->Option (List Bool)
 |[]=>aa []
 |.bool b::r=>match boolsOf r with
  |some t=>aa (b::t)
  |none=>aj
 |_=>aj
theorem aal:∀{ds:List au}{ns:List Bool}{vs:List V},boolsOf ds=aa ns->cA E ds vs->vs=ns.map V.bl
 |[],ns,vs,h,r=>by cases h;exact r
 |.bool i::ds,ns,vs,h,r=>by
  unfold boolsOf at h;split at h
  .rename_i t ht;cases h
   obtain⟨u,w,rfl,q,s⟩:=r
   rw[aal ht s];have:u=.bl i:=q;rw[this];rfl
  .cases h
 |.none::_,_,_,h,_=>by cases h
 |.int _::_,_,_,h,_=>by cases h
 |.str _::_,_,_,h,_=>by cases h
 |.list _::_,_,_,h,_=>by cases h
 |.tuple _::_,_,_,h,_=>by cases h
 |.dict _::_,_,_,h,_=>by cases h
def Gm:List au->Option Vl
 |[.list ds]=>(boolsOf ds).map λbs=>.im (.bool (bs.all id))
 |_=>aj
theorem am6:lK K (λxs H Q=>∃(p:aq)(bs:List Bool),xs=[.ref p]/\bR K H p (bs.map V.bl)/\Q (.bl (bs.all id)) H) Gm:=by
 intro Z Θ env C σ H xs ds res S b e Q q;unfold Gm at e;split at e
 case h_2=>cases e
 rename_i ds;cases hb:boolsOf ds with
 |none=>rw[hb] at e;cases e
 |some bs=>
  rw[hb] at e;cases e
  obtain⟨v,rfl,bb⟩:=ou b
  obtain⟨a,vs,rfl,ha,r⟩:=bb.lst
  rw[aal hb r] at ha
  exact⟨a,bs,rfl,bR.of ha,q _ H (aZ.refl _ _) (jE S rfl rfl)⟩
def Fe:List au->Option Vl
 |[.list ds]=>aa (.im (.tuple ds))
 |[.tuple ds]=>aa (.im (.tuple ds))
 |_=>aj
theorem aa3:lK K (λxs H Q=>∃p ys,xs=[.ref p]/\((bR K H p ys/\∀l,H l=aj->Q (.ref l) (upd H l (.tup ys)))\/(dj K H p ys/\Q (.ref p) H))) Fe:=by
 intro Z Θ env C σ H xs ds res S b e Q q;unfold Fe at e;split at e
 case h_3=>cases e
 .cases e
  obtain⟨v,rfl,bb⟩:=ou b
  obtain⟨a,vs,rfl,ha,r⟩:=bb.lst
  exact⟨a,vs,rfl,.inl ⟨bR.of ha,λl hl=>q _ _ (aZ.upd hl) (Kv S r hl)⟩⟩
 .cases e
  obtain⟨v,rfl,bb⟩:=ou b
  obtain⟨a,vs,rfl,ha,r⟩:=bb.tup
  exact⟨a,vs,rfl,.inr ⟨dj.of ha,q _ H (aZ.refl _ _) ⟨S,bb⟩⟩⟩
end
def z7(n:String):au->Option Bool
 |.none=>aa aJ
 |.bool _=>aa (n=="bool"||n=="int")
 |.int _=>aa (n=="int")
 |.str _=>aa (n=="str")
 |.list _=>aa (n=="list")
 |.tuple _=>aa (n=="tuple")
 |.dict _=>aj
def GK(n:String):Bool:=n=="bool"||n=="int"||n=="str"||n=="list"||n=="tuple"
theorem Uz{K:aM}{n:String}{d:au}{b:Bool}(hn:GK n=ao)(e:z7 n d=aa b):Az K (Hg d) (.type n)=aa b:=by
 unfold GK at hn;simp only[Bool.or_eq_true,beq_iff_eq] at hn;rcases hn with(((rfl|rfl)|rfl)|rfl)|rfl<;>cases d<;>cases e<;>rfl
theorem aa4(e:z7 n d=aa b):∀kvs,d≠.dict kvs:=λkvs z=>by subst z;cases e
theorem gw.ty{K:aM}{Z Θ:List aq}{env:En}{σ:St}{H:Hp}{d:au}{v:V}(h:gw Z Θ env σ H d v)(hd:∀kvs,d≠.dict kvs):nO K H v (Hg d):=by
 cases d with
 |none=>exact RX.ty (d:=.none) h
 |bool b=>exact RX.ty (d:=.bool b) h
 |int i=>exact RX.ty (d:=.int i) h
 |str z=>exact RX.ty (d:=.str z) h
 |list ds=>
  obtain⟨a,vs,rfl,ha,r⟩:=h.lst
  exact .lst ha
 |tuple ds=>
  obtain⟨a,vs,rfl,ha,r⟩:=h.tup
  exact .tup ha
 |dict kvs=>exact absurd rfl (hd kvs)
def pA(n:String)(f:FB):FE:=λenv C=>match f env C with
 |some (d,_,C1)=>match z7 n d with
  |some b=>aa (.im (.bool b),env,C1)
  |none=>aj
 |none=>aj
def Gn(m n:String)(f:FB):FE:=λenv C=>match f env C with
 |some (d,_,C1)=>match z7 m d,z7 n d with
  |some p,some q=>aa (.im (.bool (p||q)),env,C1)
  |_,_=>aj
 |none=>aj
section
variable{X:Cx}{a t t':Expr}{p pos tp:Pos}{x1:Nat}
theorem sV(hn:GK n=ao)(ha:PE X a (eZ X.K f))(ht:PE X t (tC (.ty n)))(hg:Gl X "isinstance")(hm:X.mg "isinstance"=aj)(hv:uv "isinstance"=aa (.builtin "isinstance"))
  (he:bJ [a,t] X.env=(aJ,eval a X.env)::bJ [t] X.env:=by rfl)(he2:bJ [t] X.env=(aJ,eval t X.env)::bJ [] X.env:=by rfl)(hpl:(gH pos (bJ [t] X.env)).any (·.1)=aJ:=by rfl):
  PE X (.Call (.Name "isinstance" p) [a,t] [] pos) (tE X.K (pA n f)):=
 (J2 ahw hg hm hv (n6 ha (n6 ht qu he2) he) (by decide) (by decide) he hpl).weak λσ H Q aP=>by
  obtain⟨Z,Θ,env,C,r,env',C',S,hf,q⟩:=aP
  unfold pA at hf;split at hf
  case h_2=>cases hf
  rename_i d e1 C1 h1;split at hf
  case h_2=>cases hf
  rename_i b hb;cases hf
  refine⟨Z,Θ,env,C,d,e1,C',S,h1,λv H1 k f S1 b1=>⟨v,n,Hg d,b,rfl,b1.ty (aa4 hb),Uz hn hb,q _ H1 k (Fz.refl _) ⟨S.go k S1.cell,rfl⟩⟩⟩
theorem alr(hm':GK m=ao)(hn:GK n=ao)(ha:PE X a (eZ X.K f))(ht:PE X t (tC (.ty m)))(ht':PE X t' (tC (.ty n)))(hg:Gl X "isinstance")(hm:X.mg "isinstance"=aj)(hv:uv "isinstance"=aa (.builtin "isinstance"))
  (he:bJ [a,.Tuple [t,t'] x1 tp] X.env=(aJ,eval a X.env)::bJ [.Tuple [t,t'] x1 tp] X.env:=by rfl)(he2:bJ [.Tuple [t,t'] x1 tp] X.env=(aJ,eval (.Tuple [t,t'] x1 tp) X.env)::bJ [] X.env:=by rfl)
  (h3:bJ [t,t'] X.env=(aJ,eval t X.env)::bJ [t'] X.env:=by rfl)(h4:bJ [t'] X.env=(aJ,eval t' X.env)::bJ [] X.env:=by rfl)
  (hpl:(gH pos (bJ [.Tuple [t,t'] x1 tp] X.env)).any (·.1)=aJ:=by rfl):
  PE X (.Call (.Name "isinstance" p) [a,.Tuple [t,t'] x1 tp] [] pos) (tE X.K (Gn m n f)):=
 (J2 ag6 hg hm hv (n6 ha (n6 (K7 (n6 ht (n6 ht' qu h4) h3)) qu he2) he) (by decide) (by decide) he hpl).weak λσ H Q aP=>by
  obtain⟨Z,Θ,env,C,r,env',C',S,hf,q⟩:=aP
  unfold Gn at hf;split at hf
  case h_2=>cases hf
  rename_i d e1 C1 h1;split at hf
  case h_2=>cases hf
  rename_i b b' hb hb';cases hf
  refine⟨Z,Θ,env,C,d,e1,C',S,h1,λv H1 k f S1 b1=>⟨by show 2<=cu;rw[iK];decide,λc hc=>?_⟩⟩
  have kc:aZ Θ H1 (upd H1 c (.tup [.ty m,.ty n])):=aZ.upd hc;have s2:=S1.xW (bN.upd (o:=.tup [.ty m,.ty n]) hc);have b2:=b1.go S1 kc (Fz.refl _)
  refine⟨v,c,m,n,Hg d,b,b',rfl,dO,b2.ty (aa4 hb),Uz hm' hb,Uz hn hb',q _ _ (k.trans kc) (Fz.refl _) ⟨S.go (k.trans kc) s2.cell,rfl⟩⟩
end
def ins{α:Type}(lt:α->α->Bool)(x:α):List α->List α
 |[]=>[x]
 |y::r=>if lt y x then y::ins lt x r else x::y::r
def jX{α:Type}(lt:α->α->Bool):List α->List α
 |[]=>[]
 |x::r=>ins lt x (jX lt r)
section
variable{α:Type}{lt:α->α->Bool}
theorem RP(x:α):∀l:List α,(ins lt x l).Perm (x::l)
 |[]=>yW _
 |y::r=>by
  unfold ins;split
  .exact((RP x r).cons y).trans (O2 x y r)
  .exact yW _
theorem rW:∀l:List α,(jX lt l).Perm l
 |[]=>yW _
 |x::r=>(RP x _).trans ((rW r).cons x)
structure CV(lt:α->α->Bool)(P:α->Prop):Prop where
 adZ:∀a b,P a->P b->lt a b=ao->lt b a=aJ
 neg:∀a b c,P a->P b->P c->lt a c=ao->lt a b=ao\/lt b c=ao
 tot:∀a b,P a->P b->lt a b=aJ->lt b a=aJ->a=b
theorem acS(O:CV lt P)(hx:P x):∀{l:List α},(∀y∈l,P y)->l.Pairwise (λa b=>lt b a=aJ)->(ins lt x l).Pairwise (λa b=>lt b a=aJ)
 |[],_,_=>vd.mpr ⟨λ_ m=>(nomatch m),yQ⟩
 |y::r,hp,h=>by
  rw[vd] at h;have py:=hp y dN;unfold ins;split
  .rename_i hl;rw[vd]
   refine⟨λz m=>?_,acS O hx (λz m=>hp z (fP _ m)) h.2⟩
   rcases cB.mp ((RP x r).mem_iff.mp m) with rfl|m
   .exact O.adZ _ _ py hx hl
   .exact h.1 z m
  .rename_i hl;have hl:lt y x=aJ:=by simpa using hl
   rw[vd,vd]
   refine⟨λz m=>?_,h.1,h.2⟩
   rcases cB.mp m with rfl|m
   .exact hl
   .have pz:=hp z (fP _ m);cases hz:lt z x with
    |false=>rfl
    |true=>
     rcases O.neg z y x pz py hx hz with h1|h1
     .rw[h.1 z m] at h1;cases h1
     .rw[hl] at h1;cases h1
theorem RQ(O:CV lt P):∀{l:List α},(∀y∈l,P y)->(jX lt l).Pairwise (λa b=>lt b a=aJ)
 |[],_=>yQ
 |x::r,hp=>acS O (hp x dN) (λy m=>hp y (fP _ ((rW r).mem_iff.mp m))) (RQ O λy m=>hp y (fP _ m))
theorem acT(O:CV lt P):∀{l m:List α},(∀y∈l,P y)->l.Perm m->l.Pairwise (λa b=>lt b a=aJ)->m.Pairwise (λa b=>lt b a=aJ)->l=m
 |[],m,_,p,_,_=>(List.nil_perm.mp p).symm
 |x::r,[],_,p,_,_=>absurd p.length_eq (by simp)
 |x::r,y::t,hp,p,h1,h2=>by
  have pm:∀z∈y::t,P z:=λz m=>hp z (p.mem_iff.mpr m)
  rw[vd] at h1 h2;have e:x=y:=by
   have m1:x∈y::t:=p.mem_iff.mp dN;have m2:y∈x::r:=p.mem_iff.mpr dN;rcases cB.mp m1 with e|m1
   .exact e
   .rcases cB.mp m2 with e|m2
    .exact e.symm
    .exact O.tot x y (hp x dN) (pm y dN) (h2.1 x m1) (h1.1 y m2)
  subst e;rw[acT O (λz m=>hp z (fP _ m)) ((List.perm_cons x).mp p) h1.2 h2.2]
theorem ab6(O:CV lt P)(hp:∀y∈l,P y)(p:m.Perm l)(h:m.Pairwise (λa b=>lt b a=aJ)):m=jX lt l:=
 acT O (λy hy=>hp y (p.mem_iff.mp hy)) (p.trans (rW l).symm) h (RQ O hp)
end
def ltI(i j:Int):Bool:=decide (i<j)
theorem aec:CV ltI (λ_=>True):=⟨λa b _ _ h=>by unfold ltI at *;simp at *;lia,λa b c _ _ _ h=>by unfold ltI at *;simp at *;lia,λa b _ _ h1 h2=>by unfold ltI at *;simp at *;lia⟩
theorem aed:CV strLt (λ_=>True):=by
 refine⟨λa b _ _ h=>?_,λa b c _ _ _ h=>?_,λa b _ _ h1 h2=>?_⟩
 .exact ak8 (a:=.inr a) (b:=.inr b) h
 .exact amQ (a:=.inr a) (b:=.inr b) (c:=.inr c) rfl rfl h
 .exact ahr (amR (a:=.inr a) (b:=.inr b) rfl h1 h2)
def strsOf:List au->Option (List Str)
 |[]=>aa []
 |.str i::r=>match strsOf r with
  |some t=>aa (i::t)
  |none=>aj
 |_=>aj
theorem RT:∀{ds:List au}{ns:List Str}{vs:List V},strsOf ds=aa ns->cA E ds vs->vs=ns.map V.str
 |[],ns,vs,h,r=>by cases h;exact r
 |.str i::ds,ns,vs,h,r=>by
  unfold strsOf at h;split at h
  .rename_i t ht;cases h
   obtain⟨u,w,rfl,q,s⟩:=r
   rw[RT ht s];have:u=.str i:=q;rw[this];rfl
  .cases h
 |.none::_,_,_,h,_=>by cases h
 |.bool _::_,_,_,h,_=>by cases h
 |.int _::_,_,_,h,_=>by cases h
 |.list _::_,_,_,h,_=>by cases h
 |.tuple _::_,_,_,h,_=>by cases h
 |.dict _::_,_,_,h,_=>by cases h
def tQ:au->Option (List Bool)
 |.tuple xs=>(keysOf xs).map λks=>ks.map bV
 |_=>aj
def jw:Key->au
 |.inl i=>.int i
 |.inr x=>.str x
def yg:au->List Key
 |.tuple xs=>(keysOf xs).getD []
 |_=>[]
def tR(ds:List au):List au:=(tM (ds.map yg)).map λk=>.tuple (k.map jw)
def Gp(ds:List au):Option (List au):=if ds.length<64 then match intsOf ds with
  |some ns=>aa ((jX ltI ns).map .int)
  |none=>match strsOf ds with
   |some zs=>aa ((jX strLt zs).map .str)
   |none=>match ds with
    |[]=>aa []
    |d::_=>match tQ d with
     |some (b::sh)=>if(ds.all λe=>decide (tQ e=aa (b::sh))) then aa (tR ds) else aj
     |_=>aj
 else aj
def Kd:List au->Option Vl
 |[.list ds]=>(Gp ds).map λl=>.ow (.list l)
 |_=>aj
def UG(K:aM):List V->Hp->VK->Prop:=λxs H Q=>((∃(p:aq)(ns:List Int),xs=[.ref p]/\bR K H p (ns.map V.int)/\ns.length<64/\∀(l:aq)(ns':List Int),H l=aj->ns'.Perm ns->ns'.Pairwise (·<=·)->Q (.ref l) (upd H l (.lst (ns'.map V.int))))\/
 ∃(p:aq)(ns:List Str),xs=[.ref p]/\bR K H p (ns.map V.str)/\ns.length<64/\∀(l:aq)(ns':List Str),H l=aj->ns'.Perm ns->sortedS ns'=ao->Q (.ref l) (upd H l (.lst (ns'.map V.str))))\/
 ∃(p:aq)(rows:List Row)(b:Bool)(sh:List Bool),xs=[.ref p]/\bR K H p (rows.map λr=>V.ref r.1)/\rows.length<64/\(∀r∈rows,H r.1=aa (.tup (r.2.map kV))/\r.2.map bV=b::sh)/\∀(l:aq)(rows':List Row),H l=aj->rows'.Perm rows->rows'.map (·.2)=tM (rows.map (·.2))->Q (.ref l) (upd H l (.lst (rows'.map λr=>V.ref r.1)))
theorem ah3:ie X (.builtin "sorted") (UG X.K):=(agi.or agj).or af0
theorem sortI(p:ns'.Perm ns)(h:ns'.Pairwise (·<=·)):ns'=jX ltI ns:=ab6 aec (λ_ _=>trivial) p (h.imp λ{a b} hab=>by unfold ltI;simp;exact hab)
theorem acU:∀{x:Str}{r:List Str},risingS x r=ao->(x::r).Pairwise (λa b=>strLt b a=aJ)
 |x,[],_=>vd.mpr ⟨λ_ m=>(nomatch m),yQ⟩
 |x,y::r,h=>by
  unfold risingS at h;rw[jK,XS] at h;have ih:=acU h.2;have hxy:strLt y x=aJ:=by
   have:=h.1;unfold strLt;rw[lt_meets];exact this
  rw[vd]
  refine⟨λz m=>?_,ih⟩
  rcases cB.mp m with rfl|m
  .exact hxy
  .rw[vd] at ih;cases hz:strLt z x with
   |false=>rfl
   |true=>
    rcases aed.neg z y x trivial trivial trivial hz with h1|h1
    .rw[ih.1 z m] at h1;cases h1
    .rw[hxy] at h1;cases h1
theorem UJ(p:ns'.Perm ns)(h:sortedS ns'=ao):ns'=jX strLt ns:=ab6 aed (λ_ _=>trivial) p (by
 cases ns' with
 |nil=>exact yQ
 |cons x r=>exact acU h)
theorem Ke:∀{xs:List au}{ks:List Key},keysOf xs=aa ks->xs=ks.map jw
 |[],ks,h=>by cases h;rfl
 |x::xs,ks,h=>by
  unfold keysOf at h;split at h
  .rename_i k t h1 h2;cases h;rw[Ke h2];have:x=jw k:=by
    cases x<;>first|(cases h1;rfl)|cases h1
   rw[this];rfl
  .cases h
theorem Et:∀ks:List Key,keysOf (ks.map jw)=aa ks
 |[]=>rfl
 |k::ks=>by
  show(match cX (jw k),keysOf (ks.map jw) with|some k,some t=>aa (k::t)|_,_=>aj)=_
  rw[Et ks];cases k<;>rfl
theorem aiW{ds:List au}{rows rows':List Row}(e:ds=rows.map (λr=>.tuple (r.2.map jw)))(h:rows'.map (·.2)=tM (rows.map (·.2))):(rows'.map λr=>rP (r.2.map jw))=tR ds:=by
 have e1:ds.map yg=rows.map (·.2):=by
  rw[e,dW];refine u9 λr _=>?_
  show(keysOf (r.2.map jw)).getD []=r.2
  rw[Et];rfl
 unfold tR;rw[e1,<-h,dW];rfl
theorem aiX(h:∀d∈ds,(tQ d).isSome=ao):(tR ds).Perm ds:=by
 have:=(aiM (ds.map yg)).map λk=>rP (k.map jw)
 refine this.trans (agv ?_);rw[dW]
 refine(u9 λd hd=>?_).trans (Jq ds)
 have hs:=h d hd;cases d with
 |tuple xs=>
  show rP (((keysOf xs).getD []).map jw)=.tuple xs;cases hk:keysOf xs with
  |none=>
   have hs:((keysOf xs).map λks=>ks.map bV).isSome=ao:=hs;rw[hk] at hs;cases hs
  |some ks=>rw[Ke hk];rfl
 |_=>cases hs
theorem RV:∀{ds:List au}{vs:List V},(∀d∈ds,tQ d=aa sh)->cA E ds vs->∃rows:List Row,vs=rows.map (λr=>V.ref r.1)/\ds=rows.map (λr=>.tuple (r.2.map jw))/\∀r∈rows,E r.1=aa (.tup (r.2.map kV))/\r.2.map bV=sh
 |[],vs,_,r=>⟨[],r,rfl,λ_ m=>(nomatch m)⟩
 |d::ds,vs,h,r=>by
  obtain⟨u,w,rfl,q,s⟩:=r
  obtain⟨rows,e1,e2,e3⟩:=RV (λd m=>h d (fP _ m)) s
  have hd:=h d dN;cases d<;>first|cases hd|skip
  rename_i xs;have hd:(keysOf xs).map (λks=>ks.map bV)=aa sh:=hd;cases hk:keysOf xs with
  |none=>rw[hk] at hd;cases hd
  |some ks=>
   rw[hk] at hd
   obtain⟨a,vs',rfl,ha,rr⟩:=q
   rw[xr hk rr] at ha
   refine⟨(a,ks)::rows,by rw[e1];rfl,by rw[e2,Ke hk];rfl,λr m=>?_⟩
   rcases cB.mp m with rfl|m
   .exact⟨ha,gP hd⟩
   .exact e3 r m
theorem Eu:∀{rows:List Row},(∀r∈rows,E r.1=aa (.tup (r.2.map kV)))->cA E (rows.map λr=>.tuple (r.2.map jw)) (rows.map λr=>V.ref r.1)
 |[],_=>rfl
 |r::rows,h=>by
  refine⟨_,_,rfl,⟨r.1,r.2.map kV,rfl,h r dN,?_⟩,Eu λr m=>h r (fP _ m)⟩
  generalize r.2=ks;induction ks with
  |nil=>rfl
  |cons k ks ih=>exact⟨_,_,rfl,by cases k<;>rfl,ih⟩
theorem RW:∀{ds:List au}{ns:List Int},intsOf ds=aa ns->ds=ns.map .int
 |[],ns,h=>by cases h;rfl
 |.int i::ds,ns,h=>by
  unfold intsOf at h;split at h
  .rename_i t ht;cases h;rw[RW ht];rfl
  .cases h
 |.none::_,_,h=>by cases h
 |.bool _::_,_,h=>by cases h
 |.str _::_,_,h=>by cases h
 |.list _::_,_,h=>by cases h
 |.tuple _::_,_,h=>by cases h
 |.dict _::_,_,h=>by cases h
theorem R0:∀{ds:List au}{ns:List Str},strsOf ds=aa ns->ds=ns.map .str
 |[],ns,h=>by cases h;rfl
 |.str i::ds,ns,h=>by
  unfold strsOf at h;split at h
  .rename_i t ht;cases h;rw[R0 ht];rfl
  .cases h
 |.none::_,_,h=>by cases h
 |.bool _::_,_,h=>by cases h
 |.int _::_,_,h=>by cases h
 |.list _::_,_,h=>by cases h
 |.tuple _::_,_,h=>by cases h
 |.dict _::_,_,h=>by cases h
theorem aiY{K:aM}:lK K (UG K) Kd:=by
 intro Z Θ env C σ H xs ds0 res S b e Q q;unfold Kd at e;split at e
 case h_2=>cases e
 rename_i ds;cases hs:Gp ds with
 |none=>rw[hs] at e;cases e
 |some l=>
  rw[hs] at e;cases e
  obtain⟨v,rfl,bb⟩:=ou b
  obtain⟨a,vs,rfl,ha,r⟩:=bb.lst
  unfold Gp at hs;split at hs
  case isFalse=>cases hs
  rename_i hl;split at hs
  .rename_i ns hns;cases hs;have ev:=RK hns r;subst ev;refine .inl (.inl ⟨a,ns,rfl,bR.of ha,by rw[RW hns,bw] at hl;exact hl,λl ns' hn p hp=>?_⟩);rw[sortI p hp];exact q _ _ (aZ.upd hn) (oO S (aaT _) hn)
  .split at hs
   .rename_i ns hns;cases hs;have ev:=RT hns r;subst ev;refine .inl (.inr ⟨a,ns,rfl,bR.of ha,by rw[R0 hns,bw] at hl;exact hl,λl ns' hn p hp=>?_⟩);rw[UJ p hp];exact q _ _ (aZ.upd hn) (oO S (Ry _) hn)
   .split at hs
    .cases hs
     cases(show vs=[] from r)
     exact .inl (.inl ⟨a,[],rfl,bR.of ha,by decide,λl ns' hn p hp=>by
      rw[List.perm_nil.mp p];exact q _ _ (aZ.upd hn) (oO S rfl hn)⟩)
    .rename_i d0 dr hi1 hi2;split at hs
     case h_2=>cases hs
     rename_i b0 sh hsh;split at hs
     case isFalse=>cases hs
     rename_i hall;cases hs;have hall':∀d∈d0::dr,tQ d=aa (b0::sh):=λd m=>of_decide_eq_true (oG.mp hall d m)
     obtain⟨rows,e1,e2,e3⟩:=RV hall' r
     subst e1;refine .inr ⟨a,rows,b0,sh,rfl,bR.of ha,?_,λr m=>⟨jn (e3 r m).1,(e3 r m).2⟩,λl rows' hn p hp=>?_⟩
     .have:=congrArg mq e2;rw[bw] at this;rw[<-this];exact hl
     .have es:(rows'.map λr=>rP (r.2.map jw))=tR (d0::dr):=aiW e2 hp;rw[<-es] at q;exact q _ _ (aZ.upd hn) (oO S (Eu λr m=>(e3 r (p.mem_iff.mp m)).1) hn)
def Kf(ds:List au):Option (List au):=if ds.length<64 then match strsOf ds with
  |some ns=>aa ((jX strLt (dedup ns)).map .str)
  |none=>aj
 else aj
section
variable{X:Cx}{l:Expr}{f:FB}{p1 p2 pos1 pos2:Pos}
end
theorem als(hu:A.units+1<gj)(I:Inv X pins σ H s)(g:pY H a y o)(ry:RelV y u)(rd:RelV d r)(h:∀w' s',Inv X pins σ H s'->RelV (o.getD d) w'->Q w' s'):
  aR (model X.prog X.w) A (call (.builtin "dict.get") [.ref a,u,r]) Q E s:=by
 rcases g with g|⟨ha,⟨b,ks,rfl,hb⟩,rfl⟩
 .exact acB hu I g ry rd h
 .exact acB hu (I.Hh ha) (pY.re ha hb) ry rd λw' s' I'=>h w' s' (I'.MT ha)
def aoc(td ty tx:TE):TE:=λσ H Q=>td σ H λx H1=>∃a,x=.ref a/\IsD H1 a/\ty σ H1 λy H2=>tx σ H2 λz H3=>∃o,pY H3 a y o/\Q (o.getD z) H3
theorem alu(hu:X.A.units+1<gj)(ho:PE X o td)(he:PE X e ty)(hf:PE X f tx)(m:M2 X o "get" apos e f cpos):PE X (.Call (.Attribute o "get" apos) [e,f] [] cpos) (aoc td ty tx):=by
 intro pins s σ H Q I h;refine af6 m.base m.few m.line afi Xk PySem.F.type_dict_get (bO (ho pins s σ H _ I h) λu s1 aP=>?_)
 obtain⟨x,H1,I1,rx,a,ex,d,q1⟩:=aP
 subst ex;obtain rfl:u=dH a:=rx
 obtain⟨t1,t2,_⟩:=amJ I1 d
 refine⟨t1,t2,?_⟩
 rw[m.trees];refine afm rfl (afz (HY (bO (he pins s1 σ H1 _ I1 q1) λiv s2 ⟨y,H2,I2,ry,q2⟩=>
  HY (bO (hf pins s2 σ H2 _ I2 q2) λfv s3 ⟨z,H3,I3,rz,ov,g,q3⟩=>N5 ?_))))
 exact als hu I3 g ry rz λw' s4 I4 rw'=>⟨_,H3,I4,rw',q3⟩
def Dk(fd fk:FB)(fx:FE):FE:=λenv C=>match fd env C with
 |some (.dict kvs,e1,C1)=>match fk e1 C1 with
  |some (dk,e2,C2)=>match fx e2 C2 with
   |some (r,e3,C3)=>match nG kvs dk with
    |some (some d)=>aa (.im d,rst (.im d) env e3,C3)
    |some none=>aa (still r,rst (still r) env e3,C3)
    |none=>aj
   |none=>aj
  |none=>aj
 |_=>aj
theorem am7(hu:X.A.units+1<gj)(ho:PE X o (eZ X.K fd))(he:PE X e (eZ X.K fk))(hf:PE X f (tE X.K fx))(m:M2 X o "get" apos e f cpos):PE X (.Call (.Attribute o "get" apos) [e,f] [] cpos) (tE X.K (Dk fd fk fx)):=(alu hu ho he hf m).weak λσ H Q aP=>by
 obtain⟨Z,Θ,env,C,r,env',C',S,hf,q⟩:=aP
 unfold Dk at hf;split at hf
 case h_2=>cases hf
 rename_i kvs e1 C1 h1;split at hf
 case h_2=>cases hf
 rename_i dk e2 C2 h2;split at hf
 case h_2=>cases hf
 rename_i r0 e3 C3 h3
 refine⟨Z,Θ,env,C,_,e1,C1,S,h1,λv H1 k1 f1 S1 b1=>?_⟩
 obtain⟨a,vs,rfl,da,rr⟩:=b1.dct
 refine⟨a,rfl,?_,Z,Θ,e1,C1,dk,e2,C2,S1,h2,λw H2 k2 f2 S2 b2=>⟨Z,Θ,e2,C2,r0,e3,C3,S2,h3,λz H3 k3 f3 R3=>?_⟩⟩
 .rcases da with⟨ks,_,h⟩|⟨ks,_,h⟩
  .exact .inl ⟨_,.inl h⟩
  .exact .inr ⟨_,.inl h⟩
 have Dv:=(b1.go S1 k2 f2).go S2 k3 f3;have b2':=b2.go S2 k3 f3
 obtain⟨S3,a3⟩:=R3.arg
 have kk:=(k1.trans k2).trans k3;have ff:=(f1.trans f2).trans f3;split at hf
 .rename_i d hl;cases hf
  obtain⟨a',o',e',g,hq⟩:=Dv.get b2' hl
  cases e';rcases hq with⟨v',rfl,d',e1',r1,_⟩|⟨_,e1'⟩
  .cases e1'
   exact⟨aa v',g,q v' H3 kk (ff.rst _) (Res.rst S kk ⟨S3,r1⟩)⟩
  .cases e1'
 .rename_i hl;cases hf
  obtain⟨a',o',e',g,hq⟩:=Dv.get b2' hl
  cases e';rcases hq with⟨v',rfl,d',e1',_⟩|⟨rfl,_⟩
  .cases e1'
  .exact⟨aj,g,q z H3 kk (ff.rst _) (((R3.still).from (k1.trans k2)).rst S kk)⟩
 .cases hf
def Lf:au->au->Option Vl
 |.str z,.list ds=>match strsOf ds with
  |some ys=>if(ys.map (·.length)).sum+ys.length*z.length<=f9 then aa (.im (.str (Txt.join z ys))) else aj
  |none=>aj
 |_,_=>aj
def tD(f g:FB):FE:=aO Lf f g
theorem Tv(ho:PE X o (eZ X.K f))(he:PE X e (eZ X.K g))
  (hbase:vm o "join" X.env (eval o X.env)=eval o X.env:=by rfl)
  (hfew:((gH cpos (bJ [e] X.env)).all (λx=>!x.1)&&(zq cpos (zf [] X.env)).all (λx=>x.1.isSome)
   &&decide (([e]:List Expr).length+([]:List oh).length+(if([]:List oh).isEmpty then 0 else 1)<30))=ao:=by rfl)
  (hline:(apos.endLine==cpos.line)=ao:=by rfl)(hs:bJ [e] X.env=(aJ,eval e X.env)::bJ [] X.env:=by rfl)(hplain:(gH cpos (bJ [] X.env)).any (·.1)=aJ:=by rfl):
  PE X (.Call (.Attribute o "join" apos) [e] [] cpos) (tE X.K (tD f g)):=
 (Gh PySem.F.plainAttrs_str PySem.F.slot_str_join PySem.F.type_str_join (tW.r ak2) ho (n6 he qu hs) hbase hfew hline hs hplain).weak λσ H Q aP=>by
  obtain⟨Z,Θ,env,C,r,env',C',S,hf,q⟩:=aP
  unfold tD aO at hf;split at hf
  case h_2=>cases hf
  rename_i x e1 C1 h1;split at hf
  case h_2=>cases hf
  rename_i y e2 C2 h2;split at hf
  case h_2=>cases hf
  rename_i r0 h3;cases hf
  refine⟨Z,Θ,env,C,x,e1,C1,S,h1,λv H1 k1 f1 S1 b1=>?_⟩
  unfold Lf at h3;split at h3
  case h_2=>cases h3
  rename_i z ds;split at h3
  case h_2=>cases h3
  rename_i ys hys;split at h3
  case isFalse=>cases h3
  rename_i hl;cases h3;cases b1.str
  refine⟨rfl,Z,Θ,e1,C1,_,e2,C',S1,h2,λw H2 k2 f2 S2 b2=>?_⟩
  obtain⟨a,vs,rfl,ha,rr⟩:=b2.lst
  rw[RT hys rr] at ha;have kk:=k1.trans k2
  refine⟨z,a,ys,rfl,rfl,bR.of ha,by unfold f9 at hl;lia,?_⟩
  exact q _ H2 kk ((f1.trans f2).rst _) (Res.rst S kk ⟨S2,rfl⟩)
abbrev FO:=En->Ce->Option (Option Int×Ce)
inductive Hl(K:aM)(f:FO)(σ:St)(H:Hp)(Q:Option Int->Hp->Prop):Prop
 |mk (Z Θ:List aq) (env:En) (C:Ce) (o:Option Int) (C':Ce) (S:Sm K Z Θ env C σ H) (hf:f env C=aa (o,C')) (q:∀H',aZ Θ H H'->Sm K Z Θ env C' σ H'->Q o H'):Hl K f σ H Q
def jl:FO:=λ_ C=>aa (aj,C)
def fO(f:FB):FO:=λenv C=>match f env C with
 |some (.int i,_,C1)=>aa (aa i,C1)
 |_=>aj
def lH{α:Type}(xs:List α)(lo hi:Option Int):List α:=(xs.drop (HT.cH xs.length 0 lo)).take (HT.cH xs.length xs.length hi-HT.cH xs.length 0 lo)
def m7(lo hi:Option Int):au->Option Vl
 |.str z=>if z.length<=f9 then aa (.im (.str (Txt.slice z lo hi))) else aj
 |.list ds=>aa (.ow (.list (lH ds lo hi)))
 |.tuple ds=>aa (.im (.tuple (lH ds lo hi)))
 |_=>aj
def gF(f:FB)(lo hi:FO):FE:=λenv C=>match f env C with
 |some (d,e1,C1)=>match lo e1 C1 with
  |some (l,C2)=>match hi e1 C2 with
   |some (h,C3)=>match m7 l h d with
    |some r=>aa (r,rst r env e1,C3)
    |none=>aj
   |none=>aj
  |none=>aj
 |none=>aj
theorem Tw{E:Hp}{ds:List au}{vs:List V}{lo hi:Option Int}(r:cA E ds vs):cA E (lH ds lo hi) (tK vs lo hi):=by
 unfold lH tK;rw[jo r];exact aaR _ (aaS _ r)
section
variable{X:Cx}{e:Expr}{lo hi:Option Expr}{pos p2:Pos}
theorem PO.weak(h:PO X o t)(w:∀σ H Q,t' σ H Q->t σ H Q):PO X o t':=λpins s σ H Q I q=>h pins s σ H Q I (w σ H Q q)
theorem uQ:PO X aj (Hl X.K jl):=akQ.weak λσ H Q aP=>by
 obtain⟨Z,Θ,env,C,o,C',S,hf,q⟩:=aP
 cases hf;exact q H (aZ.refl _ _) S
theorem lU(h:PE X e (eZ X.K f)):PO X (aa e) (Hl X.K (fO f)):=(akR h).weak λσ H Q aP=>by
 obtain⟨Z,Θ,env,C,o,C',S,hf,q⟩:=aP
 unfold fO at hf;split at hf
 .rename_i i e1 C1 h1;cases hf
  exact⟨Z,Θ,env,C,_,e1,C',S,h1,λv H1 k f S1 b1=>⟨i,b1,q H1 k (S.go k S1.cell)⟩⟩
 .cases hf
theorem oZ{f:FB}{flo fhi:FO}(he:PE X e (eZ X.K f))(hl:PO X lo (Hl X.K flo))(hh:PO X hi (Hl X.K fhi)):PE X (.Subscript e (.Slice lo hi aj p2) pos) (tE X.K (gF f flo fhi)):=(ajw ((amM.or akT).or ak9) he hl hh).weak λσ H Q aP=>by
 obtain⟨Z,Θ,env,C,r,env',C',S,hf,q⟩:=aP
 unfold gF at hf;split at hf
 case h_2=>cases hf
 rename_i d e1 C1 h1;split at hf
 case h_2=>cases hf
 rename_i l C2 h2;split at hf
 case h_2=>cases hf
 rename_i h C3 h3;split at hf
 case h_2=>cases hf
 rename_i r0 h4;cases hf
 refine⟨Z,Θ,env,C,d,e1,C1,S,h1,λv H1 k1 f1 S1 b1=>⟨Z,Θ,e1,C1,l,C2,S1,h2,λH2 k2 S2=>⟨Z,Θ,e1,C2,h,C',S2,h3,λH3 k3 S3=>?_⟩⟩⟩
 have kk:=(k1.trans k2).trans k3;have b3:=b1.go S1 (k2.trans k3) (Fz.refl _);have fin:∀{w:V}{H4:Hp},aZ Θ H3 H4->Res X.K Z Θ e1 C' σ H3 H4 r w->Q w H4:=λ{w H4} k4 R=>q w H4 (kk.trans k4) (f1.rst _) ((R.from kk).rst S (kk.trans k4))
 cases d<;>first|cases h4|skip
 .rename_i z;simp only[m7] at h4;split at h4
  .rename_i hz;cases h4;cases b3.str;exact .inl (.inl ⟨z,rfl,rZ hz,fin (aZ.refl _ _) (jE S3 rfl rfl)⟩)
  .cases h4
 .obtain⟨a,vs,rfl,ha,rr⟩:=b3.lst
  exact .inl (.inr ⟨a,vs,rfl,bR.of ha,λp hp=>fin (aZ.upd hp) (oO S3 (Tw rr) hp)⟩)
 .rename_i ds;have b3':=b3
  obtain⟨a,vs,rfl,ha,rr⟩:=b3.tup
  refine .inr ⟨a,vs,rfl,dj.of ha,λec=>?_,λp hp=>fin (aZ.upd hp) (Kv S3 (Tw rr) hp)⟩;have rc:=Tw (lo:=l) (hi:=h) rr;rw[ec] at rc;refine fin (aZ.refl _ _) ⟨S3,a,vs,rfl,Cj S3 ha,rc⟩
end
def yh(T:iD)(ft:FT)(fk fv:FE)(fs:En):List au->List (au×au)->Ce->Option (List (au×au)×Ce)
 |[],acc,C=>aa (acc,C)
 |d::r,acc,C=>match yL T d with
  |some ts=>match ft (eN ts++fs) C with
   |some (false,C1)=>yh T ft fk fv fs r acc C1
   |some (true,C1)=>match fk (eN ts++fs) C1 with
    |some (.im k,_,C2)=>match fv (eN ts++fs) C2 with
     |some (x,_,C3)=>match still x,cX k with
      |.im y,some kk=>if acc.length<f9 then yh T ft fk fv fs r (nR cX kk k y acc) C3 else aj
      |_,_=>aj
     |none=>aj
    |_=>aj
   |none=>aj
  |none=>aj
def z8:List (au×au)->Bool
 |[]=>ao
 |p::r=>kO p.2&&z8 r
def Ho(fi:FI)(T:iD)(ft:FT)(fk fv:FE)(js:List Nat):FE:=λenv C=>match fi env C with
 |some (its,e1,C1)=>match yh T ft fk fv (frB js e1) its [] C1 with
  |some (kvs,C2)=>aa (.ow (.dict kvs),if z8 kvs then e1 else iG js e1,C2)
  |none=>aj
 |none=>aj
theorem jk.kO(t:∀a vs,H a=aa (.tup vs)->H' a=aa (.tup vs)):∀{ds:List (au×au)}{vs:List V},z8 ds=ao->jk H ds vs->jk H' ds vs
 |[],_,_,h=>h
 |(k,d)::ds,vs,n,h=>by
  obtain⟨v,r,e,q,w⟩:=h
  have n':L2.kO d=ao/\z8 ds=ao:=by rw[z8,jK] at n;exact n
  exact⟨v,r,e,RZ.kO t n'.1 q,jk.kO t n'.2 w⟩
def VP(fk fv:FE):En->List (au×au)->Ce->Option (List (au×au)×Ce):=λenv acc C=>(fk env C).bind λp=>(tY p.1).bind λk=>(fv env p.2.2).bind λq=>(tY (still q.1)).bind λy=>(cX k).bind λkk=>bif decide (acc.length<f9) then aa (nR cX kk k y acc,q.2.2) else aj
theorem Tz:∀{its:List au}{acc:List (au×au)}{C:Ce},yh T ft fk fv fs its acc C=aa p->uO T ft (VP fk fv) fs its acc C=aa p
 |[],acc,C,h=>h
 |d::r,acc,C,h=>by
  unfold yh at h;unfold uO;split at h
  case h_2=>cases h
  rename_i ts ht;rw[ht,jx];split at h
  case h_3=>cases h
  .rename_i C1 hf;rw[hf,jx];exact Tz h
  .rename_i C1 hf;rw[hf,jx]
   show(VP fk fv (eN ts++fs) acc C1).bind _=_
   unfold VP;split at h
   case h_2=>cases h
   rename_i k e2 C2 hk;rw[hk,jx,show tY (.im k)=aa k from rfl,jx];split at h
   case h_2=>cases h
   rename_i x e3 C3 hx;rw[hx,jx];split at h
   case h_2=>cases h
   rename_i y kk hy hkk;rw[hy,show tY (.im y)=aa y from rfl,jx,hkk,jx];split at h
   case isFalse=>cases h
   rename_i hl;rw[gk hl];exact Tz h
inductive M5(P:List aq)(D:aq)(acc:List (au×au))(H:Hp):Prop
 |mk (ks:List Key) (vs:List V) (hk:cO cX acc=aa ks) (hD:H D=aa (.dK (ks.zip vs))) (r:jk (er P H) acc vs):M5 P D acc H
theorem alv{K:aM}{fi:FI}{T:iD}{ft:FT}{fk fv:FE}{js:List Nat}:∀σ H Q,tE K (Ho fi T ft fk fv js) σ H Q->tDC K (tI K ao fi) T (λ_=>gm K ft) (λ_=>tE K fk) (λ_=>tE K fv) js σ H Q:=by
 rintro σ H Q ⟨Z,Θ,env,C,res,env',C',S,hf,q⟩;unfold Ho at hf;split at hf
 case h_2=>cases hf
 rename_i its e1 C1 h1;split at hf
 case h_2=>cases hf
 rename_i kvs C2 h2;cases hf
 refine⟨Z,Θ,env,C,its,e1,C1,S,h1,λJ H1 k1 f1 S1 it D hD b=>?_⟩
 have rG:D∉Θ:=λm=>(S1.cell.dom D m).ne hD
 have Wu:D∈bf (lX D Z (iG js e1) σ) Θ [] []:=(pO (js:=js) rfl).mpr (.inl rfl);have Du:∀a Hx Hy,aZ Θ Hx Hy->M5 (bf (lX D Z (iG js e1) σ) Θ [] []) D a Hx->M5 (bf (lX D Z (iG js e1) σ) Θ [] []) D a Hy:=λa Hx Hy kk r=>by
  obtain⟨ks,vs,g1,g2,g3⟩:=r
  exact⟨ks,vs,g1,kk.keep _ _ g2 rG,g3.same (lR kk (λa m=>jN.mpr (.inr (.inl m))) λa m=>.inl m)⟩
 refine RL (a0:=[]) (Ob:=M5 (bf (lX D Z (iG js e1) σ) Θ [] []) D) S1 it hD ⟨[],[],rfl,dO,rfl⟩ Du (λa Hx r=>by obtain⟨ks,vs,_,e,_⟩:=r;exact⟨_,e,λ_ z=>nomatch z⟩) ?_ (Tz h2) λH2 ki ci r=>?_
 .intro ts acc C2 p vs H4 Q hs S4 k4 r4 hQ
  obtain⟨w,hfk,hs⟩:=jz hs
  obtain⟨kd,VR,hs⟩:=jz hs
  obtain⟨w2,hfv,hs⟩:=jz hs
  obtain⟨yd,ud,hs⟩:=jz hs
  obtain⟨kk,hkd,hs⟩:=jz hs
  have VR:=FQ VR;have ud:=FQ ud;cases hlt:decide (acc.length<f9) with
  |false=>rw[hlt] at hs;cases hs
  |true=>
  rw[hlt] at hs;cases hs
  refine⟨_,Θ,_,C2,w.1,w.2.1,w.2.2,S4,hfk,λy H5 k5 f5 R5=>?_⟩
  rw[VR] at R5;have S5:=S4.go k5 R5.1.cell
  refine⟨_,Θ,_,w.2.2,w2.1,w2.2.1,w2.2.2,S5,hfv,λz H6 k6 f6 R6=>?_⟩
  obtain⟨S6,r6⟩:=R6.uN ud
  obtain⟨ks,vW,hks,hD6,r6'⟩:=Du _ _ _ (k5.trans k6) r4
  have Wv:bU w2.2.1 (vs.map aa++frees js σ)=[]:=by
   have:=(Fz.own (σ:=vs.map aa++frees js σ) f6)
   rw[Cr Le] at this;exact agm.mp this
  have e6:er (bf (lX D Z (iG js e1) σ) Θ w2.2.1 (vs.map aa++frees js σ)) H6=er (bf (lX D Z (iG js e1) σ) Θ [] []) H6:=qw λa=>by rw[pO (js:=js) Wv,pO (js:=js) rfl]
  rw[e6] at r6
  obtain⟨ks',vs',g3,g4,g5⟩:=Kz hkd r6 hks r6'
  have lt:=of_decide_eq_true hlt
  refine⟨ks.zip vW,kk,hD6,acL hkd R5.2,?_,hQ _ (Ux (Hy:=H6) hD ((k4.trans k5).trans k6)) (Kc rG S6.cell) ⟨ks',vs',g3,by rw[g5];exact dO,?_⟩⟩
  .rw[Ot,iK,uz hks];unfold f9 at lt;lia
  .rw[Ld Wu];exact g4
 .obtain⟨ks,vW,hks,hDi,ri⟩:=r
  refine q _ H2 (k1.trans ki) ?_ ?_
  .split
   .exact f1
   .exact f1.trans (Cq js e1)
  .refine⟨D,rfl,k1.none hD,?_⟩
   split
   .rename_i hn;have SD:=S1.yc hD ki ⟨_,hDi,λ_ z=>nomatch z⟩ ci
    exact⟨SD,vW,.inl ⟨ks,hks,hDi⟩,ri.kO (λa vs e=>Cj SD (jn e)) hn⟩
   .refine⟨(S1.fz (Cq js e1)).yc hD ki ⟨_,hDi,λ_ z=>nomatch z⟩ ci,vW,.inl ⟨ks,hks,hDi⟩,?_⟩
    rw[qw (P':=bf (D::Z) Θ (iG js e1) σ) λa=>by rw[pO (js:=js) rfl];show _↔a∈D::bf Z Θ (iG js e1) σ;rw[cB]] at ri;exact ri
section
variable{X:Cx}{NT NF:List Str}{js:List Nat}{kx vx tg iter:Expr}{ifs:List Expr}{T:iD}{fi:FI}{ft:FT}{fk fv:FE}{scope:jO}{pos:Pos}
theorem aj1(B:qz X NT NF js scope)(tk:pU tg NT T)(hc:X.calm=ao)(hu:X.A.units+1<gj)(hi:PI X tg iter (tI X.K ao fi))
  (hin:∀b,oF (X.bk (NT++NF) scope b) ifs (gm X.K ft)/\PE (X.bk (NT++NF) scope b) kx (tE X.K fk)/\PE (X.bk (NT++NF) scope b) vx (tE X.K fv))
  (hsw:ux (.DictComp kx vx [⟨tg,iter,ifs,0⟩] scope pos) (aa (.Name y pos')) spos.line X.env=pure ao)(hN:X.N.Nodup)(hI:X.N[i]?=aa y)(hy:X.env.scope.names.lookup y=aa .local)
  (hs:∀x,vf iter X.env x=pure x:=by intro _;rfl):PS X (.Assign [.Name y pos'] (.DictComp kx vx [⟨tg,iter,ifs,0⟩] scope pos) spos) (tS X.K (di i (Ho fi T ft fk fv js))):=(ajG B tk hc hu hi hin hsw hN hI hy hs).weak (RG alv)
end
section
variable{X:Cx}
theorem aha(hc:X.calm=ao):ie X (.type "list") (λxs H Q=>∃(d:aq)(kvs:List (Key×V)),xs=[.ref d]/\H d=aa (.dK kvs)/\∀l,H l=aj->Q (.ref l) (upd H l (.lst (kvs.map λkv=>kV kv.1)))):=by
 intro pins s σ H xs us Q I r h
 obtain⟨d,kvs,rfl,hd,q⟩:=h
 obtain⟨u,rfl,ru⟩:=vals1 r
 cases ru
 obtain⟨z,lo,vs,rel,dd⟩:=I.hok d _ hd
 obtain⟨ep,da⟩:=dd.dictAt
 have lv:vs.length=kvs.length:=(Paired.length rel).symm;refine kdl_call (kdl_dict (knd:=jy X.prog X.w) (ep:=ep) lo) (I.ok.hd hc) da (by rw[lv];exact z) λh' tk acc' c' kp e hacc=>?_
 have hl:Vals (kvs.map λkv=>kV kv.1) acc'.toList:=by
  have h2:acc'.toList.length=vs.length:=by rw[j5];exact hacc.1
  have h3:∀i v,acc'.toList[i]?=aa v->∃k x,vs[i]?=aa (k,x)/\(jy X.prog X.w).is k v=ao:=λi v e=>hacc.2 i v (by rw[<-Ak];exact e)
  clear e hacc dd da;generalize acc'.toList=us at h2 h3;clear hd q z lv;induction rel generalizing us with
  |nil=>
   cases us with
   |nil=>exact .nil
   |cons _ _=>cases h2
  |@cons p w ps ws hp _ ih=>
   cases us with
   |nil=>cases h2
   |cons u us=>
    refine .cons ?_ (ih us (by simpa using h2) λi v e=>by simpa using h3 (i+1) v (by simpa using e))
    obtain⟨k,x,e1,e2⟩:=h3 0 u rfl
    simp at e1;have ek:k=p.1:=by rw[hp.1,e1]
    subst ek;rcases rQ e2 with⟨i,t,e3,e4⟩|⟨y,t,e3,e4⟩
    .show RelV (kV p.1) u;rw[e3,e4];exact⟨t,rfl⟩
    .show RelV (kV p.1) u;rw[e3,e4];exact⟨t,rfl⟩
 refine⟨.ref s.heap.objs.size,_,I.laid (t':=tk) kp (cg _) (show fL X.prog X.w _ h' _ (.lst (kvs.map λkv=>kV kv.1)) from⟨by rw[bw];exact z,acc'.toList,c',hl,by simpa using e⟩),rfl,q _ (I.hok.fresh (cg _))⟩
def KD:List au->Option Vl
 |[.list ds]=>aa (.ow (.list ds))
 |[.tuple ds]=>aa (.ow (.list ds))
 |[.dict kvs]=>if(cO cX kvs).isSome then aa (.ow (.list (kvs.map (·.1)))) else aj
 |_=>aj
def acV(K:aM):List V->Hp->VK->Prop:=λxs H Q=>(∃p ys,xs=[.ref p]/\(bR K H p ys\/dj K H p ys)/\∀l,H l=aj->Q (.ref l) (upd H l (.lst ys)))\/∃(d:aq)(kvs:List (Key×V)),xs=[.ref d]/\H d=aa (.dK kvs)/\∀l,H l=aj->Q (.ref l) (upd H l (.lst (kvs.map λkv=>kV kv.1)))
theorem ah4(hc:X.calm=ao):ie X (.type "list") (acV X.K):=ag4.or (aha hc)
theorem aa5:∀{kvs:List (au×au)}{ks:List Key}{vs:List V},cO cX kvs=aa ks->ks.length=vs.length->cA E (kvs.map (·.1)) ((ks.zip vs).map λkv=>kV kv.1)
 |[],ks,vs,h,_=>by cases h;rfl
 |(p,d)::kvs,ks,vs,h,hl=>by
  unfold cO at h;split at h
  .rename_i k t h1 h2;cases h;cases vs with
   |nil=>cases hl
   |cons v vs=>
    refine⟨_,_,rfl,?_,aa5 h2 (by simpa using hl)⟩
    cases p<;>first|(cases h1;rfl)|cases h1
  .cases h
theorem aj2{K:aM}:lK K (acV K) KD:=by
 intro Z Θ env C σ H xs ds res S b e Q q;unfold KD at e;split at e
 case h_4=>cases e
 .cases e
  obtain⟨v,rfl,bb⟩:=ou b
  obtain⟨a,vs,rfl,ha,r⟩:=bb.lst
  exact .inl ⟨a,vs,rfl,.inl (bR.of ha),λl hl=>q _ _ (aZ.upd hl) (oO S r hl)⟩
 .cases e
  obtain⟨v,rfl,bb⟩:=ou b
  obtain⟨a,vs,rfl,ha,r⟩:=bb.tup
  exact .inl ⟨a,vs,rfl,.inr (dj.of ha),λl hl=>q _ _ (aZ.upd hl) (oO S r hl)⟩
 .split at e
  case isFalse=>cases e
  rename_i kvs hs;cases e
  obtain⟨v,rfl,bb⟩:=ou b
  obtain⟨a,vs,rfl,da,r⟩:=bb.dct
  rcases da with⟨ks,h1,ha⟩|⟨ks,⟨ne,h2⟩,ha⟩
  .exact .inr ⟨a,_,rfl,ha,λl hl=>q _ _ (aZ.upd hl) (oO S (aa5 h1 (by rw[uz h1,zy r])) hl)⟩
  .obtain⟨ks',h1⟩:=wG.mp hs
   exact absurd (vA h1 h2) ne
def TF:List au->Option Vl
 |[.dict []]=>aj
 |[.dict ((k,v)::r)]=>match tQ k with
  |some (b::sh)=>if r.length<63/\(((k,v)::r).all λp=>decide (tQ p.1=aa (b::sh)))=ao then aa (.ow (.list (tR (((k,v)::r).map (·.1))))) else aj
  |_=>aj
 |_=>aj
theorem aam:∀{kvs:List (au×au)}{ks:List (List Key)},cO rA kvs=aa ks->(∀p∈kvs,tQ p.1=aa sh)->kvs.map (·.1)=ks.map (λk=>.tuple (k.map jw))/\∀k∈ks,k.map bV=sh
 |[],ks,h,_=>by cases h;exact⟨rfl,λ_ m=>(nomatch m)⟩
 |(p,d)::kvs,ks,h,hs=>by
  unfold cO at h;split at h
  .rename_i k t h1 h2;cases h
   obtain⟨g1,g2⟩:=aam h2 λq m=>hs q (fP _ m)
   have hp:=hs (p,d) dN
   obtain⟨xs,rfl,hx⟩:∃xs,p=.tuple xs/\keysOf xs=aa k:=by
    have h1':rA p=aa k:=h1;cases p with
    |tuple xs=>exact⟨xs,rfl,h1'⟩
    |_=>cases h1'
   have hp:(keysOf xs).map (λks=>ks.map bV)=aa sh:=hp;rw[hx] at hp
   refine⟨by rw[cJ,g1,Ke hx];rfl,λk' m=>?_⟩
   rcases cB.mp m with rfl|m
   .exact gP hp
   .exact g2 k' m
  .cases h
theorem aj3{K:aM}:lK K (λxs H Q=>∃(d:aq)(kvs:List (List Key×V))(b:Bool)(sh:List Bool),xs=[.ref d]/\H d=aa (.dT kvs)/\kvs.length<64/\(∀kv∈kvs,kv.1.map bV=b::sh)/\
  ∀(l:aq)(rows:List Row),H l=aj->(rows.map (·.2)).Perm (kvs.map (·.1))->rows.map (·.2)=tM (kvs.map (·.1))->(∀r∈rows,H r.1=aa (.tup (r.2.map kV)))->Q (.ref l) (upd H l (.lst (rows.map λr=>V.ref r.1)))) TF:=by
 intro Z Θ env C σ H xs ds res S b e Q q;unfold TF at e;split at e
 .cases e
 .rename_i k0 v0 r0;split at e
  case h_2=>cases e
  rename_i b0 sh hsh;split at e
  case isFalse=>cases e
  rename_i hall;cases e;have hall':∀p∈(k0,v0)::r0,tQ p.1=aa (b0::sh):=λd m=>of_decide_eq_true (oG.mp hall.2 d m)
  obtain⟨v,rfl,bb⟩:=ou b
  obtain⟨a,vs,rfl,da,r⟩:=bb.dct
  rcases da with⟨ks,h1,ha⟩|⟨ks,⟨ne,h2⟩,ha⟩
  .exfalso;unfold cO at h1;split at h1
   .rename_i k' t g1 g2;have g1:cX k0=aa k':=g1;cases k0<;>first|cases g1|skip
    all_goals cases hsh
   .cases h1
  .obtain⟨e1,e2⟩:=aam h2 hall'
   have lk:=uz h2;have lr:=zy r;have ez:(ks.zip vs).map (·.1)=ks:=by
    rw[Yc];rw[lk,lr];exact cg _
   refine⟨a,ks.zip vs,b0,sh,rfl,ha,?_,λkv m=>e2 kv.1 (Oo (a:=kv.1) (b:=kv.2) m).1,λl rows hn p hp hr=>?_⟩
   .rw[Ot,lk,lr,cZ];lia
   .rw[ez] at hp;have ek:(((k0,v0)::r0).map (·.1)).map yg=ks:=by
     rw[e1,dW]
     refine(u9 λk _=>?_).trans (Jq ks)
     show(keysOf (k.map jw)).getD []=k
     rw[Et];rfl
    have es:(rows.map λr=>rP (r.2.map jw))=tR (((k0,v0)::r0).map (·.1)):=by
     unfold tR;rw[ek,<-hp,dW];rfl
    rw[<-es] at q;exact q _ _ (aZ.upd hn) (oO S (Eu λr m=>Cj S (hr r m)) hn)
 .cases e
theorem acW{K:aM}{r r':List V->Hp->VK->Prop}{op op':List au->Option Vl}(h:lK K r op)(h':lK K r' op'):lK K (λxs H Q=>r xs H Q\/r' xs H Q) (λds=>match op ds with|some z=>aa z|none=>op' ds):=by
 intro Z Θ env C σ H xs ds res S b e Q q;cases h1:op ds with
 |some z=>
  simp only[h1] at e;cases e;exact .inl (h Z Θ env C σ H xs ds _ S b h1 Q q)
 |none=>
  simp only[h1] at e;exact .inr (h' Z Θ env C σ H xs ds res S b e Q q)
end
def pX:List au->List au->List au
 |x::xs,y::ys=>.tuple [x,y]::pX xs ys
 |_,_=>[]
theorem ab7:∀{xs ys:List au}{i:Nat}{d:au},(pX xs ys)[i]?=aa d->∃x y,xs[i]?=aa x/\ys[i]?=aa y/\d=.tuple [x,y]
 |[],_,i,d,h=>by simp[pX] at h
 |_::_,[],i,d,h=>by simp[pX] at h
 |x::xs,y::ys,0,d,h=>by
  simp[pX] at h
  exact⟨x,y,rfl,rfl,h.symm⟩
 |x::xs,y::ys,i+1,d,h=>by
  obtain⟨a,b,h1,h2,h3⟩:=ab7 (i:=i) (by simpa[pX] using h)
  exact⟨a,b,by simpa using h1,by simpa using h2,h3⟩
theorem aa6:∀{xs ys:List au},(pX xs ys).length=min xs.length ys.length
 |[],_=>by simp[pX]
 |_::_,[]=>by simp[pX]
 |x::xs,y::ys=>by simp[pX,aa6,Nat.succ_min_succ]
theorem am8{K:aM}{P T:List aq}{H:Hp}{a b:aq}{ds es:List au}{vs ws:List V}(ha:er T H a=aa (.lst vs))(hb:er T H b=aa (.lst ws))(r1:cA (er P H) ds vs)(r2:cA (er P H) es ws):yu P T H (Wi K a b) (pX ds es):=λi H2 P2 s1 s2 n=>by
 have h2:bR K H2 a vs:=bR.of (jn (s2 _ _ ha));have h3:bR K H2 b ws:=bR.of (jn (s2 _ _ hb))
 refine⟨λd hd=>?_,λhi=>⟨vs,ws,h2,h3,by rw[hi,aa6,jo r1,jo r2]⟩⟩
 obtain⟨x,y,e1,e2,rfl⟩:=ab7 hd
 obtain⟨v,ev,rv⟩:=vG r1 e1
 obtain⟨w,ew,rw'⟩:=vG r2 e2
 refine⟨⟨vs,ws,h2,h3,?_⟩,λz H3 yl=>?_⟩
 .have l1:=(jH.mp ev).1;have l2:=(jH.mp ew).1;lia
 .obtain⟨p,v',w',hp,rfl,rfl,hh⟩:=yl
  obtain⟨g1,g2⟩:=hh vs ws h2 h3
  rw[ev] at g1;rw[ew] at g2;cases g1;cases g2;have sp:bN H2 (upd H2 p (.tup [v,w])):=bN.upd hp
  refine⟨sp,p,[v,w],rfl,?_,v,[w],rfl,rv.same (s1.trans (Ti sp)),w,[],rfl,rw'.same (s1.trans (Ti sp)),rfl⟩
  unfold er;rw[bH (λm=>n p m hp),dO]
def M6(f:yJ):FI:=λenv C=>match f env C with
 |some ([.list xs,.list ys],e1,C1)=>aa (pX xs ys,e1,C1)
 |_=>aj
theorem am9(hg:Gl X "zip")(hm:X.mg "zip"=aj)(ha:PA X [x,y] (wj X.K f))(hs:bJ [x,y] X.env=[(aJ,eval x X.env),(aJ,eval y X.env)]:=by rfl)(hs2:bJ [y] X.env=[(aJ,eval y X.env)]:=by rfl):
  PI X (.Tuple es k ps) (.Call (.Name "zip" p) [x,y] [] pos) (tI X.K ao (M6 f)):=(amP hg hm ha hs hs2).weak λσ H R aP=>by
 obtain⟨Z,Θ,env,C,its,env',C',S,hf,q⟩:=aP
 unfold M6 at hf;split at hf
 case h_2=>cases hf
 rename_i xs ys e1 C1 h1;cases hf
 refine⟨Z,Θ,env,C,_,env',C',S,h1,λvs H1 k f S1 b1=>?_⟩
 cases b1 with
 |cons b1 b2=>
  cases b2 with
  |cons b2 b3=>
   cases b3
   obtain⟨a,vs1,rfl,ha,r1⟩:=b1
   obtain⟨b,vs2,rfl,hb,r2⟩:=b2
   exact⟨a,b,vs1,vs2,rfl,bR.of (jn ha),bR.of (jn hb),q _ H1 k f S1 (am8 ha hb r1 r2)⟩
section
variable{X:Cx}{tg e:Expr}
def V0:au->Option (List au)
 |.list ds=>aa ds
 |.tuple ds=>aa ds
 |_=>aj
def Ag(f:FB):FI:=λenv C=>match f env C with
 |some (d,e1,C1)=>match V0 d with
  |some its=>aa (its,e1,C1)
  |none=>aj
 |none=>aj
def iV2(f:FE):FI:=λenv C=>match f env C with
 |some (r,e1,C1)=>match still r with
  |.im d=>match V0 d with
   |some its=>aa (its,e1,C1)
   |none=>aj
  |_=>aj
 |none=>aj
theorem Lw(h:PE X e (eZ X.K f)):PI X tg e (tI X.K ao (Ag f)):=((S7 h).or (Ui h)).weak λσ H R aP=>by
 obtain⟨Z,Θ,env,C,its,env',C',S,hf,q⟩:=aP
 unfold Ag at hf;split at hf
 .rename_i d e1 C1 h1;split at hf
  .rename_i ys hi;cases hf;cases d<;>first|cases hi|skip
   .refine .inl ⟨Z,Θ,env,C,_,env',C',S,h1,λv H1 k f S1 b=>?_⟩
    obtain⟨a,vs,rfl,ha,r⟩:=b
    exact⟨a,rfl,⟨vs,bR.of (jn ha)⟩,q _ H1 k f S1 (Tt ha r)⟩
   .refine .inr ⟨Z,Θ,env,C,_,env',C',S,h1,λv H1 k f S1 b=>?_⟩
    obtain⟨a,vs,rfl,ha,r⟩:=b
    exact⟨a,rfl,⟨vs,dj.of (jn ha)⟩,q _ H1 k f S1 (Uw ha r)⟩
  .cases hf
 .cases hf
theorem agD(hc:X.calm=ao):ie X (.builtin "sorted") (λxs H Q=>∃d:aq,xs=[.ref d]/\H d=aa (.dK [])/\∀l,H l=aj->Q (.ref l) (upd H l (.lst []))):=by
 intro pins s σ H xs us Q I r h
 obtain⟨d,rfl,hd,q⟩:=h
 refine bO (Yl hc pins s σ (upd H d (.dT [])) [.ref d] us (λv H'=>∃l,v=.ref l/\H l=aj/\H'=upd (upd H d (.dT [])) l (.lst [])) (I.Hh hd) r ⟨d,[],ao,[],rfl,dO,by decide,(λ_ m=>nomatch m),λl rows hl p _ _=>?_⟩) λu s' ⟨v,H',I',rv,l,ev,hl,eH⟩=>?_
 .have:rows=[]:=by
   cases rows with
   |nil=>rfl
   |cons _ _=>exact absurd p.length_eq (by simp)
  subst this
  refine⟨l,rfl,?_,rfl⟩
  by_cases z:l=d
  .subst z;rw[dO] at hl;cases hl
  .rw[cV z] at hl;exact hl
 .subst ev eH;have nd:d≠l:=pM hd hl;have e:upd (upd H d (.dT [])) l (.lst [])=upd (upd H l (.lst [])) d (.dT []):=by
   funext b;by_cases h1:b=l
   .subst h1;rw[dO,cV (lg nd),dO]
   .rw[cV h1];by_cases h2:b=d
    .subst h2;rw[dO,dO]
    .rw[cV h2,cV h2,cV h1]
  rw[e] at I'
  exact⟨.ref l,_,I'.MT (by rw[cV nd];exact hd),rv,q l hl⟩
def TJ:List au->Option Vl
 |[.dict []]=>aa (.ow (.list []))
 |_=>aj
theorem aj4{K:aM}:lK K (λxs H Q=>∃d:aq,xs=[.ref d]/\H d=aa (.dK [])/\∀l,H l=aj->Q (.ref l) (upd H l (.lst []))) TJ:=by
 intro Z Θ env C σ H xs ds res S b e Q q;unfold TJ at e;split at e
 case h_2=>cases e
 cases e
 obtain⟨v,rfl,bb⟩:=ou b
 obtain⟨a,vs,rfl,da,r⟩:=bb.dct
 rcases da with⟨ks,h1,ha⟩|⟨ks,⟨ne,_⟩,_⟩
 .cases h1
  exact⟨a,rfl,ha,λl hl=>q _ _ (aZ.upd hl) (oO S rfl hl)⟩
 .exact absurd rfl ne
def KH(ds:List au):Option Vl:=match Kd ds with
 |some z=>aa z
 |none=>match TF ds with
  |some z=>aa z
  |none=>TJ ds
abbrev acX(K:aM):List V->Hp->VK->Prop:=λxs H Q=>UG K xs H Q\/((∃(d:aq)(kvs:List (List Key×V))(b:Bool)(sh:List Bool),xs=[.ref d]/\H d=aa (.dT kvs)/\kvs.length<64/\(∀kv∈kvs,kv.1.map bV=b::sh)/\
  ∀(l:aq)(rows:List Row),H l=aj->(rows.map (·.2)).Perm (kvs.map (·.1))->rows.map (·.2)=tM (kvs.map (·.1))->(∀r∈rows,H r.1=aa (.tup (r.2.map kV)))->Q (.ref l) (upd H l (.lst (rows.map λr=>V.ref r.1))))\/∃d:aq,xs=[.ref d]/\H d=aa (.dK [])/\∀l,H l=aj->Q (.ref l) (upd H l (.lst [])))
theorem ah5(hc:X.calm=ao):ie X (.builtin "sorted") (acX X.K):=ah3.or ((Yl hc).or (agD hc))
theorem aj5{K:aM}:lK K (acX K) KH:=acW aiY (acW aj3 aj4)
end
def Vm:FN:=λ_ _=>aj
theorem alw{P:bL}{w:bI}{K:aM}{mg:Str->Option Value}{base:bC}{f:aq}{fd:dZ}{ps:List Str}:dX P w K mg base fZ 0 f fd ps (spT K Vm):=by
 have no:∀vs H Q E,¬spT K Vm vs H Q E:=λvs H Q E ⟨_,_,_,_,_,_,_,_,h,_⟩=>nomatch h
 exact⟨λ_ _ _ _ h=>(no _ _ _ _ h).elim,λ_ _ _ _ _ _ _ _ _ _ _ _ _ h=>(no _ _ _ _ h).elim⟩
def tU(i:Nat)(f:FB):FE:=λenv C=>match env[i]? with
 |some (some (.ce n))=>match f env C with
  |some (.int k,_,C1)=>match C1[n]? with
   |some ns=>match fY ns k with
    |some z=>aa (.im (.int z),env,C1)
    |none=>aj
   |none=>aj
  |_=>aj
 |_=>aj
theorem zK(ho:PE X o (qF i))(hk:PE X k (eZ X.K f))(hs:Kq k):PE X (.Subscript o k pos) (tE X.K (tU i f)):=(Vg Tf ho hk hs).weak λσ H Q aP=>by
 obtain⟨Z,Θ,env,C,r,env',C',S,hf,q⟩:=aP
 unfold tU at hf;split at hf
 case h_2=>cases hf
 rename_i n h0;split at hf
 case h_2=>cases hf
 rename_i z e1 C1 h1;split at hf
 case h_2=>cases hf
 rename_i ns hns;split at hf
 case h_2=>cases hf
 rename_i y hy;cases hf
 obtain⟨v,ev,a,rfl,hth⟩:=S.slot i _ h0
 refine⟨_,ev,Z,Θ,env,C,_,e1,C',S,h1,λw H1 k1 f1 S1 b1=>?_⟩
 have S2:=S.go k1 S1.cell;have ha:=S1.cell.at_ n a ns hth hns
 refine⟨a,_,z,.int y,rfl,b1,bR.of ha,?_,q _ H1 k1 (Fz.refl _) ⟨S2,rfl⟩⟩
 unfold fY at hy⊢;rw[bw];cases hj:oE ns.length z with
 |none=>rw[hj] at hy;cases hy
 |some j=>
  rw[hj] at hy
  show(ns.map V.int)[j]?=_
  rw[iJ,show ns[j]?=aa y from hy];rfl
def Bx(C:Ce)(b:Nat)(n:Int):Prop:=∃x y z:Int,C[b]?=aa [x,y,z]/\0<=x/\0<=y/\y<=3000000000/\0<=z/\z<=n
theorem Bx.mono(h:Bx C b n)(hm:n<=m):Bx C b m:=by
 obtain⟨x,y,z,h1,h2,h3,h4,h5,h6⟩:=h
 exact⟨x,y,z,h1,h2,h3,h4,h5,by lia⟩
theorem acY{C:Ce}{b:Nat}{l l':List Int}(h:C[b]?=aa l):(C.set b l')[b]?=aa l':=by
 rw[DG,bz rfl,bz (jH.mp h).1]
theorem aa7{C C':Ce}(h:C'.length=C.length):C'.take C.length=C':=List.take_of_length_le (by lia)
theorem mul_eq(h:(-18446744073709551616<i/\i<18446744073709551616)\/(-18446744073709551616<j/\j<18446744073709551616)):jV (.int i) (.int j)=aa (.im (.int (i*j))):=by
 unfold jV;exact bz h
theorem mod_eq(h:0<j):lD (.int i) (.int j)=aa (.im (.int (i%j))):=by
 unfold lD;exact bz h
theorem fdiv_eq(h:0<j)(h1:j<1073741824):xO (.int i) (.int j)=aa (.im (.int (i / j))):=by
 unfold xO;exact bz ⟨h,h1⟩
theorem aa8(I:Nat->En->Ce->Prop):∀{its:List au}{env:En}{C:Ce}{k:Nat},I k env C->
  (∀i d env C,its[i]?=aa d->I (k+i) env C->∃e1 fl env' C',g d env=aa e1/\body e1 C=aa (fl,env',C')/\(fl=.nx\/fl=.ct)/\I (k+i+1) env' C')->
  ∃env' C',jf g body its env C=aa (.nx,env',C')/\I (k+its.length) env' C'
 |[],env,C,k,h,_=>⟨env,C,rfl,h⟩
 |d::r,env,C,k,h,st=>by
  obtain⟨e1,fl,apa,C1,h1,h2,h3,h4⟩:=st 0 d env C rfl h
  obtain⟨apb,C2,h5,h6⟩:=aa8 I (its:=r) (env:=apa) (C:=C1) (k:=k+1) h4 λi d' env C hd hi=>by
   have:=st (i+1) d' env C (by simpa using hd) (by rw[show k+(i+1)=k+1+i by lia];exact hi);rw[show k+(i+1)+1=k+1+i+1 by lia] at this;exact this
  refine⟨apb,C2,?_,by rw[cZ,show k+(r.length+1)=k+1+r.length by lia];exact h6⟩
  unfold jf;rw[h1];simp only;rw[h2];rcases h3 with rfl|rfl<;>exact h5
theorem Bt(I:Nat->En->Ce->Prop)(h:I 0 env C)
  (st:∀i d env C,its[i]?=aa d->I i env C->∃e1 fl env' C',g d env=aa e1/\body e1 C=aa (fl,env',C')/\(fl=.nx\/fl=.ct)/\I (i+1) env' C'):
  ∃env' C',jf g body its env C=aa (.nx,env',C')/\I its.length env' C':=by
 have:=aa8 I (k:=0) h λi d env C hd hi=>by
  rw[Jh] at hi⊢;exact st i d env C hd hi
 rw[Jh] at this;exact this
theorem Kg(lo:Int)(n:Nat):(jt lo n).length=n:=by unfold jt;rw[bw,lZ]
theorem Ff{lo:Int}{n i:Nat}{d:au}(h:(jt lo n)[i]?=aa d):d=.int (lo+i)/\i<n:=by
 unfold jt at h;rw[iJ] at h;by_cases hi:i<n
 .rw[Xq hi] at h
  exact⟨(gP h).symm,hi⟩
 .rw[Al (by rw[lZ];lia)] at h;cases h
theorem aan(I:Nat->Ce->Prop)(R:Nat->au->Prop):∀{its:List au}{C:Ce}{k:Nat},I k C->(∀i d C,its[i]?=aa d->I (k+i) C->∃ts x e C' y,yL T d=aa ts/\fe (eN ts++fs) C=aa (x,e,C')/\still x=.im y/\R (k+i) y/\I (k+i+1) C')->
  ∃ys C',kj T jB fe fs its C=aa (ys,C')/\I (k+its.length) C'/\ys.length=its.length/\∀i y,ys[i]?=aa y->R (k+i) y
 |[],C,k,h,_=>⟨[],C,rfl,h,rfl,λi y e=>by simp at e⟩
 |d::r,C,k,h,st=>by
  obtain⟨ts,x,e,C1,y,h1,h2,h3,h4,h5⟩:=st 0 d C rfl h
  obtain⟨ys,C2,h6,h7,h8,h9⟩:=aan I R (its:=r) (C:=C1) (k:=k+1) h5 λi d' C hd hi=>by
   have:=st (i+1) d' C (by simpa using hd) (by rw[show k+(i+1)=k+1+i by lia];exact hi);rw[show k+(i+1)+1=k+1+i+1 by lia,show k+(i+1)=k+1+i by lia] at this;exact this
  refine⟨y::ys,C2,?_,by rw[cZ,show k+(r.length+1)=k+1+r.length by lia];exact h7,by simp[h8],λi z hz=>?_⟩
  .unfold kj;simp only[h1,jB,h2,h3];rw[h6]
  .cases i with
   |zero=>simp at hz;subst hz;exact h4
   |succ i=>
    have:=h9 i z (by simpa using hz);rw[show k+(i+1)=k+1+i by lia];exact this
theorem acZ(h0:0<=k)(h1:k<xs.length):∃x,fY xs k=aa x/\xs[k.toNat]?=aa x:=by
 have hk:k.toNat<xs.length:=by lia
 refine⟨xs[k.toNat],?_,jJ hk⟩
 unfold fY oE;rw[bz h0,bz h1];exact jJ hk
def M7(z:Str):Bool:=z.cps.toList.all λc=>decide (97<=c)&&decide (c<=122)
def nameB(z:Str):Bool:=decide (1<=z.length)&&decide (z.length<=8)&&M7 z
abbrev abc:Str:=gf "abcdefghijklmnopqrstuvwxyz"
theorem ana(r0:0<=r)(r1:r<26):fY abc.cps.toList r=aa (97+r.toNat):=by
 have h:∀k:Nat,k<26->fY abc.cps.toList (k:Int)=aa (97+k):=by decide +kernel
 have:=h r.toNat (by lia)
 rwa [Int.toNat_of_nonneg r0] at this
theorem ZZ:∀(l:List Nat)(a:Array Nat),((l.map λc=>(⟨#[c]⟩:Str)).foldl (λacc p=>acc++(gf "").cps++p.cps) a).toList=a.toList++l
 |[],a=>by simp
 |c::r,a=>by
  simp only[cJ,Io];rw[ZZ r];have e:(gf "").cps=#[]:=by decide +kernel
  rw[e];simp
theorem Z0:∀(l:List Nat),(Txt.join (gf "") (l.map λc=>(⟨#[c]⟩:Str))).cps.toList=l
 |[]=>by decide +kernel
 |c::r=>by
  show(((r.map λc=>(⟨#[c]⟩:Str))).foldl (λacc p=>acc++(gf "").cps++p.cps) #[c]).toList=c::r
  rw[ZZ r];rfl
theorem ab8:∀ys:List Nat,(ys.map ((λx:Str=>x.length) ∘ λc=>(⟨#[c]⟩:Str))).sum=ys.length
 |[]=>rfl
 |c::r=>by
  rw[cJ,agP,ab8 r,cZ];show 1+r.length=r.length+1;lia
theorem alx(hc:c∈(Txt.slice z l u).cps.toList):c∈z.cps.toList:=by
 unfold Txt.slice at hc;split at hc
 .exact hc
 .have hc':c∈((ae4 l u 1 z.length).filterMap (z.cps[·]?)):=by simpa using hc
  obtain⟨i,_,e⟩:=NK.mp hc'
  have:=afx e;simpa using this
def Names(zs:List Str):Prop:=zs.Nodup/\∀z∈zs,nameB z=ao
theorem Kh(z:Str)(zs:List Str):inD (.str z) (zs.map .str)=decide (z∈zs):=by
 unfold inD;rw[rO,ag9];simp[Yd,tV,toV]
theorem aj6(h:nameB z=ao):1<=z.length/\z.length<=8/\∀c∈z.cps.toList,97<=c/\c<=122:=by
 unfold nameB M7 at h;simp only[jK,decide_eq_true_eq,oG] at h
 exact⟨h.1.1,h.1.2,h.2⟩
def Asc(z:Str):Prop:=∀c∈z.cps.toList,c<128
def pZ(n:Nat)(z:Str):Prop:=Asc z/\z.length<=n
theorem pZ.mono(h:pZ n z)(hm:n<=m):pZ m z:=⟨h.1,j7 h.2 hm⟩
theorem pZ.line(h:pZ n z)(hn:n<=100000:=by lia):z.length<=cu:=ak3 (m:=100000) (j7 h.2 hn)
theorem pZ.slice(h:pZ n z)(l u:Option Int):pZ n (Txt.slice z l u):=by
 refine⟨λc hc=>?_,j7 (Txt.slice_le z l u) h.2⟩
 unfold Txt.slice at hc;split at hc
 .exact h.1 c hc
 .have hc':c∈((ae4 l u 1 z.length).filterMap (z.cps[·]?)):=by simpa using hc
  obtain⟨i,_,e⟩:=NK.mp hc'
  refine h.1 c ?_;have:=afx e;simpa using this
theorem pZ.add(h:pZ n x)(g:pZ m y):pZ (n+m) (x++y):=by
 have e:(x++y).cps=x.cps++y.cps:=rfl
 refine⟨λc hc=>?_,?_⟩
 .rw[e] at hc;have:c∈x.cps.toList\/c∈y.cps.toList:=by simpa using hc
  exact this.elim (h.1 c) (g.1 c)
 .show(x++y).cps.size<=_
  rw[e,XX];exact Nat.add_le_add h.2 g.2
theorem pZ.name(h:nameB z=ao):pZ 8 z:=by
 unfold nameB M7 at h;simp only[jK,decide_eq_true_eq,oG] at h
 exact⟨λc hc=>by have:=h.2 c hc;lia,h.1.2⟩
def iR(zs:List Str)(ps:List (Str×Str)):Prop:=∀(i:Nat)(x:Str×Str),ps[i]?=aa x->zs[i]?=aa x.1/\(x.2=gf ""\/∃j,j<i/\zs[j]?=aa x.2)
theorem iR.snoc(h:iR zs ps)(ha:zs[ps.length]?=aa a)(hb:b=gf ""\/∃j,j<ps.length/\zs[j]?=aa b):iR zs (ps++[(a,b)]):=by
 intro i x e;by_cases hi:i<ps.length
 .rw[p6 hi] at e;exact h i x e
 .rw[pF (by lia)] at e;by_cases h0:i-ps.length=0
  .rw[h0] at e;cases e;have:i=ps.length:=by lia
   subst this
   exact⟨ha,hb⟩
  .rw[Al (by simp;lia)] at e;cases e
def jr(ps:List (Str×Str))(z:Str):Option Str:=(ps.find? λp=>decide (p.1=z)).map (·.2)
inductive Over(f:Str->Option Str):Str->List Str->Prop
 |stop {z:Str}:f z=aj->Over f z []
 |step {z y:Str} {r:List Str}:f z=aa y->Over f y r->Over f z (z::r)
structure Ww(e B:Nat)(d:au):Prop where
 apc:d.showable=ao
 deep:d.depth<=e
 len:d.shown.length<=B
theorem Ww.mono(h:Ww e B d)(he:e<=e')(hB:B<=B'):Ww e' B' d:=⟨h.apc,j7 h.deep he,j7 h.len hB⟩
abbrev tG:=Int×Str×Int×Str×Int×Int
abbrev cI:=Int×Str×Str×Str×Int×Int×Int
abbrev Gq:=Int×Str
abbrev Lx:=Str×Int×List Gq
def uR(r:tG):au:=.tuple [.int r.1,.str r.2.1,.int r.2.2.1,.str r.2.2.2.1,.int r.2.2.2.2.1,.int r.2.2.2.2.2]
def bD(r:cI):au:=.tuple [.int r.1,.str r.2.1,.str r.2.2.1,.str r.2.2.2.1,.int r.2.2.2.2.1,.int r.2.2.2.2.2.1,.int r.2.2.2.2.2.2]
def Ly(s:Gq):au:=.tuple [.int s.1,.str s.2]
def anb(ss:List Gq):au:=.tuple (ss.map Ly)
def Gr(r:Lx):au:=.tuple [.str r.1,.int r.2.1,anb r.2.2]
def uT(p:Str×Str):au:=.tuple [.str p.1,.str p.2]
structure lB where
 ps:List (Str×Str)
 yj:List tG
 leaves:List cI
 rules:List Lx
def j9(h:lB):au:=.tuple [.tuple (h.ps.map uT),.tuple (h.yj.map uR),.tuple (h.leaves.map bD),.tuple (h.rules.map Gr)]
structure anc(zs own:List Str)(r:tG):Prop where
 num:0<=r.1/\r.1<=2000
 who:r.2.1∈zs
 rank:1<=r.2.2.1/\r.2.2.1<=9
 part:r.2.2.2.1∈own
 days:0<=r.2.2.2.2.1/\r.2.2.2.2.1<=r.2.2.2.2.2/\r.2.2.2.2.2<=99999
structure vC(zs own:List Str)(r:cI):Prop where
 num:0<=r.1/\r.1<=2000
 giver:r.2.1∈zs
 taker:r.2.2.1∈zs
 ne:r.2.1≠r.2.2.1
 part:r.2.2.2.1∈own
 days:0<=r.2.2.2.2.1/\r.2.2.2.2.1<=r.2.2.2.2.2.1/\r.2.2.2.2.2.1<=99999
 most:0<=r.2.2.2.2.2.2/\r.2.2.2.2.2.2<=1000000000
def ane(own:List Str)(s:Gq):Prop:=1<=s.1/\s.1<=9/\(s.2=gf ""\/s.2∈own)
structure anf(own:List Str)(r:Lx):Prop where
 part:r.1∈own
 sum:0<=r.2.1/\r.2.1<=1000000000
 many:r.2.2.length<=6
 arx:∀s∈r.2.2,ane own s
structure sr(zs:List Str)(ps:List (Str×Str))(h:lB):Prop where
 parts:h.ps.Perm ps
 p8:ps.length<=8
 r20:h.yj.length<=20
 jR:h.leaves.length<=16
 u10:h.rules.length<=10
 yj:∀r∈h.yj,anc zs (ps.map (·.1)) r
 rup:(h.yj.map (·.1)).Pairwise (·<·)
 leaves:∀r∈h.leaves,vC zs (ps.map (·.1)) r
 M8:(h.leaves.map (·.1)).Nodup
 rules:∀r∈h.rules,anf (ps.map (·.1)) r
 unlike:(h.rules.map λr=>(r.1,r.2.1)).Nodup
theorem El(h:nameB z=ao):PL z=ao:=by
 unfold PL;rw[Array.all_eq_true'];intro c hc;have:=(aj6 h).2.2 c (by simpa using hc);exact gk (by lia)
theorem R4:∀{zs:List Str},(∀z∈zs,PL z=ao)->N8 (zs.map eV)=ao/\Ym (zs.map eV)=0/\yr (zs.map eV)=ao
 |[],_=>⟨by simp[N8],by simp[Ym],rfl⟩
 |z::zs,h=>by
  obtain⟨h1,h2,h3⟩:=R4 λx hx=>h x (fP _ hx)
  refine⟨by simp[N8,YB,h z dN];simpa using h1,by simp only[cJ,Ym,ahb,h2];rfl,?_⟩
  show(ao&&yr (zs.map eV))=ao
  rw[h3];rfl
theorem ahA{zs:List Str}(h:∀z∈zs,PL z=ao):lN (.list (zs.map eV))=ao:=by
 obtain⟨h1,h2,_⟩:=R4 h
 unfold lN;simp only[YB,h1,ahb,h2];decide
theorem ahc:∀{l:List α}{m:List β},m.Perm (l.map f)->∃l':List α,l'.Perm l/\m=l'.map f:=λ{l m} p=>by
 generalize e:l.map f=k at p;induction p generalizing l with
 |nil=>
  cases l with
  |nil=>exact⟨[],yW _,rfl⟩
  |cons _ _=>cases e
 |@cons x m k _ ih=>
  cases l with
  |nil=>cases e
  |cons a l=>
   rw[cJ,Yn] at e
   obtain⟨l',p',rfl⟩:=ih e.2
   exact⟨a::l',p'.cons a,by rw[cJ,e.1]⟩
 |swap x y m=>
  cases l with
  |nil=>cases e
  |cons a l=>
   cases l with
   |nil=>cases e
   |cons b l=>
    rw[cJ,cJ,Yn,Yn] at e
    obtain⟨e1,e2,e3⟩:=e
    exact⟨b::a::l,O2 a b l,by rw[cJ,cJ,e1,e2,e3]⟩
 |trans _ _ ih1 ih2=>
  obtain⟨l2,p2,e2⟩:=ih2 e
  obtain⟨l1,p1,e1⟩:=ih1 e2.symm
  exact⟨l1,p1.trans p2,e1⟩
theorem ah6(x:Str×Str)(ps:List (Str×Str))(z:Str):jr (x::ps) z=if x.1=z then aa x.2 else jr ps z:=by
 unfold jr;rw[pK];by_cases h:x.1=z
 .rw[gk h,bz h];rfl
 .rw[gM h,bH h]
theorem vp:∀{ps:List (Str×Str)}{z w:Str},(ps.map (·.1)).Nodup->(jr ps z=aa w↔(z,w)∈ps)
 |[],z,w,_=>by simp[jr]
 |x::ps,z,w,h=>by
  rw[cJ,jD] at h;rw[ah6];by_cases hz:x.1=z
  .rw[bz hz,cB];constructor
   .intro e;left;rw[<-hz,<-gP e]
   .rintro(e|e)
    .rw[<-e]
    .exact absurd (eU.mpr ⟨(z,w),e,hz.symm⟩) h.1
  .rw[bH hz,vp h.2,cB];constructor
   .exact .inr
   .rintro(e|e)
    .exact absurd (by rw[<-e]) hz
    .exact e
theorem ah7(p:ps'.Perm ps)(h:(ps.map (·.1)).Nodup)(z:Str):jr ps' z=jr ps z:=by
 have h':(ps'.map (·.1)).Nodup:=(p.map (·.1)).nodup_iff.mpr h;cases e:jr ps z with
 |some w=>exact(vp h').mpr (p.mem_iff.mpr ((vp h).mp e))
 |none=>
  cases e':jr ps' z with
  |none=>rfl
  |some w=>
   have:=(vp h).mpr (p.mem_iff.mp ((vp h').mp e'));rw[e] at this;cases this
theorem QC(h:iR zs ps):ps.map (·.1)=zs.take ps.length:=by
 apply XM;intro i;rw[iJ,Xw];cases e:ps[i]? with
 |none=>
  rw[bH (by have:=W8.mp e;lia)];rfl
 |some x=>
  rw[bz (jH.mp e).1,(h i x e).1];rfl
theorem Eh(hN:Names zs)(h:iR zs ps):(ps.map (·.1)).Nodup:=by
 rw[QC h];exact hN.1.sublist (Ii _ _)
theorem ahd:nameB (gf "")=aJ:=by decide +kernel
theorem QD(hN:Names zs)(h:iR zs ps)(hz:z∈ps.map (·.1)):nameB z=ao:=by
 rw[QC h] at hz;exact hN.2 z (wJ hz)
theorem Z1(hN:Names zs)(h:iR zs ps):jr ps (gf "")=aj:=by
 cases e:jr ps (gf "") with
 |none=>rfl
 |some w=>
  have:=(vp (Eh hN h)).mp e;have:=QD hN h (eU.mpr ⟨_,this,rfl⟩);rw[ahd] at this;cases this
def wA(f:Str->Option Str):Nat->Str->List Str
 |0,_=>[]
 |n+1,z=>match f z with
  |none=>[]
  |some y=>z::wA f n y
def up(ps:List (Str×Str))(z:Str):List Str:=wA (jr ps) (ps.length+1) z
theorem R7(h:f z=aj):∀n,wA f n z=[]
 |0=>rfl
 |n+1=>by unfold wA;rw[h]
theorem aa9(h:f z=aa y)(n:Nat):wA f (n+1) z=z::wA f n y:=by
 rw[wA,h]
theorem ab9:∀n z,(wA f n z).length<=n
 |0,_=>cg 0
 |n+1,z=>by
  cases h:f z with
  |none=>rw[R7 h];exact m9 _
  |some y=>
   rw[aa9 h,cZ];exact Oc (ab9 n y)
theorem acd(hN:Names zs)(hP:iR zs ps):∀(n i:Nat),i<n->∀x,ps[i]?=aa x->Over (jr ps) x.1 (wA (jr ps) n x.1)
 |0,_,h,_,_=>absurd h (yV _)
 |n+1,i,h,x,hx=>by
  have e:jr ps x.1=aa x.2:=(vp (Eh hN hP)).mpr (p7 hx);rw[aa9 e];refine .step e ?_
  rcases(hP i x hx).2 with h2|⟨j,hj,h2⟩
  .rw[h2,R7 (Z1 hN hP)];exact .stop (Z1 hN hP)
  .have hi:=(jH.mp hx).1;have hjl:j<ps.length:=by lia
   have g:=hP j ps[j] (jJ hjl);have e2:ps[j].1=x.2:=by
    have:=g.1;rw[h2] at this
    exact(gP this).symm
   rw[<-e2];exact acd hN hP n j (by lia) ps[j] (jJ hjl)
theorem TQ(hN:Names zs)(hP:iR zs ps)(z:Str):Over (jr ps) z (up ps z):=by
 unfold up;cases e:jr ps z with
 |none=>
  rw[R7 e];exact .stop e
 |some w=>
  obtain⟨i,hi,hx⟩:=wL ((vp (Eh hN hP)).mp e)
  have:=acd hN hP (ps.length+1) i (by lia) _ (jJ hi);rw[hx] at this;exact this
theorem UL(ps:List (Str×Str))(z:Str):(up ps z).length<=ps.length+1:=ab9 _ _
def bu(l:List (Str×au)):List (au×au):=l.map λp=>(.str p.1,p.2)
theorem Ew:∀l:List (Str×au),cO cX (bu l)=aa (l.map λp=>.inr p.1)
 |[]=>rfl
 |p::l=>by
  rw[show bu (p::l)=(.str p.1,p.2)::bu l from rfl];unfold cO;rw[Ew l];simp only[cX];rfl
theorem BW(x z:Str):(cX (.str x)=aa (.inr z))↔x=z:=by
 simp[cX]
theorem aao(z:Str):∀l:List (Str×au),oW cX (.inr z) (bu l)=(l.find? λp=>decide (p.1=z)).map (·.2)
 |[]=>rfl
 |p::l=>by
  show(if cX (.str p.1)=aa (.inr z) then aa p.2 else oW cX (.inr z) (bu l))=_
  rw[pK];by_cases h:p.1=z
  .rw[bz ((BW _ _).mpr h),gk h];rfl
  .rw[bH (λe=>h ((BW _ _).mp e)),gM h,aao z l]
theorem Q9(l:List (Str×au))(z:Str):nG (bu l) (.str z)=aa ((l.find? λp=>decide (p.1=z)).map (·.2)):=by
 show(if(cO cX (bu l)).isSome then aa (oW cX (.inr z) (bu l)) else aj)=_
 rw[Ew,aao];rfl
theorem aba(h:z∉l.map (·.1)):nR cX (.inr z) (.str z) d (bu l)=bu (l++[(z,d)]):=by
 unfold nR;rw[bH,bu,bu,gQ]
 .rfl
 .rw[X6,afT];intro p hp
  obtain⟨q,hq,rfl⟩:=eU.mp hp
  have:¬(cX (.str q.1)=aa (.inr z)):=λe=>h (eU.mpr ⟨q,hq,(BW _ _).mp e⟩)
  simpa using this
theorem R8(h:z∉l.map (·.1)):putD (bu l) (.str z) d=aa (bu (l++[(z,d)])):=by
 show(if(cO cX (bu l)).isSome then aa (nR cX (.inr z) (.str z) d (bu l)) else aj)=_
 rw[Ew,aba h];rfl
theorem aj7(ps:List (Str×Str))(g:Str×Str->α)(z:Str):((ps.map λp=>(p.1,g p)).find? λp=>decide (p.1=z)).map (·.2)=(ps.find? λp=>decide (p.1=z)).map g:=by
 rw[YC,DR];rfl
theorem qT(D:α->au)(p:α->Bool)(g:α->au):∀{l:List α},(∀a∈l,∃ts,yL T (D a)=aa ts/\ft (eN ts++fs) C=aa (p a,C)/\(p a=ao->∃x e,fe (eN ts++fs) C=aa (x,e,C)/\still x=.im (g a)))->
  kj T ft fe fs (l.map D) C=aa ((l.filter p).map g,C)
 |[],_=>rfl
 |d::r,h=>by
  obtain⟨ts,h1,h2,h3⟩:=h d dN
  have ih:=qT D p g (l:=r) λd m=>h d (fP _ m)
  rw[cJ];unfold kj;simp only[h1];rw[h2];cases hp:p d with
  |true=>
   obtain⟨x,e,h4,h5⟩:=h3 hp
   simp only[h4,h5,ih,Od,hp,if_true,cJ]
  |false=>
   simp only[ih,Od,hp];rfl
section
variable{prog:bL}{w:bI}{A:cM}{E:Value->aD->Prop}{R:sH->aD->Prop}{s:aD}
theorem aiZ(h:Q (.ref s.heap.objs.size) {s with heap:=s.heap.push (rF w)}):aR (model prog w) A (newSet (.type "set")) Q E s:=by
 unfold newSet ZW
 obtain⟨h0,g0,d0,t0,o0⟩:=s
 refine aG (aG (Oe (bh ?_)));dsimp only;simp only[newObj];exact aG (wpAny_alloc (bh h))
theorem ai0{elt target iter:Expr}{ifs:List Expr}{rest:List Comprehension}{scope:jO}{pos:Pos}{it acc:Value}{env:Env}(h0:mC (model prog w) A (.compLoop (.SetComp elt (⟨target,iter,ifs,0⟩::rest) scope pos) 0 it acc env) R s)
  (h:aR (model prog w) A (Cd it) (λit' s'=>mC (model prog w) A (.compLoop (.SetComp elt (⟨target,iter,ifs,0⟩::rest) scope pos) 0 it' acc env) R s') (notedBy (model prog w) A env λx s'=>R (.error x) s') s):
  mC (model prog w) A (.compStart (.SetComp elt (⟨target,iter,ifs,0⟩::rest) scope pos) 0 it acc env) R s:=by
 refine codeAny_of_tree (show aR _ A ((compStart (.SetComp elt (⟨target,iter,ifs,0⟩::rest) scope pos) 0 it acc env).onRaise (λx=>do noteFrame x env;uC theWindowsPlace)) _ _ s from wpAny_notedAt ?_);unfold compStart
 refine(show aR _ A (ask >>= _) _ _ s from aG (Oe (wpAny_ite ?_)))
 split
 .first
   |exact aG (bh (bh ⟨rfl,h0⟩))
   |exact bh ⟨rfl,h0⟩
 .first
   |exact aG (zj (aG (vh (aG (pN h (λit' s' h'=>bh ⟨rfl,h'⟩) λ_ _ x=>x)))))
   |exact aG (zj (show aR _ _ (uC iter.pos >>= _) _ _ s from aG (vh (aG (pN h (λit' s' h'=>bh ⟨rfl,h'⟩) λ_ _ x=>x)))))
variable{T:Type}[DecidableEq T]{knd:za prog w T}
theorem ahB(hk:knd.is k key=ao)(hsc:key.scannable=ao)(hS:o8 knd s.heap a ks)(room:ks.length+1<qU)
  (h:∀h',zb a s.heap h'->o8 knd h' a (mJ ks k)->Q .none {s with heap:=h',toks:=s.toks+1}):aR (model prog w) A (call (.builtin "set.add") [.ref a,key]) Q E s:=by
 refine nY F.slot_set_add hS.ty F.entry_set_add ?_ (F.args_set_add_2 _ _);unfold lA.«set.add» aqS;simp only[Ye,bind_assoc];unfold arn setAdd;refine aG (bh ?_)
 try dsimp only
 refine aG (bh ?_)
 try dsimp only
 refine aG (mV (aG (knd.pyHash hk ?_)));refine ala (knd:=knd) (s:={s with toks:=s.toks+1}) hk hsc hS room λ_ h' hsb hS'=>?_
 exact(show aR _ _ (ret mX) _ _ _ from bh ⟨_,rfl,h h' hsb hS'⟩)
end
theorem ahe(elt gens scope pos):eval (.SetComp elt gens scope pos) env=YW (.SetComp elt gens scope pos) scope env (firstIterPos gens pos) (newSet (.type "set")) (firstAsync gens) (firstIter gens env):=rfl
section
variable{P:bL}{w:bI}{T0:Type}[DecidableEq T0](knd:za P w T0)(mk:T0->V)
abbrev SO(a:aq)(ks:List T0):HO:=.ext λh=>o8 knd h a ks
def Vn(D:aq)(te:TE):TM:=λσ H Q=>te σ H λy H1=>∃ks k,H1 D=aa (SO knd D ks)/\y=mk k/\ks.length+1<qU/\Q (upd H1 D (SO knd D (mJ ks k)))
theorem adD(x:o8 knd h a ks):fL P w H h a (SO knd a ks):=
 ⟨x,let ⟨o,_,_,_,e,_⟩:=x;⟨o,e⟩,λ_ _ y e=>y.at e⟩
def tSC(K:aM)(wi:TI)(T:iD)(ts:Bk->TT)(te:Bk->TE)(js:List Nat):TE:=λσ H Q=>wi σ H λJ H1=>∀D,H1 D=aj->∀b,yp K T (ts b) (Vn knd mk D (te b)) (frees js σ) J (upd H1 D (SO knd D [])) (Q (.ref D))
end
section
variable{X:Cx}{T0:Type}[DecidableEq T0]{knd:za X.prog X.w T0}{mk:T0->V}{NT NF:List Str}{js:List Nat}{elt tg iter:Expr}{ifs:List Expr}{T:iD}{wi:TI}{ts:Bk->TT}{te:Bk->TE}{scope:jO}{pos:Pos}
theorem ang(hk:∀k v,RelV (mk k) v->knd.is k v=ao/\v.scannable=ao)(he:PE X elt t):PM X (do let v <-eval elt X.env;uC elt.pos;let _ <-call (.builtin "set.add") [.ref D,v]) (Vn knd mk D t):=by
 intro pins s σ H Q I h;refine aG (bO (he pins s σ H _ I h) λv s1 aP=>?_)
 obtain⟨y,H1,I1,r1,ks,k,hD,ey,hz,q⟩:=aP
 subst ey
 obtain⟨hS,_,_⟩:=I1.hok D _ hD
 obtain⟨k1,k2⟩:=hk _ _ r1
 refine aG (vh (aG (ahB k1 k2 hS hz λh' same hS'=>?_)));refine bh ⟨_,?_,q⟩;exact zx I1 (by rw[hD];exact nj) same (let ⟨o,_,_,_,e,_⟩:=hS';⟨o,e⟩) (adD knd hS')
theorem anh{pins:List (aq×Obj)}{σ:St}{s2:aD}{H2:Hp}{cl:List (Str×aq)}{it:aq}{fp:List aq}{tn:Nat->bC->Prop}{J:It}{Q:Hp->Prop}{RR:Value->aq->sH->aD->Prop}{E:Value->aD->Prop}
  (hk:∀k v,RelV (mk k) v->knd.is k v=ao/\v.scannable=ao)(B:qz X NT NF js scope)(tk:pU tg NT T)(hc:X.calm=ao)
  (hin:∀b,oF (X.bk (NT++NF) scope b) ifs (ts b)/\PE (X.bk (NT++NF) scope b) elt (te b))
  (q2:∀n c,cl.lookup n=aa c->X.env.cells.lookup n=aa c)(q3:∀y∈scope.names,y.2=.free->∃c,cl.lookup y.1=aa c)
  (I2:Inv X pins σ H2 s2)(TT:Turn X.prog X.w X.K tg J fp it tn)(st2:tn 0 s2.heap)(f2:∀b∈fp,kI X pins H2 b)
  (q:∀b,yp X.K T (ts b) (Vn knd mk s2.heap.objs.size (te b)) (frees js σ) J (upd H2 s2.heap.objs.size (SO knd s2.heap.objs.size [])) Q)
  (hR:∀C H' s' m,Inv X pins σ H' s'->kI X pins H' C->s'.heap.Ns C m->Q H'->RR (.ref s2.heap.objs.size) C (.ok .next) s'):
  aR (model X.prog X.w) X.A (newSet (.type "set")) (λacc s₃=>aR (model X.prog X.w) X.A (Yw scope X.env.globals cl [] X.env.qual aj .none (aa X.env)) (λcenv s₄=>
   mC (model X.prog X.w) X.A (.compStart (.SetComp elt [⟨tg,iter,ifs,0⟩] scope pos) 0 (.ref it) acc {cenv with scope:=relabel scope X.env}) (RR acc cenv.locals) s₄) E s₃) E s2:=by
 refine aiZ ?_;have hD:H2 s2.heap.objs.size=aj:=I2.hok.fresh (cg _);have I3:Inv X pins σ (upd H2 s2.heap.objs.size (SO knd s2.heap.objs.size [])) {s2 with heap:=s2.heap.push (rF X.w)}:=
  I2.laid (t':=s2.toks) (λb o e=>cW _ e) (cg _) (adD knd (amT (iH _ rfl)))
 have hsz:(s2.heap.push (rF X.w)).objs.size=s2.heap.objs.size+1:=wV ..;refine Xm B.cell (by intro y hy;simp at hy) (λh₁ hns₁ hsb₁=>?_) B.kind;have uZ:∀b∈fp,b<s2.heap.objs.size:=λb hb=>by
  obtain⟨o,e,_⟩:=TT.obj 0 _ st2 b hb
  exact cF e
 have f3:∀b∈fp,kI X pins (upd H2 s2.heap.objs.size (SO knd s2.heap.objs.size [])) b:=λb hb=>⟨by rw[cV (eO (uZ b hb))];exact(f2 b hb).1,(f2 b hb).2⟩
 have keep:∀b o,(s2.heap.push (rF X.w)).get? b=aa o->h₁.get? b=aa o:=λb o e=>hsb₁.extBut b o (eO (cF e)) (cW _ e)
 have yF:∀b∈fp,b<(s2.heap.push (rF X.w)).objs.size:=λb hb=>by have:=uZ b hb;rw[hsz];exact wO this
 have I4:=I3.blk (s1:={s2 with heap:=h₁,toks:=s2.toks+([]:List (Str×Value)).length}) B q2 q3 f3 yF hns₁ keep rfl I2.bare;have yG:tn 0 h₁:=TT.keep 0 _ _ st2 λb _ o e=>keep b o (cW _ e)
 obtain⟨i1,i2⟩:=hin ⟨cl,(s2.heap.push (rF X.w)).objs.size,{s2 with heap:=s2.heap.push (rF X.w)},upd H2 s2.heap.objs.size (SO knd s2.heap.objs.size []),fp⟩
 have loop:mC (model X.prog X.w) X.A (.compLoop (.SetComp elt [⟨tg,iter,ifs,0⟩] scope pos) 0 (.ref it) (.ref s2.heap.objs.size) (Rn scope cl (s2.heap.push (rF X.w)).objs.size X.env))
   (RR (.ref s2.heap.objs.size) (s2.heap.push (rF X.w)).objs.size) {s2 with heap:=h₁,toks:=s2.toks+([]:List (Str×Value)).length}:=by
  refine Ro (X:=X.blk (NT++NF) scope cl (s2.heap.push (rF X.w)).objs.size {s2 with heap:=s2.heap.push (rF X.w)} (upd H2 s2.heap.objs.size (SO knd s2.heap.objs.size [])) fp)
   (T:=T) (fs:=frees js σ) (done:=Q) rfl (aiG elt tg iter ifs scope pos _ _ _) rfl rfl rfl tk rfl B.nd hc (λx hx=>Xn (B.tg x hx)) i1 (ang (X:=X.bk (NT++NF) scope _) (knd:=knd) hk i2) TT (λb hb=>?_) I4 yG (q _) λH' s' σ' J' qd=>?_
  .exact⟨(f3 b hb).1,eO (yF b hb),λhb2=>by
    rcases cB.mp (I3.BZ b hb2) with z|z
    .exact(f3 b hb).2.1 z
    .exact(f3 b hb).2.2.1 z,.inl hb,λx c e=>(f3 b hb).2.2.2.2.1 x c (q2 x c e),λp hp=>(nomatch(show p∈([]:List (aq×Obj)) from hp))⟩
  .obtain⟨m,hn,_⟩:=J'.loc
   exact hR _ H' s' m (I3.Vi f3 J') (I3.vQ (cg _) J'.free) hn qd
 exact ai0 loop (TT.self _ 0 _ _ _ yG loop)
theorem aod(hk:∀k v,RelV (mk k) v->knd.is k v=ao/\v.scannable=ao)(B:qz X NT NF js scope)(tk:pU tg NT T)(hc:X.calm=ao)(hi:PI X tg iter wi)
  (hin:∀b,oF (X.bk (NT++NF) scope b) ifs (ts b)/\PE (X.bk (NT++NF) scope b) elt (te b))
  (hs:∀x,vf iter X.env x=pure x:=by intro _;rfl):PE X (.SetComp elt [⟨tg,iter,ifs,0⟩] scope pos) (tSC knd mk X.K wi T ts te js):=by
 intro pins s σ H Q I h
 obtain⟨cl,hclos,q2,q3⟩:=JC (env:=X.env) (scope:=scope) λy hy e=>I.ok.has y.1 (B.free y hy e)
 rw[ahe];refine Nu (use:=aj) rfl hs hclos B.kind B.names (bO (hi pins s σ H _ I h) λv s1 h1=>bO h1 λitv s2 aP=>?_)
 obtain⟨it,fp,tn,J,H2,e,I2,TT,st2,f2,q⟩:=aP
 subst e;refine anh (Q:=λH'=>Q (.ref s2.heap.objs.size) H') (RR:=λacc C=>Rp (model X.prog X.w) X.A X.xe aj (EP X pins σ Q) acc C) hk B tk hc hin q2 q3 I2 TT st2 f2 (q _ (I2.hok.fresh (cg _))) λC H' s' m I' fC hn qd=>?_
 refine⟨m,hn,λh' sb=>⟨.ref s2.heap.objs.size,H',?_,rfl,qd⟩⟩
 exact I'.turned (t':=s'.toks) (λb o hb e=>(sb.2 b hb).trans e) fC.1 fC.2.1 fC.2.2.2.1 fC.2.2.2.2.1 fC.2.2.2.2.2
end
def ac0{P:bL}{w:bI}(t:TE):TE:=λσ H Q=>t σ H λx H2=>∃D ks,x=.ref D/\H2 D=aa (SO (I9 P w) D ks)/\ks.length<64/\∀(D':aq)(ns':List Str),H2 D'=aj->ns'.Perm ks->sortedS ns'=ao->Q (.ref D') (upd H2 D' (.lst (ns'.map V.str)))
theorem aj8(hc:X.calm=ao)(hl:PE X e t)(g1:Gl X "sorted")(m1:X.mg "sorted"=aj)
  (he:bJ [e] X.env=(aJ,eval e X.env)::bJ [] X.env:=by rfl)(hpl:(gH pos1 (bJ [] X.env)).any (·.1)=aJ:=by rfl):PE X (.Call (.Name "sorted" p1) [e] [] pos1) (ac0 (P:=X.prog) (w:=X.w) t):=by
 intro pins s σ H Q I h;refine H9 (vD I g1 m1 (u:=.builtin "sorted") rfl (W5 ?_ he hpl));rw[he];show aR _ _ (spliced ((aJ,eval e X.env)::gH pos1 (bJ [] X.env))) _ _ s;refine HY (bO (hl pins s σ H _ I h) λv s1 ⟨y,H1,I1,r1,D,ks,ey,hD,h64,q⟩=>N5 ?_);subst ey;cases r1
 obtain⟨⟨o,es,ep,t,ho,ex,hd,⟨ks',ek,pk⟩,hb,hf,tb⟩,_,_⟩:=I1.hok D _ hD
 obtain⟨e1,e2⟩:=ajR ek
 have few:es.size<64:=by
  rw[<-j5,ek.len,pk.length_eq];lia
 refine ah0 (Ok:=λout=>∃ns',StrsAre out ns'/\ns'.Perm ks/\sortedS ns'=ao) (I1.ok.hd hc) ⟨o,ho,ex,hd,hf,tb⟩ few (λus pm B s2 a n P E' ho' hp=>?_) λD h' d tk c out ok ge kk gD=>?_
 .have hS:StrsAre us (us.map strOf):=strsAre_map us λv hv=>e2 v (pm.mem_iff.mp hv)
  refine list_sort_treeK strKind_oneLt ho' hS.keysOf (λv1 v2 rest e=>keyKind_strs (by rw[<-e];exact hS)) (by rw[pm.length_eq,bw,j5];exact few) λst hp1 hp2=>?_
  obtain⟨ss',b1,b2,b3⟩:=sorted_out_str hS hp1 hp2
  exact hp _ ⟨ss',b1,b2.trans ((pm.map strOf).trans (by rw[e1];exact pk)),b3⟩
 .obtain⟨ns',a1,a2,a3⟩:=ok
  have hz:ns'.length<=cu:=by
   rw[a2.length_eq,iK];lia
  exact⟨.ref D,_,(I1.laid (o:=.lst (ns'.map V.str)) (t':=tk) kk ge ⟨by rw[bw];exact hz,out.toList,c,JQ a1,by simpa[seqObj] using gD⟩).drew d,rfl,q D ns' (I1.hok.fresh ge) a2 a3⟩
def Hq(fi:FI)(T:iD)(ft:FT)(fe:FE)(js:List Nat):FE:=λenv C=>match fi env C with
 |some (its,e1,C1)=>match kj T ft fe (frB js e1) its C1 with
  |some (ys,C2)=>match Kf ys with
   |some l=>aa (.ow (.list l),env,C2)
   |none=>aj
  |none=>aj
 |none=>aj
def V1(fe:FE):En->List Str->Ce->Option (List Str×Ce):=λenv acc C=>(fe env C).bind λq=>(tY (still q.1)).bind λy=>(Mg y).bind λz=>bif decide (acc.length<64) then aa (acc++[z],q.2.2) else aj
theorem TV:∀{its:List au}{ys acc:List Str}{C:Ce},kj T ft fe fs its C=aa (ys.map .str,C')->acc.length+ys.length<=64->uO T ft (V1 fe) fs its acc C=aa (acc++ys,C')
 |[],ys,acc,C,h,_=>by
  cases ys with
  |cons _ _=>cases h
  |nil=>
  cases h;rw[lO];rfl
 |d::r,ys,acc,C,h,hl=>by
  unfold kj at h;unfold uO;split at h
  case h_2=>cases h
  rename_i ts ht;rw[ht,jx];split at h
  case h_3=>cases h
  .rename_i C1 hf;rw[hf,jx];exact TV h hl
  .rename_i C1 hf;rw[hf,jx];split at h
   case h_2=>cases h
   rename_i x e2 C2 hx;split at h
   case h_2=>cases h
   rename_i y hy;split at h
   case h_2=>cases h
   rename_i zs C3 hz;cases ys with
   |nil=>cases h
   |cons w ys=>
   injection h with h
   injection h with h1 h2
   injection h1 with h1 h3
   subst h1 h2 h3;rw[cZ] at hl
   show(V1 fe (eN ts++fs) acc C1).bind _=_
   unfold V1;rw[hx,jx,hy,show tY (.im (.str w))=aa (.str w) from rfl,jx,show Mg (.str w)=aa w from rfl,jx,gk (by lia),show acc++w::ys=(acc++[w])++ys by rw[mR];rfl];exact TV hz (by rw[gb];show acc.length+1+_<=_;lia)
theorem aly{P:bL}{w:bI}{K:aM}{fi:FI}{T:iD}{ft:FT}{fe:FE}{js:List Nat}:∀σ H Q,tE K (Hq fi T ft fe js) σ H Q->ac0 (P:=P) (w:=w) (tSC (I9 P w) V.str K (tI K ao fi) T (λ_=>gm K ft) (λ_=>tE K fe) js) σ H Q:=by
 rintro σ H Q ⟨Z,Θ,env,C,res,env',C',S,hf,q⟩;unfold Hq at hf;split at hf
 case h_2=>cases hf
 rename_i its e1 C1 h1;split at hf
 case h_2=>cases hf
 rename_i ys C2 h2;split at hf
 case h_2=>cases hf
 rename_i l hs;cases hf;unfold Kf at hs;split at hs
 case isFalse=>cases hs
 rename_i hl;split at hs
 case h_2=>cases hs
 rename_i ns hns;cases hs;have hys:=R0 hns;subst hys;rw[bw] at hl
 refine⟨Z,Θ,env,C,its,e1,C1,S,h1,λJ H1 k1 f1 S1 it D hD b=>?_⟩
 have rG:D∉Θ:=λm=>(S1.cell.dom D m).ne hD
 refine RL (a0:=[]) (Ob:=λacc Hx=>Hx D=aa (SO (I9 P w) D (dedup acc))) S1 it hD dO (λa Hx Hy kk r=>kk.keep _ _ r rG) (λa Hx r=>⟨_,r,λ_ z=>nomatch z⟩) ?_ (TV (acc:=[]) h2 (by rw[Ax];lia)) λH2 ki ci r=>?_
 .intro ts acc C2 p vs H4 Q hs S4 k4 r4 hQ
  obtain⟨w,hfe,hs⟩:=jz hs
  obtain⟨yd,ud,hs⟩:=jz hs
  obtain⟨z,hz,hs⟩:=jz hs
  have ud:=FQ ud;have hz:=alg hz;subst hz;cases hlt:decide (acc.length<64) with
  |false=>rw[hlt] at hs;cases hs
  |true=>
  rw[hlt] at hs;cases hs
  refine⟨_,Θ,_,C2,w.1,w.2.1,w.2.2,S4,hfe,λy H5 k5 f5 R5=>?_⟩
  obtain⟨S5,r5⟩:=R5.uN ud
  have lt:=of_decide_eq_true hlt;have ld:=aah acc
  exact⟨dedup acc,z,k5.keep _ _ r4 rG,r5,by unfold qU;lia,hQ _ (Ux (Hy:=H5) hD (k4.trans k5)) (Kc rG S5.cell) (by rw[ahV];exact dO)⟩
 .have kk:=k1.trans ki;have ld:=aah ns
  refine⟨D,dedup ns,rfl,r,by lia,λD' ns' hn p hp=>?_⟩
  rw[UJ p hp];exact q _ _ (kk.trans (aZ.upd hn)) (Fz.refl _) ((oO (S.go kk ci) (Ry _) hn).from kk)
theorem aoe{X:Cx}{NT NF:List Str}{js:List Nat}{elt tg iter:Expr}{ifs:List Expr}{T:iD}{fi:FI}{ft:FT}{fe:FE}{scope:jO}{pos p1 pos1:Pos}(B:qz X NT NF js scope)(tk:pU tg NT T)(hc:X.calm=ao)(g1:Gl X "sorted")(m1:X.mg "sorted"=aj)(hi:PI X tg iter (tI X.K ao fi))
  (hin:∀b,oF (X.bk (NT++NF) scope b) ifs (gm X.K ft)/\PE (X.bk (NT++NF) scope b) elt (tE X.K fe))
  (hs:∀x,vf iter X.env x=pure x:=by intro _;rfl)
  (he:bJ [.SetComp elt [⟨tg,iter,ifs,0⟩] scope pos] X.env=(aJ,eval (.SetComp elt [⟨tg,iter,ifs,0⟩] scope pos) X.env)::bJ [] X.env:=by rfl)(hpl:(gH pos1 (bJ [] X.env)).any (·.1)=aJ:=by rfl):
  PE X (.Call (.Name "sorted" p1) [.SetComp elt [⟨tg,iter,ifs,0⟩] scope pos] [] pos1) (tE X.K (Hq fi T ft fe js)):=
 (aj8 hc (aod (knd:=I9 X.prog X.w) (mk:=V.str) (λk v r=>by obtain⟨t,rfl⟩:=r;exact⟨PySem.strKind_is _ _ _ _,rfl⟩) B tk hc hi hin hs) g1 m1 he hpl).weak aly
section
variable{X:Cx}{tg:Expr}
def GP(f g:FB):FI:=λenv C=>match dJ f (dJ g fQ) env C with
 |some ([.int i,.int j],_,C1)=>if -(2^62)<=i/\i<2^62/\-(2^62)<=j/\j<2^62 then aa (jt i (j-i).toNat,env,C1) else aj
 |_=>aj
theorem ai1(hg:Gl X "range")(hm:X.mg "range"=aj)(ha:PA X [a,b] (wj X.K (dJ f (dJ g fQ))))(hs:bJ [a,b] X.env=[(aJ,eval a X.env),(aJ,eval b X.env)]:=by rfl)(hs2:bJ [b] X.env=[(aJ,eval b X.env)]:=by rfl):PI X tg (.Call (.Name "range" p) [a,b] [] pos) (tI X.K bb (GP f g)):=
 (ais hg hm ha hs hs2).weak λσ H R aP=>by
  obtain⟨Z,Θ,env,C,its,env',C',S,hf,q⟩:=aP
  unfold GP at hf;split at hf
  .rename_i i j e1 C1 h1;split at hf
   .rename_i hj;cases hf
    refine⟨Z,Θ,env,C,[.int i,.int j],e1,C',S,h1,λvs H1 k f S1 b1=>?_⟩
    cases b1 with
    |cons b1 b2=>
     cases b2 with
     |cons b2 b3=>
      cases b3
      exact⟨i,j,by rw[show _=V.int i from b1,show _=V.int j from b2],hj,q _ H1 k (Fz.refl _) (S.go k S1.cell) (aa2 i (j-i).toNat)⟩
   .cases hf
  .cases hf
end
theorem V2(x:α)(r:List α):fY (x::r) 0=aa x:=xJ (j:=0) rfl
theorem V3(a x:α)(r:List α):fY (a::x::r) 1=aa x:=xJ (j:=1) rfl
theorem aee(a b x:α)(r:List α):fY (a::b::x::r) 2=aa x:=xJ (j:=2) rfl
theorem apd(a b c x:α)(r:List α):fY (a::b::c::x::r) 3=aa x:=xJ (j:=3) rfl
theorem ape(a b c d x:α)(r:List α):fY (a::b::c::d::x::r) 4=aa x:=xJ (j:=4) rfl
theorem apf(a b c d e x:α)(r:List α):fY (a::b::c::d::e::x::r) 5=aa x:=xJ (j:=5) rfl
theorem apg(a b c d e f x:α)(r:List α):fY (a::b::c::d::e::f::x::r) 6=aa x:=xJ (j:=6) rfl
theorem aof(op:au->au->Option Vl)(fa fb:FB)(env:En)(C:Ce):aO op fa fb env C=(fa env C).bind λp=>(fb p.2.1 p.2.2).bind λq=>(op p.1 q.1).bind λr=>aa (r,rst r env q.2.1,q.2.2):=by
 unfold aO;rcases h:fa env C with _|⟨x,e1,C1⟩
 .rfl
 .rcases h2:fb e1 C1 with _|⟨y,e2,C2⟩
  .simp only[jx,h2];rfl
  .simp only[jx,h2];cases op x y<;>rfl
theorem aog(f:FE)(env:En)(C:Ce):az f env C=(f env C).bind λp=>(dat p.1).map λd=>(d,p.2.1,p.2.2):=by
 unfold az;rcases h:f env C with _|⟨x,e1,C1⟩<;>rfl
theorem aph(i:Nat)(env:En)(C:Ce):aK i env C=(env[i]?).bind λo=>o.bind λx=>(dat x).map λd=>(d,env,C):=by
 unfold aK;rcases env[i]? with _|(_|x)<;>rfl
theorem aoh(f g:FT)(env:En)(C:Ce):nH f g env C=(f env C).bind λp=>if p.1 then g env p.2 else aa (aJ,p.2):=by
 unfold nH;rcases h:f env C with _|⟨_|_,D⟩<;>rfl
theorem api(f g:FT)(env:En)(C:Ce):tO f g env C=(f env C).bind λp=>if p.1 then aa (ao,p.2) else g env p.2:=by
 unfold tO;rcases h:f env C with _|⟨_|_,D⟩<;>rfl
theorem aoi(f:FT)(env:En)(C:Ce):xZ f env C=(f env C).map λp=>(!p.1,p.2):=by
 unfold xZ;rcases h:f env C with _|⟨b,D⟩<;>rfl
theorem apj(c:FT)(f g:FS)(env:En)(C:Ce):jF c f g env C=(c env C).bind λp=>if p.1 then f env p.2 else g env p.2:=by
 unfold jF;rcases h:c env C with _|⟨_|_,D⟩<;>rfl
theorem aoj(c:FT)(f g:FE)(env:En)(C:Ce):zY c f g env C=(c env C).bind λp=>if p.1 then f env p.2 else g env p.2:=by
 unfold zY;rcases h:c env C with _|⟨_|_,D⟩<;>rfl
theorem adE(op op':au->au->Option Vl)(fa fb fc:FB)(h1:fa env C=aa (x,e1,C1))(h2:fb e1 C1=aa (y,e2,C2))(h3:op x y=aa (.im (.bool a)))(h4:fc e2 C2=aa (z,e3,C2))(h5:op' y z=aa (.im (.bool b))):yt op op' fa fb fc env C=aa (.im (.bool (a&&b)),env,C2):=by
 unfold yt;simp only[h1,h2,h3];cases a with
 |false=>rfl
 |true=>simp only[h4,h5];rfl
theorem apk(d:au)(e f:En):rst (.ow d) e f=f:=rfl
theorem ani(b:Bool)(e f:En):rst (.im (.bool b)) e f=e:=rfl
theorem aok(i:Int)(e f:En):rst (.im (.int i)) e f=e:=rfl
theorem aol(z:Str)(e f:En):rst (.im (.str z)) e f=e:=rfl
theorem apl(l r:List au)(e f:En):rst (.im (.tuple (.list l::r))) e f=f:=rfl
theorem add_int(i j:Int):cG (.int i) (.int j)=aa (.im (.int (i+j))):=rfl
theorem sub_int(i j:Int):xX (.int i) (.int j)=aa (.im (.int (i-j))):=rfl
theorem le_int(i j:Int):qG (.int i) (.int j)=aa (.im (.bool (decide (i<=j)))):=rfl
theorem lt_int(i j:Int):vU (.int i) (.int j)=aa (.im (.bool (decide (i<j)))):=rfl
theorem ge_int(i j:Int):Mh (.int i) (.int j)=aa (.im (.bool (decide (j<=i)))):=rfl
theorem gt_int(i j:Int):vV (.int i) (.int j)=aa (.im (.bool (decide (j<i)))):=rfl
theorem eq_int(i j:Int):m5 (.int i) (.int j)=aa (.im (.bool (i==j))):=rfl
theorem eq_bool(a b:Bool):m5 (.bool a) (.bool b)=aa (.im (.bool (a==b))):=rfl
theorem ne_bool(a b:Bool):lV (.bool a) (.bool b)=aa (.im (.bool (!(a==b)))):=rfl
theorem ne_int(i j:Int):lV (.int i) (.int j)=aa (.im (.bool (!(i==j)))):=rfl
theorem aom(ds:List au):lF [.list ds]=aa (.im (.int ds.length)):=rfl
theorem aon(ds:List au):lF [.tuple ds]=aa (.im (.int ds.length)):=rfl
theorem apm(ds:List au)(i:Int):bQ (.tuple ds) (.int i)=(fY ds i).map .im:=rfl
theorem apn(ds:List au)(i:Int):bQ (.list ds) (.int i)=(fY ds i).map .im:=rfl
theorem add_l(h:xs.length+ys.length<=1000000):cG (.list xs) (.list ys)=aa (.ow (.list (xs++ys))):=bz h
theorem Lz(h:xs.length+ys.length<=1000000):cG (.tuple xs) (.tuple ys)=aa (.im (.tuple (xs++ys))):=by
 unfold cG;cases xs with
 |nil=>rfl
 |cons x xs=>exact bz h
theorem uU{ds:List au}{i:Nat}{d:au}(h:ds[i]?=aa d):bQ (.tuple ds) (.int i)=aa (.im d):=by
 simp only[bQ,tZ,xJ h,j6]
theorem aoo(h:lB):bQ (j9 h) (.int 0)=aa (.im (.tuple (h.ps.map uT))):=uU (i:=0) rfl
theorem aop(h:lB):bQ (j9 h) (.int 1)=aa (.im (.tuple (h.yj.map uR))):=uU (i:=1) rfl
theorem aoq(h:lB):bQ (j9 h) (.int 2)=aa (.im (.tuple (h.leaves.map bD))):=uU (i:=2) rfl
theorem aor(h:lB):bQ (j9 h) (.int 3)=aa (.im (.tuple (h.rules.map Gr))):=uU (i:=3) rfl
theorem aos(r:tG):bQ (uR r) (.int 0)=aa (.im (.int r.1)):=uU (i:=0) rfl
theorem aot(r:tG):bQ (uR r) (.int 1)=aa (.im (.str r.2.1)):=uU (i:=1) rfl
theorem aou(r:tG):bQ (uR r) (.int 2)=aa (.im (.int r.2.2.1)):=uU (i:=2) rfl
theorem aov(r:tG):bQ (uR r) (.int 3)=aa (.im (.str r.2.2.2.1)):=uU (i:=3) rfl
theorem aow(r:tG):bQ (uR r) (.int 4)=aa (.im (.int r.2.2.2.2.1)):=uU (i:=4) rfl
theorem aox(r:tG):bQ (uR r) (.int 5)=aa (.im (.int r.2.2.2.2.2)):=uU (i:=5) rfl
theorem yw(h0:-1000000<=m)(h1:m<=1000000)(a b:α):(if -(2^62)<=m/\m<2^62 then a else b)=a:=bz (by lia)
theorem gZ(en:En)(hk:xs.length=k)(he:xs.map aa++gR (n-xs.length) aj=en)(h:(body en C).map (λp=>(p.1,p.2.2))=aa (.rt r,C1))(hr:CT C.length r=ao)(hC:C1.length=C.length):fN k n body xs C=aa (r,C1):=by
 unfold fN;rw[bz hk,he];cases hb:body en C with
 |none=>rw[hb] at h;cases h
 |some p=>
  rw[hb] at h
  obtain⟨fl,e1,C2⟩:=p
  have h:(fl,C2)=(Fl.rt r,C1):=gP h;injection h with h1 h2
  subst h1 h2;simp only[hr,if_true,aa7 hC]
theorem letters(k:Int)(h0:0<=k)(h1:k<26):tZ (.str abc) (.int k)=aa (.str ⟨#[97+k.toNat]⟩):=by
 have e:=ana h0 h1;have hl:abc.length<=f9:=by decide +kernel
 simp only[tZ];rw[bz hl,e];rfl
theorem QF:∀zs:List Str,strsOf (zs.map eV)=aa zs
 |[]=>rfl
 |z::zs=>by
  show(match strsOf (zs.map eV) with|some t=>aa (z::t)|none=>aj)=_
  rw[QF zs]
theorem QG:∀ns:List Int,intsOf (ns.map lQ)=aa ns
 |[]=>rfl
 |n::ns=>by
  show(match intsOf (ns.map lQ) with|some t=>aa (n::t)|none=>aj)=_
  rw[QG ns]
theorem aap:∀zs:List Str,gO (zs.map eV)=ao
 |[]=>rfl
 |z::zs=>by
  show(ao&&gO (zs.map eV))=ao
  rw[aap zs];rfl
theorem QH:∀cs:List Nat,gO (cs.map λc=>eV ⟨#[c]⟩)=ao
 |[]=>rfl
 |c::cs=>by
  show(ao&&gO (cs.map λc=>eV ⟨#[c]⟩))=ao
  rw[QH cs];rfl
theorem Zg:∀cs:List Nat,strsOf (cs.map λc=>eV ⟨#[c]⟩)=aa (cs.map λc=>(⟨#[c]⟩:Str))
 |[]=>rfl
 |c::cs=>by
  show(match strsOf (cs.map λc=>eV ⟨#[c]⟩) with|some t=>aa (_::t)|none=>aj)=_
  rw[Zg cs];rfl
theorem ai2:(gf "").length=0:=by decide +kernel
theorem ne_nil(zs:List Str)(hz:∀z∈zs,nameB z=ao):lV (.list (zs.map .str)) (.list [])=aa (.im (.bool (!zs.isEmpty))):=by
 have s1:lN (.list (zs.map eV))=ao:=ahA λz m=>El (hz z m)
 have n1:qM (.list (zs.map eV))=ao:=(R4 λz m=>El (hz z m)).2.2;have e:yK (.list (zs.map .str)) (.list [])=aa zs.isEmpty:=by
  show(if qM (.list (zs.map eV))&&qM (.list [])&&(lN (.list (zs.map eV))&&lN (.list [])) then aa (xq (.list (zs.map .str)) (.list [])) else aj)=_
  rw[n1,s1];cases zs<;>rfl
 simp only[lV,e,j6]
abbrev hEn(b:Nat)(zs:List Str)(ps:List (Str×Str))(own:List Str)(rk:List tG)(lv:List cI)(ru:List (au×au))(v7 v8 v9 v10 v11 bT dU cP dz c7 cQ cR:Option Vl):En:=
 [aa (.ce b),aa (.im (.list (zs.map .str))),aa (.ow (.list (ps.map uT))),aa (.ow (.list (own.map .str))),aa (.ow (.list (rk.map uR))),aa (.ow (.list (lv.map bD))),aa (.ow (.dict ru)),v7,v8,v9,v10,v11,bT,dU,cP,dz,c7,cQ,cR]
theorem aj9(r:Vl)(e:En):rst r e e=e:=by
 cases r<;>simp[rst]
theorem alz{ns:List Int}{i:Nat}{d:au}(h:(ns.map lQ)[i]?=aa d):∃x,d=.int x/\ns[i]?=aa x/\x∈ns/\i<ns.length:=by
 rw[iJ] at h;cases hx:ns[i]? with
 |none=>rw[hx] at h;cases h
 |some x=>
  rw[hx] at h
  exact⟨x,(gP h).symm,rfl,p7 hx,(jH.mp hx).1⟩
theorem take_snoc{ns:List Int}{i:Nat}{x:Int}(h:ns[i]?=aa x):ns.take (i+1)=ns.take i++[x]:=by
 rw[List.take_add_one,h];rfl
theorem aaq:∀ss:List Gq,gO (ss.map Ly)=ao
 |[]=>rfl
 |s::ss=>by
  show(ao&&gO (ss.map Ly))=ao
  rw[aaq ss];rfl
theorem aar:∀rs:List Lx,gO (rs.map Gr)=ao
 |[]=>rfl
 |r::rs=>by
  show((ao&&(ao&&(gO (r.2.2.map Ly)&&ao)))&&gO (rs.map Gr))=ao
  rw[aar rs,aaq];rfl
theorem adF(hk:xs.length=k)(he:xs.map aa++gR (n-xs.length) aj=en)(h:body en C=aa (.rt r,e1,C1))(hr:CT C.length r=ao)(hC:C1.length=C.length):fN k n body xs C=aa (r,C1):=by
 unfold fN;rw[bz hk,he,h];simp only[hr,if_true,aa7 hC]
theorem Ra:∀zs:List Str,(zs.map eV).all lC=ao
 |[]=>rfl
 |z::zs=>by
  rw[cJ,Pj,Ra zs];rfl
theorem alA(z:Str)(zs:List Str):jY (.str z) (.list (zs.map .str))=aa (.im (.bool (decide (z∈zs)))):=by
 have:inB (.str z) (.list (zs.map .str))=aa (inD (.str z) (zs.map .str)):=bz (by rw[Ra];rfl);unfold jY;rw[this,Kh];rfl
theorem alB(x z:Str):m5 (.str x) (.str z)=aa (.im (.bool (decide (x=z)))):=by
 have:(x==z)=decide (x=z):=by rw[rO];simp
 show aa (Vl.im (.bool (x==z)))=_;rw[this]
theorem KJ(x z:Str):lV (.str x) (.str z)=aa (.im (.bool (!decide (x=z)))):=by
 have:(x==z)=decide (x=z):=by rw[rO];simp
 show aa (Vl.im (.bool (!(x==z))))=_;rw[this]
def bY(q:List (Str×Str)):List (Str×au):=q.map λp=>(p.1,.str p.2)
theorem abb:∀q,z8 (bu (bY q))=ao
 |[]=>rfl
 |x::q=>by
  show(ao&&z8 (bu (bY q)))=ao
  rw[abb q];rfl
theorem Kl(q:List (Str×Str))(z:Str):nG (bu (bY q)) (.str z)=aa ((jr q z).map .str):=by
 rw[Q9];unfold bY jr;rw[aj7,DR];rfl
theorem aas:∀l:List Int,gO (l.map lQ)=ao
 |[]=>rfl
 |x::l=>by
  show(ao&&gO (l.map lQ))=ao
  rw[aas l];rfl
theorem ah8:∀(n:Nat),Gm [.list (gR n (.bool ao))]=aa (.im (.bool ao))/\gO (gR n (.bool ao))=ao:=by
 intro n;have h:boolsOf (gR n (.bool ao))=aa (gR n ao)/\gO (gR n (.bool ao))=ao:=by
  induction n with
  |zero=>exact⟨rfl,rfl⟩
  |succ n ih=>
   rw[Xr,Xr]
   refine⟨?_,?_⟩
   .unfold boolsOf;rw[ih.1]
   .show(ao&&gO (gR n (.bool ao)))=ao
    rw[ih.2];rfl
 refine⟨?_,h.2⟩
 unfold Gm;simp only[h.1,j6];congr 3;rw[oG];intro b hb
 exact(List.mem_replicate.mp hb).2
theorem uB{zs:List Str}{k:Int}(h0:0<=k)(h1:k<zs.length):∃z,z∈zs/\zs[k.toNat]?=aa z/\fY (zs.map eV) k=aa (.str z):=by
 obtain⟨x,e1,e2⟩:=acZ (xs:=zs.map eV) h0 (by rw[bw];exact h1)
 rw[iJ] at e2;cases hz:zs[k.toNat]? with
 |none=>rw[hz] at e2;cases e2
 |some z=>
  rw[hz] at e2;cases e2
  exact⟨z,p7 hz,rfl,e1⟩
theorem anj{α:Type}{f:α->au}{l:List α}{i:Nat}{d:au}(h:(l.map f)[i]?=aa d):∃x,l[i]?=aa x/\d=f x:=by
 rw[iJ] at h;cases hx:l[i]? with
 |none=>rw[hx] at h;cases h
 |some x=>rw[hx] at h;exact⟨x,rfl,(gP h).symm⟩
def Bf(L:Nat)(C:Ce)(b k:Nat):Prop:=C.length=L/\∃x y z:Int,C[b]?=aa [x,y,z]/\0<=x/\0<=y/\y<=3000000000/\0<=z/\z+k<=900000
theorem Bf.mono(h:Bf L C b k)(hj:j<=k):Bf L C b j:=by
 obtain⟨l,x,y,z,h1,h2,h3,h4,h5,h6⟩:=h
 exact⟨l,x,y,z,h1,h2,h3,h4,h5,by lia⟩
theorem Bf.dec(h:Bf L C b (k+1)):Bf L C b k:=h.mono (uw k)
theorem Bf.eq(h:Bf L C b k)(h':Bf L C' b' k'):C'.length=C.length:=h'.1.trans h.1.symm
inductive HE(b:Nat)(zs:List Str)(ps:List (Str×Str))(own:List Str)(rk:List tG)(lv:List cI)(ru:List (au×au)):En->Prop
 |mk (v7 v8 v9 v10 v11 bT dU cP dz c7 cQ cR:Option Vl):HE b zs ps own rk lv ru (hEn b zs ps own rk lv ru v7 v8 v9 v10 v11 bT dU cP dz c7 cQ cR)
theorem Vo(a c:Nat)(h:i<n):a+c*(n-i)=a+c*(n-(i+1))+c:=by
 rw[show n-i=(n-(i+1))+1 by lia,Nat.mul_add,Nat.mul_one,Nat.add_assoc]
theorem ank(a:Nat)(h:i<n):a+(n-i)=a+(n-(i+1))+1:=by lia
section
variable{prog:bL}{w:bI}{A:cM}{E:Value->aD->Prop}{s:aD}
end
section
variable{prog:bL}{w:bI}{A:cM}{E:Value->aD->Prop}{s:aD}{z TI TO i1 i2 l1 l2:aq}{f1 f2:List aq}{n:Nat}{P1 P2:Nat->Value->Prop}{S1 S2:Nat->bC->Prop}
end
section
variable{X:Cx}
end
def CW(fk:FB)(fv:FE):FE:=λenv C=>match fk env C with
 |some (dk,e1,C1)=>match fv e1 C1 with
  |some (r,e2,C2)=>match cX dk with
   |some _=>match still r with
    |.im d=>aa (.ow (.dict [(dk,d)]),e2,C2)
    |_=>aj
   |none=>aj
  |none=>aj
 |none=>aj
theorem abd(hk:PE X k (eZ X.K fk))(hv:PE X v (tE X.K fv)):PE X (.Dict [aa k] [v] pos) (tE X.K (CW fk fv)):=
 (akX (ajA hk hv akW) rfl rfl (λz=>nomatch z) (Dy rfl)).weak λσ H Q aP=>by
 obtain⟨Z,Θ,env,C,r,env',C',S,hf,q⟩:=aP
 unfold CW at hf;split at hf
 case h_2=>cases hf
 rename_i dk e1 C1 h1;split at hf
 case h_2=>cases hf
 rename_i rv e2 C2 h2;split at hf
 case h_2=>cases hf
 rename_i kk hkk;split at hf
 case h_2=>cases hf
 rename_i d hs;cases hf;intro p hp
 refine⟨p::Z,Θ,env,C,dk,e1,C1,S.push hp _ (λ_ z=>nomatch z),h1,λx H1 k1 f1 S1 bx=>?_⟩
 refine⟨p::Z,Θ,e1,C1,rv,env',C',S1,h2,λy H2 k2 f2 r2=>?_⟩
 have R:=r2.still;rw[hs] at R
 obtain⟨S2,rz⟩:=R
 have ex:x=kV kk:=by
  cases dk<;>first|(cases hkk;exact bx)|cases hkk
 have tX:aZ Θ H H2:=((aZ.upd hp).trans k1).trans k2;have np:p∉Θ:=λm=>by
  have:=(jD.mp S2.nd).1;exact this (fK _ (iW _ m))
 have e2p:H2 p=aa (.dK []):=(k1.trans k2).keep _ _ dO np
 refine⟨e2p,[(kk,y)],by rw[ex];rfl,Dy rfl,?_⟩
 have kf:aZ Θ H (upd H2 p (.dK [(kk,y)])):=⟨λa o ha na=>by
  rw[cV (pM ha hp)];exact tX.keep _ _ ha na,λa ha=>by
  by_cases z:a=p
  .exact absurd (z▸hp) ha
  .rw[cV z];exact tX.2 a ha⟩
 have c2:pP Θ C' (upd H2 p (.dK [(kk,y)])):=⟨S2.cell.len,λn b ns h3 h4=>by
  have:=S2.cell.at_ n b ns h3 h4;rw[cV (show b≠p from λz=>np (by rw[<-z];exact p7 h3))];exact this⟩
 refine q _ _ kf (f1.trans f2) ⟨p,rfl,hp,(S.fz (f1.trans f2)).yc hp kf ⟨_,dO,λ_ z=>nomatch z⟩ c2,[y],.inl ⟨[kk],?_,dO⟩,y,[],rfl,?_,rfl⟩
 .unfold cO;rw[hkk];rfl
 .refine rz.same λa u e=>?_
  unfold er at e⊢;split at e
  .cases e
  .rename_i n;rw[bH n,cV (show a≠p from λz=>n (by rw[z];exact dN))];exact e
def Mr(i:Nat)(f:FB):FS:=λenv C=>if oY env[i]? then match f env C with
  |some (.list ys,e1,C1)=>match e1[i]? with
   |some (some (.ow (.list ds)))=>if ds.length+ys.length<=f9 then aa (.nx,e1.set i (aa (.ow (.list (ds++ys)))),C1) else aj
   |_=>aj
  |_=>aj
 else aj
theorem anl(ho:PE X o (qF i))(he:PE X e (eZ X.K f))
  (hs0:ux (.Call (.Attribute o "extend" apos) [e] [] cpos) aj pos.line X.env=pure aJ:=by rfl)
  (hbase:vm o "extend" X.env (eval o X.env)=eval o X.env:=by rfl)
  (hfew:((gH cpos (bJ [e] X.env)).all (λx=>!x.1)&&(zq cpos (zf [] X.env)).all (λx=>x.1.isSome)
   &&decide (([e]:List Expr).length+([]:List oh).length+(if([]:List oh).isEmpty then 0 else 1)<30))=ao:=by rfl)
  (hline:(apos.endLine==cpos.line)=ao:=by rfl)(hs:bJ [e] X.env=(aJ,eval e X.env)::bJ [] X.env:=by rfl)(hplain:(gH cpos (bJ [] X.env)).any (·.1)=aJ:=by rfl):
  PS X (.Expr (.Call (.Attribute o "extend" apos) [e] [] cpos) pos) (tS X.K (Mr i f)):=
 (SX (Gh Ny afP PySem.F.type_list_extend (tW.r aiA) ho (n6 he qu hs) hbase hfew hline hs hplain) hs0).weak λD σ H aP=>by
  obtain⟨Z,Θ,env,C,fl,env',C',S,hf,q⟩:=aP
  unfold Mr at hf;split at hf
  .rename_i h0
   obtain⟨ds0,h0⟩:=aa0 h0
   obtain⟨v0,rK,a,rfl,Dq,ha0,r0⟩:=S.slot i _ h0
   split at hf
   .rename_i ys e1 C1 h1;split at hf
    .rename_i ds hi;split at hf
     .rename_i hl;cases hf
      refine⟨_,rK,.inl ⟨rfl,Dq,bR.of ha0⟩,Z,Θ,env,C,.list ys,e1,C',S,h1,λv H1 k f S1 bo=>?_⟩
      obtain⟨b,ws,rfl,hb,r1⟩:=bo
      obtain⟨v1,ev1,a1,Wn,vs,ha1,r2⟩:=S1.slot i _ hi
      subst Wn;rw[rK] at ev1;cases ev1
      refine⟨a,b,vs,ws,rfl,rfl,ha1,jn hb,by rw[jo r2,jo r1,iK];unfold f9 at hl;lia,?_⟩
      have w:fj X.K Z Θ e1 σ H1 Θ (e1.set i (aa (.ow (.list (ds++ys))))) C' σ (upd H1 a (.lst (vs++ws))):=S1.write hi rK ⟨_,dO,zA r2 r1⟩;exact q Θ σ _ ((fj.rJ k f S1).trans w)
     .cases hf
    .cases hf
   .cases hf
  .cases hf
section
variable{prog:bL}{w:bI}{A:cM}{E:Value->aD->Prop}{s:aD}{R:sH->aD->Prop}{I S:aq}{fp wr:List aq}{n:Nat}{Pv:Nat->Value->Prop}{St:Nat->bC->Prop}{bt:Nat->Nat->Bool}{HK:bC->Prop}
theorem alC(W:zP prog w A.in1 I fp wr n Pv St)(cmp:∀(i j:Nat)(vi vj:Value)(s:aD)(Q:Value->aD->Prop)(E:Value->aD->Prop),HK s.heap->Pv i vi->Pv j vj->Q (.bool (bt i j)) s->aR (model prog w) A.in1 (Eg .Lt vi vj) Q E s)
  (hk:∀h h',HK h->(∀b o,b∉wr->b≠S->h.get? b=aa o->h'.get? b=aa o)->HK h')(out:S∉fp):∀(m j:Nat)(s:aD)(vb:Value)(c:Nat),n-(j+1)=m->j+1<=n->St (j+1) s.heap->HK s.heap->Pv (nC bt j) vb->s.heap.get? S=aa (an8 vb c)->
  (∀v h' tk,Pv (nC bt (n-1)) v->(∀b o,b∉wr->b≠S->s.heap.get? b=aa o->h'.get? b=aa o)->R (.ok (.ret v)) {s with heap:=h',toks:=tk})->mC (model prog w) A (.builtin "min.loop" ⟨[.ref I,.none,.ref S],[]⟩) R s:=by
 have Ms:S∉wr:=λz=>out (W.sub _ z)
 have nm:(toString "min"++toString ".loop":String)="min.loop":=by decide
 intro m;induction m with
 |zero=>
  intro j s vb c hm hj st kp pb hS hR;have last:j+1=n:=by lia
  refine wR Xi ?_;rw[wI Aj _];show aR _ A.in1 (seqItems? (.ref S) >>= _) _ _ s;refine aG (Iz hS rfl ?_);show aR _ A.in1 (tryCatch (nD (.ref I)) _ >>= _) _ _ s;refine aG (O3 (W.done s _ _ (last▸st) λh' tk kk=>?_));have g:=kk S _ Ms hS;show aR _ A.in1 (Q6 S (λ_=>#[]) >>= _) _ _ _;refine aG (Ip g rfl (aG (Qh (bh ?_))));exact hR vb _ tk (by rw[<-last];exact pb) λb o hb hbS e=>(um _ _ (lg hbS)).trans (kk b o hb e)
 |succ m ih=>
  intro j s vb c hm hj st kp pb hS hR;have lt:j+1<n:=by lia
  refine wR Xi ?_;rw[wI Aj _];show aR _ A.in1 (seqItems? (.ref S) >>= _) _ _ s;refine aG (Iz hS rfl ?_);show aR _ A.in1 (tryCatch (nD (.ref I)) _ >>= _) _ _ s;refine aG (O3 (W.item (j+1) s _ _ lt st λv h' tk pv st' kk=>?_));have g:=kk S _ Ms hS;have Hr:HK h':=hk _ _ kp λb o hb _ e=>kk b o hb e
  show aR _ A.in1 (tryCatch (qX [v,v] (Eg .Lt v vb >>= _)) _ >>= _) _ _ _;refine aG (O3 (mV (aG (cmp (j+1) (nC bt j) v vb _ _ _ Hr pv pb ?_))));refine aG (mV (wN (aG (Qh (bh ?_)))));cases hb:bt (j+1) (nC bt j) with
  |true=>
   simp only[if_true];refine aG (Ip g rfl (aG (Qh ?_)));rw[nm];refine bh ⟨vo Aj _,ih (j+1) _ v _ (by lia) lt (W.frame _ _ _ st' λb hbf o e=>(um _ _ λz:S=b=>out (z▸hbf)).trans e) (hk _ _ Hr λb o _ hbS e=>(um _ _ (lg hbS)).trans e) (by simp only[nC,hb,if_true];exact pv) (yN _ g rfl) λv' h2 tk2 Hs tX=>?_⟩;exact hR v' h2 tk2 Hs λb o hb' hbS e=>tX b o hb' hbS ((um _ _ (lg hbS)).trans (kk b o hb' e))
  |false=>
   simp only[pH,if_false];refine aG (Qh ?_);rw[nm];refine bh ⟨vo Aj _,ih (j+1) _ vb c (by lia) lt st' Hr (by simp only[nC,hb,pH,if_false];exact pb) g λv' h2 tk2 Hs tX=>?_⟩;exact hR v' h2 tk2 Hs λb o hb' hbS e=>tX b o hb' hbS (kk b o hb' e)
theorem alD(W:zP prog w A.in1 I fp wr n Pv St)(cmp:∀(i j:Nat)(vi vj:Value)(s:aD)(Q:Value->aD->Prop)(E:Value->aD->Prop),HK s.heap->Pv i vi->Pv j vj->Q (.bool (bt i j)) s->aR (model prog w) A.in1 (Eg .Lt vi vj) Q E s)
  (hk:∀h h',HK h->(∀b o,b∉wr->b≠S->h.get? b=aa o->h'.get? b=aa o)->HK h')(out:S∉fp)(pos:0<n)(st:St 0 s.heap)(kp:HK s.heap)(hS:s.heap.get? S=aa {cls:=.type "list",dict:=aj,data:=.seq #[] c,slots:=#[]})
  (hR:∀v h' tk,Pv (nC bt (n-1)) v->(∀b o,b∉wr->b≠S->s.heap.get? b=aa o->h'.get? b=aa o)->R (.ok (.ret v)) {s with heap:=h',toks:=tk}):mC (model prog w) A (.builtin "min.loop" ⟨[.ref I,.none,.ref S],[]⟩) R s:=by
 have Ms:S∉wr:=λz=>out (W.sub _ z)
 have nm:(toString "min"++toString ".loop":String)="min.loop":=by decide
 refine wR Xi ?_;rw[wI Aj _];show aR _ A.in1 (seqItems? (.ref S) >>= _) _ _ s;refine aG (Iz hS rfl ?_);show aR _ A.in1 (tryCatch (nD (.ref I)) _ >>= _) _ _ s;refine aG (O3 (W.item 0 s _ _ pos st λv h' tk pv st' kk=>?_));have g:=kk S _ Ms hS;have Hr:HK h':=hk _ _ kp λb o hb _ e=>kk b o hb e
 show aR _ A.in1 (Q6 S (λ_=>#[v,v]) >>= _) _ _ _;refine aG (Ip g rfl ?_);rw[nm];refine bh ⟨vo Aj _,alC W cmp hk out _ 0 _ v _ rfl pos (W.frame _ _ _ st' λb hbf o e=>(um _ _ λz:S=b=>out (z▸hbf)).trans e) (hk _ _ Hr λb o _ hbS e=>(um _ _ (lg hbS)).trans e) pv (yN _ g rfl) λv' h2 tk2 Hs tX=>?_⟩;exact hR v' h2 tk2 Hs λb o hb' hbS e=>tX b o hb' hbS ((um _ _ (lg hbS)).trans (kk b o hb' e))
theorem alE(hh:A.handled=aj)(hl:s.heap.IsList l items)(pos:0<items.size)
  (cmp:∀(i j:Nat)(vi vj:Value)(s':aD)(Q:Value->aD->Prop)(E:Value->aD->Prop),(∀b o,s.heap.get? b=aa o->s'.heap.get? b=aa o)->items[i]?=aa vi->items[j]?=aa vj->Q (.bool (bt i j)) s'->aR (model prog w) A.in1 (Eg .Lt vi vj) Q E s')
  (h:∀(v:Value)(h':bC)(tk:Nat),items[nC bt (items.size-1)]?=aa v->(∀b o,s.heap.get? b=aa o->h'.get? b=aa o)->Q v {s with heap:=h',toks:=tk}):aR (model prog w) A (call (.builtin "min") [.ref l]) Q E s:=by
 have nm:(toString "min"++toString ".loop":String)="min.loop":=by decide
 have ltl:l<s.heap.objs.size:=by obtain⟨o,ho,_⟩:=hl;exact cF ho
 refine ag8 PySem.F.kind_min PySem.F.plain_min PySem.F.entry_min (PySem.F.args_min1 _) ?_;show aR _ A.in1 (ae5 "min" ["key","default"] 0 ⟨[],[]⟩ >>= _) _ _ s;refine aG (Zz (show ae5 "min" ["key","default"] 0 ⟨[],[]⟩=pure [aj,aj] from rfl) ?_);refine aG (bh ?_);refine aG (XF hl (aG (mQ ?_)));rw[nm];have yH:(s.heap.push {cls:=.type "list_iterator",data:=.fields #[.ref l,.int 0 0]}).objs.size=s.heap.objs.size+1:=wV ..;have W:=ahP (prog:=prog) (w:=w) (A:=A.in1) (by simp[hh]) s.heap.objs.size l (eO ltl) items;refine bh ⟨vo Aj _,?_⟩;show mC (model prog w) A (.builtin "min.loop" ⟨[.ref s.heap.objs.size,.none,.ref (s.heap.push {cls:=.type "list_iterator",data:=.fields #[.ref l,.int 0 0]}).objs.size],[]⟩) _ {s with heap:=(s.heap.push {cls:=.type "list_iterator",data:=.fields #[.ref l,.int 0 0]}).push {cls:=.type "list",data:=.seq #[]}};have ol:∀b o,s.heap.get? b=aa o->b∉[s.heap.objs.size]:=λb o e=>by
  simp only[cB,mj,or_false];exact eO (cF e)
 have ol2:∀b o,s.heap.get? b=aa o->b≠(s.heap.push {cls:=.type "list_iterator",data:=.fields #[.ref l,.int 0 0]}).objs.size:=λb o e=>by
  rw[yH];exact eO (wO (cF e))
 refine alD (HK:=λh=>∀b o,s.heap.get? b=aa o->h.get? b=aa o) W cmp (λh h' k kk b o e=>kk b o (ol b o e) (ol2 b o e) (k b o e)) ?_ pos ⟨⟨_,cW _ (iH _ rfl),rfl,rfl⟩,(hl.push _).push _⟩ (λb o e=>cW _ (cW _ e)) (iH _ rfl) λv h' tk hv kk=>?_
 .rw[yH];simp only[cB,mj,or_false,not_or]
  exact⟨Be (Yb _),Be (wO ltl)⟩
 .exact h v h' tk hv λb o e=>kk b o (ol b o e) (ol2 b o e) (cW _ (cW _ e))
end
section
variable{X:Cx}
theorem agQ(hc:X.calm=ao)(hu:X.A.units+1<gj):ie X (.builtin "min") (λxs H Q=>∃(p:aq)(rows:List Row)(sh:List Bool),xs=[.ref p]/\bR X.K H p (rows.map λr=>V.ref r.1)/\0<rows.length/\(∀r∈rows,H r.1=aa (.tup (r.2.map kV))/\r.2.map bV=sh)/\
  ∀r,rows[nC (mF rows) (rows.length-1)]?=aa r->Q (.ref r.1) H):=by
 intro pins s σ H xs us Q I r h
 obtain⟨p,rows,sh,rfl,hp,pos,ha,q⟩:=h
 obtain⟨u,rfl,ru⟩:=vals1 r
 cases ru
 obtain⟨its,r',pl,hz⟩:=I.list hp
 have ei:its=rows.map λr=>dH r.1:=by
  clear pos ha q pl hz hp;induction rows generalizing its with
  |nil=>cases r';rfl
  |cons a rows ih=>
   cases r' with
   |cons h t=>
    cases h;rw[ih _ t];rfl
 subst ei;have tu:∀r∈rows,TupAt s.heap r/\r.2.map bV=sh:=λr hr=>by
  obtain⟨_,its,v,t⟩:=(show fL X.prog X.w H s.heap r.1 (.tup (r.2.map kV)) from I.hok r.1 _ (ha r hr).1)
  exact⟨⟨its,v,t⟩,(ha r hr).2⟩
 refine alE (bt:=mF rows) (I.ok.hd hc) pl.isList (by simpa using pos) (λi j vi vj s' Q E k hi hj q=>?_) λv h' tk hv k=>?_
 .have hi':(rows.map λr=>dH r.1)[i]?=aa vi:=by simpa using hi
  have hj':(rows.map λr=>dH r.1)[j]?=aa vj:=by simpa using hj
  rw[iJ] at hi' hj';cases ri:rows[i]? with
  |none=>rw[ri] at hi';cases hi'
  |some a=>
   cases rj:rows[j]? with
   |none=>rw[rj] at hj';cases hj'
   |some b=>
    rw[ri] at hi';rw[rj] at hj';cases hi';cases hj'
    obtain⟨⟨its,v,t⟩,sa⟩:=tu a (p7 ri)
    obtain⟨⟨its2,v2,t2⟩,sb⟩:=tu b (p7 rj)
    have ta:=(TupAt.keep (r:=a) ⟨its,v,t⟩ k)
    have tb:=(TupAt.keep (r:=b) ⟨its2,v2,t2⟩ k)
    obtain⟨its,v,t⟩:=ta
    obtain⟨its2,v2,t2⟩:=tb
    refine ZR t t2 (by simpa using v) (by simpa using v2) (sa.trans sb.symm) hu ?_;have e:mF rows i j=fD a.2 b.2:=by
     unfold mF vI;simp[ri,rj]
    rw[<-e];exact q
 .have hv':(rows.map λr=>dH r.1)[nC (mF rows) (rows.length-1)]?=aa v:=by simpa using hv
  rw[iJ] at hv';cases rv:rows[nC (mF rows) (rows.length-1)]? with
  |none=>rw[rv] at hv';cases hv'
  |some a=>
   rw[rv] at hv';cases hv'
   exact⟨.ref a.1,H,I.kept (t':=tk) k,rfl,q a rv⟩
end
def Wx(K:aM)(a:aq):It:=⟨λi H=>∃xs,bR K H a xs/\i<xs.length,
 λi H v H'=>∃p x,H p=aj/\v=.ref p/\H'=upd H p (.tup [.int i,x])/\∀xs,bR K H a xs->xs[i]?=aa x,
 λi H=>∃xs,bR K H a xs/\i=xs.length⟩
theorem ai3{P:bL}{w:bI}{K:aM}{es:List Expr}{k:Nat}{ps:Pos}{a z j:aq}(hzj:z≠j):
  Turn P w K (.Tuple es k ps) (Wx K a) [z,j] z (λi h=>(∃old,IsEnum h z j i old)/\h.IsListIter j a i) where
 mem:=by simp
 obj:=λi h st c hc=>by
  obtain⟨⟨_,h1⟩,⟨o4,e4,_,d4⟩⟩:=st
  simp only[cB,mj,or_false] at hc;rcases hc with rfl|rfl
  .exact⟨_,h1,λv q=>by cases q⟩
  .exact⟨_,e4,λv q=>by rw[d4] at q;cases q⟩
 keep:=λi h h' st kk=>by
  obtain⟨⟨old,h1⟩,⟨o4,e4,r4⟩⟩:=st
  exact⟨⟨old,kk z (by simp) _ h1⟩,⟨o4,kk j (by simp) _ e4,r4⟩⟩
 item:=by
  intro X hP hw hK hc i pins s σ H E I hf st hg;subst hP hw hK
  obtain⟨xs,ha,hi⟩:=hg
  obtain⟨its,r1,p1,_⟩:=I.list ha
  obtain⟨⟨old,s1⟩,s2⟩:=st
  have ex:xs[i]?=aa (xs.getD i .non):=by simp[rY,hi]
  obtain⟨u,hu,q1⟩:=r1.get ex
  have hx:its.toArray[i]?=aa u:=by simpa using hu
  refine wpAny_pyNext_enum_item s1 s2 p1.isList hx hzj λh' a1 a2 a3 a4 kk=>⟨_,rfl,wpAny_letOwnedTupleGo_enum a1 λh2 z2 m2=>?_⟩
  have ltz:z<s.heap.objs.size:=cF s1;have G8:H s.heap.objs.size=aj:=I.hok.fresh (cg _);have kT:h2.get? s.heap.objs.size=aa {cls:=.type "tuple",data:=.seq #[.int i s.toks,u]}:=m2.extBut _ _ (Be ltz) a3
  refine⟨.ref s.heap.objs.size,upd H s.heap.objs.size (.tup [.int i,xs.getD i .non]),Inv.Ez (s:=s) (h':=h2) (t':=s.toks+1) (ch:=[z,j]) I (λc o hc e=>?_) hf (bN.upd G8) (λc o e n=>?_) (λc v e=>?_),rfl,⟨_,_,G8,rfl,rfl,λxs' h1=>?_⟩,⟨⟨_,z2⟩,a2.extBut m2.extBut (lg hzj)⟩,λc hc=>?_⟩
  .simp only[cB,mj,or_false,not_or] at hc;exact m2.extBut _ _ hc.1 (kk c o hc.1 hc.2 e)
  .rw[cV (eO (cF e))];exact n
  .by_cases G9:c=s.heap.objs.size
   .subst G9;rw[dO] at e;cases e;exact .inr ⟨by show 2<=cu;decide,[.int i s.toks,u],.cons ⟨_,rfl⟩ (.cons q1 .nil),_,kT,rfl,_,rfl⟩
   .rw[cV G9] at e;exact .inl e
  .rw[I.J0 h1 ha];exact ex
  .rw[cV]
   .exact(hf c hc).1
   .simp only[cB,mj,or_false] at hc
    obtain⟨o4,e4,_⟩:=s2
    rcases hc with rfl|rfl
    .exact eO ltz
    .exact eO (cF e4)
 done:=by
  intro X hP hw hK hc i pins s σ H E I hf st hg;subst hP hw hK
  obtain⟨xs,ha,hi⟩:=hg
  obtain⟨its,r1,p1,_⟩:=I.list ha
  obtain⟨⟨old,s1⟩,s2⟩:=st
  have l1:=r1.length;refine wpAny_pyNext_enum_end (I.ok.hd hc) s1 s2 p1.isList (by simp;lia) λh' kk=>⟨rfl,I.Ez (t':=s.toks) (ch:=[z,j]) (λc o hc e=>?_) hf (bN.refl H) (λ_ _ _ n=>n) λ_ _ e=>.inl e⟩
  simp only[cB,mj,or_false,not_or] at hc;exact kk _ _ hc.2 e
 self:=λ_ _ _ _ _ st h=>by
  obtain⟨⟨_,h1⟩,_⟩:=st
  exact af7 h1 h
def apo(K:aM)(t:TA):TI:=λσ H R=>t σ H λvs H1=>∃a xs,vs=[.ref a]/\bR K H1 a xs/\R (Wx K a) H1
theorem anm{X:Cx}{es:List Expr}{k:Nat}{ps:Pos}{x:Expr}{t:TA}{p pos:Pos}(hg:Gl X "enumerate")(hm:X.mg "enumerate"=aj)(ha:PA X [x] t)(hs:bJ [x] X.env=[(aJ,eval x X.env)]:=by rfl)(hs2:bJ ([]:List Expr) X.env=[]:=by rfl):
  PI X (.Tuple es k ps) (.Call (.Name "enumerate" p) [x] [] pos) (apo X.K t):=by
 intro pins s σ H R I h;refine Call_ (vD I hg hm aqQ (HJ (bO (ha pos pins s σ H _ I h) λus s1 aP=>?_) (by rw[hs,hs2]) (by rw[hs2];rfl)))
 obtain⟨vs,H1,I1,r1,a,xs,e,h1,q⟩:=aP
 subst e
 obtain⟨u,rfl,r⟩:=vals1 r1
 cases r
 obtain⟨its,v1,p1,_⟩:=I1.list h1
 refine call_enumerate_list p1.isList λh' g1 g2 _ kk=>af7 g1 ?_
 have I2:Inv X pins σ H1 {s1 with heap:=h'}:=I1.kept (t':=s1.toks) kk
 refine⟨s1.heap.objs.size+1,[s1.heap.objs.size+1,s1.heap.objs.size],_,_,H1,rfl,I2,ai3 (Nat.succ_ne_self _),⟨⟨_,g1⟩,g2⟩,λc hc=>?_,q⟩
 refine I1.vQ ?_ (I1.hok.fresh ?_)
 all_goals
  simp only[cB,mj,or_false] at hc;rcases hc with rfl|rfl<;>lia
def zR(ds:List au):List au:=ds.zipIdx.map λp=>.tuple [.int (p.2:Nat),p.1]
theorem abe{ds:List au}{i:Nat}{d:au}(h:(zR ds)[i]?=aa d):∃x,ds[i]?=aa x/\d=.tuple [.int i,x]:=by
 unfold zR at h;rw[iJ,List.getElem?_zipIdx] at h;cases hx:ds[i]? with
 |none=>rw[hx] at h;cases h
 |some x=>
  rw[hx] at h
  refine⟨x,rfl,?_⟩
  have:=gP h;rw[<-this,Jh]
theorem aat(ds:List au):(zR ds).length=ds.length:=by
 unfold zR;rw[bw,List.length_zipIdx]
theorem alF{K:aM}{P:List aq}{H:Hp}{a:aq}{ds:List au}{vs:List V}(ha:er P H a=aa (.lst vs))(r:cA (er P H) ds vs):yu P P H (Wx K a) (zR ds):=λi H2 P2 s1 s2 n=>by
 have h2:bR K H2 a vs:=bR.of (jn (s1 _ _ ha));have l1:=jo r
 refine⟨λd hd=>?_,λhi=>⟨vs,h2,by rw[hi,aat];exact l1.symm⟩⟩
 obtain⟨x,e1,rfl⟩:=abe hd
 obtain⟨v,ev,rv⟩:=vG r e1
 refine⟨⟨vs,h2,(jH.mp ev).1⟩,λy H3 yl=>?_⟩
 obtain⟨p,v',hp,rfl,rfl,hh⟩:=yl
 have g1:=hh vs h2;rw[ev] at g1;cases g1;have sp:bN H2 (upd H2 p (.tup [.int i,v])):=bN.upd hp
 refine⟨sp,p,[.int i,v],rfl,?_,.int i,[v],rfl,rfl,v,[],rfl,rv.same (s1.trans (Ti sp)),rfl⟩
 unfold er;rw[bH (λm=>n p m hp),dO]
def M9(f:FE):FI:=λenv C=>match f env C with
 |some (r,e1,C1)=>match still r with
  |.im (.list ds)=>aa (zR ds,e1,C1)
  |_=>aj
 |none=>aj
theorem alG(hg:Gl X "enumerate")(hm:X.mg "enumerate"=aj)(ha:PE X x (tE X.K f))(hs:bJ [x] X.env=(aJ,eval x X.env)::bJ [] X.env:=by rfl)(hs1:bJ [x] X.env=[(aJ,eval x X.env)]:=by rfl)(hs2:bJ ([]:List Expr) X.env=[]:=by rfl):
  PI X (.Tuple es k ps) (.Call (.Name "enumerate" p) [x] [] pos) (tI X.K aJ (M9 f)):=(anm hg hm (n6 ha qu hs) hs1 hs2).weak λσ H R aP=>by
 obtain⟨Z,Θ,env,C,its,env',C',S,hf,q⟩:=aP
 unfold M9 at hf;split at hf
 case h_2=>cases hf
 rename_i r e1 C1 h1;split at hf
 case h_2=>cases hf
 rename_i ds hd;cases hf
 refine⟨Z,Θ,env,C,_,env',C',S,h1,λv H1 k f R=>?_⟩
 obtain⟨S1,a,vs,rfl,ha,r⟩:=R.uN hd
 exact⟨a,vs,rfl,bR.of (jn ha),q _ H1 k f S1 (alF ha r)⟩
theorem aau(h:(jy P w).is k u=ao):RelV (kV k) u:=by
 rcases rQ h with⟨i,t,rfl,rfl⟩|⟨x,t,rfl,rfl⟩<;>exact⟨t,rfl⟩
section
variable{prog:bL}{w:bI}{A:cM}{E:Value->aD->Prop}{s:aD}{r d:aq}{kvs:List (Key×Value)}{ep:Nat}{b c:Bool}{Q:Value->aD->Prop}
def nJ(as:List aq)(cU:List (Key×Key)):List Row:=as.zipWith (λa p=>(a,[p.1,p.2])) cU
theorem agn(hh:A.handled=aj)(hv:s.heap.IsItemsView r d)(hm:s.heap.DictAt (jy prog w) d kvs ep)(h64:cU.length<64)(hne:0<cU.length)(hk:kvs.map (·.1)=cU.map (·.1))(hx:Vals (cU.map λp=>kV p.2) (kvs.map (·.2)))(hty:∀p∈cU,bV p.1=b/\bV p.2=c)
  (h:∀(as:List aq)(p:List Nat)(D:aq)(h':bC)(n tk:Nat),as.length=cU.length->as.Pairwise (·<·)->(∀a∈as,s.heap.objs.size<=a/\a≠D)->(∀r∈nJ as cU,TupAt h' r)->p.Perm (fB (nJ as cU).length)->p=rE ((nJ as cU).map (·.2))->s.heap.objs.size<=D->(∀b o,s.heap.get? b=aa o->h'.get? b=aa o)->
   h'.get? D=aa (seqObj "list" ((p.map λi=>(nJ as cU).getD i (0,[])).map λr=>dH r.1).toArray n)->Q (.ref D) {s with heap:=h',toks:=tk}):
  aR (model prog w) A (call (.builtin "sorted") [.ref r]) Q E s:=by
 have hlk:kvs.length=cU.length:=by have:=congrArg mq hk;simpa using this
 refine HN kind_sorted plain_sorted entry_sorted (args_sorted1 _) ?_;unfold lA.«sorted»;refine aG (m:=JF "sorted" 1 1 _) (bh (aG (kdx_collect (A:=A.in1) (by simp[hh]) hv hm (by rw[iK];lia) λh1 tk as kk hlen G=>?_)));have hla:as.length=cU.length:=by lia
 have hlr:(nJ as cU).length=cU.length:=by unfold nJ;rw[List.length_zipWith];lia
 have tu:∀r∈nJ as cU,TupAt h1 r/\r.2.map bV=b::[c]:=λr hr=>by
  obtain⟨j,hj,rfl⟩:=wL hr
  rw[hlr] at hj;have ea:as[j]?=aa as[j]:=jJ (by lia);have ek:cU[j]?=aa cU[j]:=jJ hj
  obtain⟨key,k,x,e1,e2,e3⟩:=G.pairs j _ ea
  have er:(nJ as cU)[j]'(by lia)=(as[j],[cU[j].1,cU[j].2]):=by simp[nJ]
  rw[er];have kk1:k=cU[j].1:=by
   have:=congrArg (·[j]?) hk;simp only[iJ,e1,ek,j6] at this;exact gP this
  have kx:RelV (kV cU[j].2) x:=by
   have q1:(cU.map λp=>kV p.2)[j]?=aa (kV cU[j].2):=by rw[iJ,ek];rfl
   obtain⟨u,g1,g2⟩:=hx.get q1
   rw[iJ,e1] at g1;cases g1;exact g2
  refine⟨⟨[key,x],.cons (kk1▸aau e2) (.cons kx .nil),_,e3,rfl,_,rfl⟩,?_⟩
  have:=hty cU[j] (yS hj)
  show[bV cU[j].1,bV cU[j].2]=_
  rw[this.1,this.2]
 have eu:as.map dH=(nJ as cU).map λr=>dH r.1:=by
  refine Aq (by rw[bw,bw];lia) λi h1 h2=>?_
  rw[ago,ago];simp[nJ]
 rw[eu];have hsz:s.heap.objs.size<=h1.objs.size:=by
  have m:as[0]'(by lia)∈as:=yS _;exact xj (Jg (G.above _ m) (G.there m))
 generalize hR:nJ as cU=rows at *;refine aG (Ea ?_ (by rw[bw,iK];lia));have hoL:(h1.push (seqObj "list" (rows.map λr=>dH r.1).toArray 0)).get? h1.objs.size=aa (seqObj "list" (rows.map λr=>dH r.1).toArray 0):=iH _ rfl;have up:∀s':aD,Kp h1.objs.size (h1.push (seqObj "list" (rows.map λr=>dH r.1).toArray 0)) s'.heap->∀b o,h1.get? b=aa o->s'.heap.get? b=aa o:=λs' k b o e=>k b o (eO (cF e)) (cW _ e)
 refine aG (mV (nY slot_list_sort ⟨_,hoL,rfl⟩ entry_list_sort (ZQ (κ:=tuples' ao) (lt:=mF rows) (Rl:=λp=>p=rE (rows.map (·.2))) (vs:=rows.map λr=>dH r.1) (s:={s with heap:=h1.push (seqObj "list" (rows.map λr=>dH r.1).toArray 0),toks:=tk}) hoL (by rw[bw];lia) (λh2=>Q3 (by rw[bw]) h2) (λh2=>Qy (by rw[bw]) h2)
  (λh2 s' k Q' q'=>QZ (λr hr=>⟨(tu r hr).1.keep (up s' k),(tu r hr).2⟩) (by rw[bw] at h2;lia) Q' q') (λh2 s' k i j hi hj C q'=>Ru (sh:=b::[c]) (λr hr=>⟨(tu r hr).1.keep (up s' k),(tu r hr).2⟩) (by simpa using hi) (by simpa using hj) C q') λp h' n hp hrl k e=>⟨_,rfl,?_⟩) (args_list_sort _)))
 rw[bw] at hp;rw[Q0 hp] at e;have kh:=up {s with heap:=h'} k;subst hR;exact bh ⟨_,rfl,h as p h1.objs.size h' n tk hla G.rise (λa ha=>⟨xj (G.above a ha),eO (G.there ha)⟩) (λr hr=>(tu r hr).1.keep kh) hp hrl hsz (λb o e=>kh b o (kk b o e)) e⟩
end
def layR(H:Hp)(rows:List Row):Hp:=λa=>match rows.find? (λr=>decide (r.1=a)) with
 |some r=>aa (.tup (r.2.map kV))
 |none=>H a
theorem aka(h:∀r∈rows,r.1≠a):layR H rows a=H a:=by
 unfold layR;rw[Xx.mpr λr hr=>by rw[gM (h r hr)];exact iI]
theorem ace:∀{rows:List Row},(rows.map (·.1)).Nodup->∀r∈rows,layR H rows r.1=aa (.tup (r.2.map kV))
 |q::rows,nd,r,hr=>by
  rw[cJ,jD] at nd;unfold layR;rcases cB.mp hr with rfl|hr
  .rw[List.find?_cons_of_pos (by simp)]
  .have ne:¬decide (q.1=r.1)=ao:=λe=>nd.1 (eU.mpr ⟨r,hr,(of_decide_eq_true e).symm⟩)
   rw[List.find?_cons_of_neg (p:=λr1:Row=>decide (r1.1=r.1)) ne];exact ace nd.2 r hr
theorem ai4(h:layR H rows a=aa u):H a=aa u\/∃r∈rows,r.1=a/\u=.tup (r.2.map kV):=by
 unfold layR at h;cases hf:rows.find? (λr=>decide (r.1=a)) with
 |none=>rw[hf] at h;exact .inl h
 |some r=>
  rw[hf] at h;exact .inr ⟨r,List.mem_of_find?_eq_some hf,of_decide_eq_true (List.find?_some (p:=λr:Row=>decide (r.1=a)) hf),(gP h).symm⟩
theorem abf:∀{cU:List (Key×Key)}{vs:List (Key×Value)},KV (cU.map λp=>(p.1,kV p.2)) vs->vs.map (·.1)=cU.map (·.1)/\Vals (cU.map λp=>kV p.2) (vs.map (·.2))
 |[],vs,h=>by cases h;exact⟨rfl,.nil⟩
 |p::cU,vs,h=>by
  cases h with
  |cons h t=>
   obtain⟨a,b⟩:=abf t
   exact⟨by rw[cJ,cJ,a,<-h.1],.cons h.2 b⟩
def alH(td:TE):TE:=λσ H Q=>td σ H λx H1=>∃(d:aq)(cU:List (Key×Key))(b c:Bool),x=.ref d/\H1 d=aa (.dK (cU.map λp=>(p.1,kV p.2)))/\cU.length<64/\0<cU.length/\(∀p∈cU,bV p.1=b/\bV p.2=c)/\
 ∀(l:aq)(rows:List Row)(H2:Hp),bN H1 H2->H1 l=aj->H2 l=aa (.lst (rows.map λr=>V.ref r.1))->rows.map (·.2)=tM (cU.map λp=>[p.1,p.2])->(∀r∈rows,H2 r.1=aa (.tup (r.2.map kV)))->Q (.ref l) H2
theorem ai5(hc:X.calm=ao)(ho:PE X o td)(g1:Gl X "sorted")(m1:X.mg "sorted"=aj)
  (he:bJ [.Call (.Attribute o "items" apos) [] [] cpos] X.env=(aJ,eval (.Call (.Attribute o "items" apos) [] [] cpos) X.env)::bJ [] X.env:=by rfl)(hpl:(gH pos1 (bJ [] X.env)).any (·.1)=aJ:=by rfl)
  (hbase:vm o "items" X.env (eval o X.env)=eval o X.env:=by rfl)(hline:(apos.endLine==cpos.line)=ao:=by rfl):
  PE X (.Call (.Name "sorted" p1) [.Call (.Attribute o "items" apos) [] [] cpos] [] pos1) (alH td):=by
 intro pins s σ H Q I h;refine H9 (vD I g1 m1 (u:=.builtin "sorted") rfl ?_);refine W5 ?_ he hpl;rw[he];show aR _ _ (spliced ((aJ,eval (.Call (.Attribute o "items" apos) [] [] cpos) X.env)::gH pos1 (bJ [] X.env))) _ _ s;refine HY (af6 (T:="dict") (id:="dict.items") hbase rfl hline afi afj PySem.F.type_dict_items (bO (ho pins s σ H _ I h) λu s1 aP=>?_))
 obtain⟨x,H1,I1,rx,d,cU,b,c,ex,hd,h64,hne,hty,q⟩:=aP
 subst ex;obtain rfl:u=dH d:=rx
 obtain⟨z,lo,vs,rel,dd⟩:=Lp I1.hok hd
 obtain⟨hk,hx⟩:=abf rel
 refine⟨dd.typeIs,dd.mapOf.noDict,?_⟩
 show aR _ _ (callWith cpos (.builtin "dict.items") [.ref d] [] []) _ _ s1;refine method_meetsIn afj PySem.F.entry_dict_items rfl (aqT ⟨rfl,dd.typeIs,PySem.F.args_dict_items_1 _,_,meets_dict_items (jy X.prog X.w) d lo,⟨vs,dd⟩,N5 ?_⟩)
 obtain⟨od,es,ep,hod,hdr⟩:=dd
 have sz:(s1.heap.push {cls:=.type "dict_items",data:=.fields #[.ref d]}).objs.size=s1.heap.objs.size+1:=wV ..;refine agn (I1.ok.hd hc) (d:=d) ⟨_,iH _ rfl,rfl,rfl⟩ (ep:=ep) ⟨od,es,cW _ hod,hdr⟩ h64 hne hk hx hty λas p D h' n tk hla hup hfr tu hp hrl hD kk e=>?_
 have nda:as.Nodup:=hup.imp λh=>eO h
 obtain⟨rows,hR⟩:∃rows,rows=nJ as cU:=⟨_,rfl⟩
 rw[<-hR] at tu hp hrl e;have r1:rows.map (·.1)=as:=by
  rw[hR];refine Aq (by simp[nJ,hla]) λi h1 h2=>?_
  simp[nJ]
 have r2:rows.map (·.2)=cU.map λp=>[p.1,p.2]:=by
  rw[hR];refine Aq (by simp[nJ,hla]) λi h1 h2=>?_
  simp[nJ]
 have ra:∀r∈rows,s1.heap.objs.size<=r.1/\r.1≠D:=λr hr=>by
  have m:r.1∈as:=by rw[<-r1];exact eU.mpr ⟨r,hr,rfl⟩
  have:=hfr _ m;rw[sz] at this
  exact⟨by lia,this.2⟩
 rw[sz] at hD;have hnD:H1 D=aj:=I1.hok.fresh (by lia);have old:∀a,a<s1.heap.objs.size->upd (layR H1 rows) D (.lst ((p.map λi=>rows.getD i (0,[])).map λr=>V.ref r.1)) a=H1 a:=λa ha=>by
  rw[cV (show a≠D by lia),aka λr hr z=>by have:=(ra r hr).1;rw[z] at this;lia]
 have hin:∀r∈rows,upd (layR H1 rows) D (.lst ((p.map λi=>rows.getD i (0,[])).map λr=>V.ref r.1)) r.1=aa (.tup (r.2.map kV)):=λr hr=>by
  rw[cV (ra r hr).2];exact ace (by rw[r1];exact nda) r hr
 have sm:bN H1 (upd (layR H1 rows) D (.lst ((p.map λi=>rows.getD i (0,[])).map λr=>V.ref r.1))):=λa u ha=>by
  have lt:a<s1.heap.objs.size:=by
   rcases Nat.lt_or_ge a s1.heap.objs.size with h|h
   .exact h
   .rw[I1.hok.fresh h] at ha;cases ha
  rw[old a lt];exact ha
 refine⟨.ref D,_,Inv.Ez (s:=s1) (h':=h') (t':=tk) (ch:=[]) I1 (λa o _ q=>kk a o (cW _ q)) (λ_ m=>nomatch m) sm (λa o q n=>by rw[old a (cF q)];exact n) (λa u ha=>?_),rfl,q D (p.map λi=>rows.getD i (0,[])) _ sm hnD dO ((Th hp hrl).trans (by rw[r2])) λr hr=>hin r ((JR hp).mem_iff.mp hr)⟩
 by_cases hz:a=D
 .subst hz;rw[dO] at ha;cases ha;refine .inr ⟨?_,_,n,JS _,by simpa[seqObj] using e⟩;rw[bw,bw,hp.length_eq,lZ,iK];have:=congrArg mq r2;rw[bw,bw] at this;lia
 .rw[cV hz] at ha;rcases ai4 ha with h|⟨r,hr,rfl,rfl⟩
  .exact .inl h
  .obtain⟨its,v,t⟩:=tu r hr
   refine .inr ⟨?_,its,v,t⟩;have m:r.2∈cU.map λp=>[p.1,p.2]:=by rw[<-r2];exact eU.mpr ⟨r,hr,rfl⟩
   obtain⟨pp,_,e2⟩:=eU.mp m
   rw[<-e2,iK];show 2<=_;lia
def GQ:List (au×au)->Option (List (Key×Key))
 |[]=>aa []
 |p::r=>(cX p.1).bind λk=>(cX p.2).bind λv=>(GQ r).map λt=>(k,v)::t
theorem abg:∀{kvs:List (au×au)}{cU:List (Key×Key)}{ks:List Key}{vs:List V},GQ kvs=aa cU->cO cX kvs=aa ks->jk E kvs vs->ks.zip vs=cU.map (λp=>(p.1,kV p.2))/\kvs.map (λp=>rP [p.1,p.2])=cU.map (λp=>.tuple [jw p.1,jw p.2])
 |[],cU,ks,vs,h,h1,_=>by cases h;cases h1;exact⟨rfl,rfl⟩
 |p::r,cU,ks,vs,h,h1,h2=>by
  obtain⟨k,e1,h⟩:=kW.mp h
  obtain⟨v,e2,h⟩:=kW.mp h
  obtain⟨t,e3,h⟩:=Ai.mp h
  subst h;unfold cO at h1;rw[e1] at h1;cases ha:cO cX r with
  |none=>rw[ha] at h1;cases h1
  |some t1=>
   rw[ha] at h1;cases h1
   obtain⟨u,w,rfl,q,h2⟩:=h2
   obtain⟨a,b⟩:=abg e3 ha h2
   obtain⟨p1,p2⟩:=p
   have hv:u=kV v:=acL e2 q;have d1:p1=jw k:=by cases p1<;>first|(cases e1;rfl)|cases e1
   have d2:p2=jw v:=by cases p2<;>first|(cases e2;rfl)|cases e2
   refine⟨?_,?_⟩
   .rw[Ib,cJ,a,hv]
   .rw[cJ,cJ,b,d1,d2]
def UT(kvs:List (au×au)):Option (List au):=(GQ kvs).bind λcU=>cU.head?.bind λp=>if cU.length<64/\∀q∈cU,bV q.1=bV p.1/\bV q.2=bV p.2 then aa (tR (kvs.map λp=>.tuple [p.1,p.2])) else aj
def Vp:au->Option (List (au×au))
 |.dict kvs=>aa kvs
 |_=>aj
theorem akb(h:Vp d=aa kvs):d=.dict kvs:=by
 cases d<;>first|(cases h;rfl)|cases h
def TX(f:FB):FE:=λenv C=>(f env C).bind λp=>(Vp p.1).bind λkvs=>(UT kvs).map λl=>(.ow (.list l),env,p.2.2)
theorem ai6(hc:X.calm=ao)(ho:PE X o (eZ X.K f))(g1:Gl X "sorted")(m1:X.mg "sorted"=aj)
  (he:bJ [.Call (.Attribute o "items" apos) [] [] cpos] X.env=(aJ,eval (.Call (.Attribute o "items" apos) [] [] cpos) X.env)::bJ [] X.env:=by rfl)(hpl:(gH pos1 (bJ [] X.env)).any (·.1)=aJ:=by rfl)
  (hbase:vm o "items" X.env (eval o X.env)=eval o X.env:=by rfl)(hline:(apos.endLine==cpos.line)=ao:=by rfl):
  PE X (.Call (.Name "sorted" p1) [.Call (.Attribute o "items" apos) [] [] cpos] [] pos1) (tE X.K (TX f)):=(ai5 hc ho g1 m1 he hpl hbase hline).weak λσ H Q aP=>by
 obtain⟨Z,Θ,env,C,r,env',C',S,hf,q⟩:=aP
 refine hide λGG gg=>?_
 obtain⟨⟨d,e1,C1⟩,h1,hf⟩:=kW.mp hf
 obtain⟨kvs,hd,hf⟩:=kW.mp hf
 obtain⟨l,hl,hf⟩:=Ai.mp hf
 obtain⟨cU,hk,hl⟩:=kW.mp hl
 obtain⟨p,hp,hl⟩:=kW.mp hl
 split at hl
 case isFalse=>cases hl
 rename_i hall;cases hl;cases hf;cases akb hd;have pos:0<cU.length:=by
  cases cU with
  |nil=>cases hp
  |cons _ _=>exact Ji _
 refine gg ⟨Z,Θ,env,C,.dict kvs,e1,C1,S,h1,λv H1 k f S1 b1=>?_⟩;refine hide λG2 g2=>?_
 obtain⟨a,vs,rfl,da,rr⟩:=b1.dct
 rcases da with⟨ks,a1,a2⟩|⟨ks,⟨ne,a1⟩,a2⟩
 .obtain⟨e2,e3⟩:=abg hk a1 rr
  rw[e2] at a2;refine g2 ⟨a,cU,bV p.1,bV p.2,rfl,a2,hall.1,pos,hall.2,λl rows H2 sm hn hl hr hin=>?_⟩;have kp:aZ Θ H H2:=k.trans (aZ.of sm);have SD:=S.yc (k.none hn) kp ⟨_,hl,λ_ z=>nomatch z⟩ ⟨S1.cell.len,λn b ns e2 e3=>sm _ _ (S1.cell.at_ n b ns e2 e3)⟩;have es:(rows.map λr=>rP (r.2.map jw))=tR (kvs.map λp=>.tuple [p.1,p.2]):=by
   unfold tR;rw[e3,dW];have:(cU.map (yg ∘ λp=>rP [jw p.1,jw p.2]))=cU.map λp=>[p.1,p.2]:=by
    refine u9 λq _=>?_
    show(keysOf ([q.1,q.2].map jw)).getD []=[q.1,q.2]
    rw[Et];rfl
   rw[this,<-hr,dW];rfl
  refine q _ H2 kp (Fz.refl _) ⟨l,rfl,k.none hn,SD,_,hl,?_⟩;rw[<-es];exact Eu λr m=>Cj SD (hin r m)
 .exfalso;cases kvs with
  |nil=>exact ne rfl
  |cons q r=>
   obtain⟨k',e1,_⟩:=kW.mp hk
   unfold cO at a1;split at a1
   .rename_i g1 _;exact acM e1 g1
   .cases a1
def Gs(ks:List (List Key)):Nat:=nC (λi j=>fD (ks.getD i (ks.headD [])) (ks.getD j (ks.headD []))) (ks.length-1)
theorem ah9(rows:List Row):nC (mF rows) (rows.length-1)=Gs (rows.map (·.2)):=by
 have e:mF rows=λi j=>fD ((rows.map (·.2)).getD i ((rows.map (·.2)).headD [])) ((rows.map (·.2)).getD j ((rows.map (·.2)).headD [])):=by
  funext i j;rw[mF,J7,J7]
 unfold Gs;rw[e,bw]
def UW(ds:List au):Option Vl:=ds.head?.bind λd0=>(tQ d0).bind λsh=>if ∀d∈ds,tQ d=aa sh then(ds[Gs (ds.map yg)]?).map .im else aj
def Lg:List au->Option Vl
 |[.list ds]=>UW ds
 |_=>aj
theorem alI{K:aM}:lK K (λxs H Q=>∃(p:aq)(rows:List Row)(sh:List Bool),xs=[.ref p]/\bR K H p (rows.map λr=>V.ref r.1)/\0<rows.length/\(∀r∈rows,H r.1=aa (.tup (r.2.map kV))/\r.2.map bV=sh)/\
  ∀r,rows[nC (mF rows) (rows.length-1)]?=aa r->Q (.ref r.1) H) Lg:=by
 intro Z Θ env C σ H xs ds res S b e Q q;refine hide λGG gg=>?_
 unfold Lg at e;split at e
 case h_2=>cases e
 rename_i ds
 obtain⟨d0,h0,e⟩:=kW.mp e
 obtain⟨sh,_,e⟩:=kW.mp e
 split at e
 case isFalse=>cases e
 rename_i hall
 obtain⟨d,hd,rfl⟩:=Ai.mp e
 obtain⟨v,rfl,bb⟩:=ou b
 obtain⟨a,vs,rfl,ha,r⟩:=bb.lst
 obtain⟨rows,rfl,e2,e3⟩:=RV hall r
 have ek:ds.map yg=rows.map (·.2):=by
  rw[e2,dW];refine u9 λr _=>?_
  show(keysOf (r.2.map jw)).getD []=r.2
  rw[Et];rfl
 rw[ek,<-ah9] at hd;refine gg ⟨a,rows,sh,rfl,bR.of ha,?_,λr m=>⟨jn (e3 r m).1,(e3 r m).2⟩,λr hr=>?_⟩
 .cases rows with
  |nil=>rw[e2] at h0;cases h0
  |cons _ _=>exact Ji _
 .have m:=p7 hr;have hd':d=.tuple (r.2.map jw):=by
   rw[e2,iJ,hr] at hd
   exact(gP hd).symm
  obtain⟨u,t,e4,q4,_⟩:=Eu (E:=er (bf Z Θ env σ) H) (rows:=[r]) λx hx=>by rw[iY.mp hx];exact(e3 r m).1
  cases e4;refine q _ H (aZ.refl _ _) ⟨S,?_⟩;rw[hd'];exact q4
def Bl(L:Nat)(C:Ce)(b k:Nat):Prop:=C.length=L/\∃x y z:Int,C[b]?=aa [x,y,z]/\0<=x/\0<=z/\z+k<=900000
theorem Bl.mono(h:Bl L C b k)(hj:j<=k):Bl L C b j:=by
 obtain⟨l,x,y,z,h1,h2,h5,h6⟩:=h
 exact⟨l,x,y,z,h1,h2,h5,by lia⟩
theorem Bl.dec(h:Bl L C b (k+1)):Bl L C b k:=h.mono (uw k)
theorem Bl.eq(h:Bl L C b k)(h':Bl L C' b' k'):C'.length=C.length:=h'.1.trans h.1.symm
theorem ano(C:Ce)(h0:0<=x):Bl (C.length+1) (C++[[x,y,0]]) C.length 800000:=by
 refine⟨by simp,x,y,0,?_,h0,Bh _,by lia⟩
 rw[pF (cg _),PK];rfl
theorem R9{n s u f i j:Int}(hu:s*u%n=1)(n0:0<n)(hi:0<=i)(hj:0<=j)(hi':i<n)(hj':j<n)(e:(f+s*i)%n=(f+s*j)%n):i=j:=by
 have h1:(f+s*i-(f+s*j))%n=0:=aeX.mp e
 obtain⟨d,hd⟩:=Int.dvd_of_emod_eq_zero h1
 have hq:s*u=n*(s*u / n)+1:=by
  have:=Int.mul_ediv_add_emod (s*u) n;rw[hu] at this;exact this.symm
 generalize s*u / n=q at hq;have key:i-j=n*(u*d-q*(i-j)):=by grind
 have h2:(i-j)%n=0:=Int.emod_eq_zero_of_dvd ⟨_,key⟩;have h3:i%n=j%n:=aeX.mpr h2;rw[Oa hi hi',Oa hj hj'] at h3;exact h3
def Gu(s:Int):Prop:=(0<s/\s<=675)/\(∃u,s*u%676=1)/\∃u,s*u%26=1
theorem step_at(h0:0<=k)(h1:k<6):∃s,fY [lQ 1,.int 3,.int 5,.int 7,.int 25,.int 675] k=aa (.int s)/\Gu s:=by
 have hk:k=0\/k=1\/k=2\/k=3\/k=4\/k=5:=by lia
 rcases hk with rfl|rfl|rfl|rfl|rfl|rfl
 .exact⟨1,rfl,by decide,⟨1,by decide⟩,⟨1,by decide⟩⟩
 .exact⟨3,rfl,by decide,⟨451,by decide⟩,⟨9,by decide⟩⟩
 .exact⟨5,rfl,by decide,⟨541,by decide⟩,⟨21,by decide⟩⟩
 .exact⟨7,rfl,by decide,⟨483,by decide⟩,⟨15,by decide⟩⟩
 .exact⟨25,rfl,by decide,⟨649,by decide⟩,⟨25,by decide⟩⟩
 .exact⟨675,rfl,by decide,⟨675,by decide⟩,⟨25,by decide⟩⟩
theorem TY(e:z.cps.toList=l)(h1:1<=l.length)(h2:l.length<=8)(h3:∀c∈l,97<=c/\c<=122):nameB z=ao:=by
 have e2:z.length=l.length:=by rw[<-e];show z.cps.size=_;simp
 unfold nameB M7;rw[e,e2];simp only[jK,decide_eq_true_eq,oG]
 exact⟨⟨h1,h2⟩,h3⟩
theorem Ou(h:∀i j,i<n->j<n->f i=f j->i=j):((fB n).map f).Nodup:=by
 rw[W6,List.pairwise_map];refine aro (R:=(·<·)) (λ{a b} ha hb hab e=>?_) Nz;have:=h a b (qP.mp ha) (qP.mp hb) e;lia
def n1(f s:Int)(k:Nat):Str:=⟨#[97+((f+s*k)%26).toNat]⟩
theorem akc{f s:Int}{n:Nat}(hs:Gu s)(hn:n<=26):Names ((fB n).map (n1 f s)):=by
 refine⟨Ou λi j hi hj e=>?_,λz hz=>?_⟩
 .obtain⟨_,_,u,hu⟩:=hs
  have e1:97+((f+s*i)%26).toNat=97+((f+s*j)%26).toNat:=by
   have:=congrArg (λz:Str=>z.cps.toList) e;simpa[n1] using this
  have a1:0<=(f+s*i)%26:=oH _ (by decide);have a2:0<=(f+s*j)%26:=oH _ (by decide);have:=R9 (n:=26) (f:=f) (i:=i) (j:=j) hu (by decide) (by lia) (by lia) (by lia) (by lia) (by lia);lia
 .obtain⟨k,_,rfl⟩:=eU.mp hz
  have a1:0<=(f+s*k)%26:=oH _ (by decide);have a2:(f+s*k)%26<26:=uo _ (by decide);refine TY (l:=[97+((f+s*k)%26).toNat]) rfl (cg _) (by show 1<=8;decide) λc hc=>?_
  rw[iY.mp hc];lia
def v2(f s:Int)(k:Nat):Int:=(f+s*k)%676
def two(v:Int):Str:=(⟨#[97+(v / 26).toNat]⟩:Str)++(⟨#[97+(v%26).toNat]⟩:Str)
def n2(hd tl:Str)(f s:Int)(q:Nat->Int)(k:Nat):Str:=hd++two (v2 f s k)++Txt.slice tl aj (aa (q k))
theorem abh(hd tl:Str)(f s:Int)(q:Nat->Int)(k:Nat):(n2 hd tl f s q k).cps.toList=hd.cps.toList++([97+(v2 f s k / 26).toNat,97+(v2 f s k%26).toNat]++(Txt.slice tl aj (aa (q k))).cps.toList):=by
 show((hd.cps++(#[97+(v2 f s k / 26).toNat]++#[97+(v2 f s k%26).toNat]))++(Txt.slice tl aj (aa (q k))).cps).toList=_
 simp
theorem akd{hd tl:Str}{f s:Int}{q:Nat->Int}{n:Nat}(hs:Gu s)(hn:n<=36)(hh:hd.length<=3)(ht:tl.length<=3)(ch:∀c∈hd.cps.toList,97<=c/\c<=122)(ct:∀c∈tl.cps.toList,97<=c/\c<=122):Names ((fB n).map (n2 hd tl f s q)):=by
 have b:∀k:Nat,0<=v2 f s k/\v2 f s k<676:=λk=>⟨oH _ (by decide),uo _ (by decide)⟩
 refine⟨Ou λi j hi hj e=>?_,λz hz=>?_⟩
 .obtain⟨_,⟨u,hu⟩,_⟩:=hs
  have e1:=congrArg (λz:Str=>z.cps.toList) e;simp only[abh] at e1;have e2:=List.append_cancel_left e1;rw[jL,jL,jm,jL,jL,jm] at e2;injection e2 with e3 e4
  injection e4 with e5 _
  have b1:=b i;have b2:=b j;have ev:v2 f s i=v2 f s j:=by lia
  have:=R9 (n:=676) (f:=f) (i:=i) (j:=j) hu (by decide) (by lia) (by lia) (by lia) (by lia) ev;lia
 .obtain⟨k,_,rfl⟩:=eU.mp hz
  have bk:=b k;have l1:hd.cps.toList.length=hd.length:=by show _=hd.cps.size;simp
  have l2:(Txt.slice tl aj (aa (q k))).cps.toList.length=(Txt.slice tl aj (aa (q k))).length:=by show _=(Txt.slice tl aj (aa (q k))).cps.size;simp
  have l3:=PyProof.Txt.length_slice_le tl aj (aa (q k));refine TY (abh hd tl f s q k) (by rw[gb,gb];show 1<=_+(2+_);lia) (by rw[gb,gb,l1,l2];show _+(2+_)<=8;lia) λc hc=>?_
  rcases dB.mp hc with hc|hc
  .exact ch c hc
  .rcases dB.mp hc with hc|hc
   .simp only[cB,mj,or_false] at hc;rcases hc with rfl|rfl<;>lia
   .exact ct c (alx hc)
def nM(f:Int):List Nat:=(fB 8).map λ(k:Nat)=>97+((f+5*(k:Int))%26).toNat
def sl(z:Str)(n k:Nat):Str:=Txt.slice z (aa (k:Int)) (aa ((k:Int)+(n:Int)))
def sb(z:Str)(n:Nat):List Str:=(fB (8-n)).map (sl z (n+1))
def subs(z:Str)(m:Nat):List Str:=(fB m).flatMap (sb z)
theorem Sd(hz:z.length=8)(h:k+n<=8):(sl z n k).cps.toList=(z.cps.toList.drop k).take n:=by
 have:=eq_of_beq (slice_closesL (x:=z) (i:=(k:Int)) (j:=(k:Int)+(n:Int)) (by lia) (by lia) (by lia));unfold sl;rw[this]
 show((z.cps.toList.drop (k:Int).toNat).take ((k:Int)+(n:Int)-(k:Int)).toNat)=_
 rw[show((k:Int)+(n:Int)-(k:Int)).toNat=n by lia,yP]
theorem acf{f:Int}{k:Nat}(h:k<8):(nM f)[k]?=aa (97+((f+5*(k:Int))%26).toNat):=by
 unfold nM;rw[iJ,Xq h];rfl
theorem alJ(f:Int):∀c∈nM f,97<=c/\c<=122:=λc hc=>by
 obtain⟨k,_,rfl⟩:=eU.mp hc
 have a1:0<=(f+5*(k:Int))%26:=oH _ (by decide);have a2:(f+5*(k:Int))%26<26:=uo _ (by decide);lia
theorem U0(hz:z.cps.toList=nM f)(hx:x∈sb z n):∃k,k<8-n/\x=sl z (n+1) k/\x.cps.toList=((nM f).drop k).take (n+1)/\x.cps.toList.length=n+1:=by
 obtain⟨k,hk,rfl⟩:=eU.mp hx
 have hk:=qP.mp hk;have hl:z.length=8:=by
  have:=congrArg mq hz;rw[show z.cps.toList.length=z.length by show _=z.cps.size;simp] at this;rw[this];simp[nM]
 have e:=Sd (z:=z) (n:=n+1) (k:=k) hl (by lia);rw[hz] at e
 refine⟨k,hk,rfl,e,?_⟩
 rw[e,pJ,DN,show(nM f).length=8 by simp[nM]];lia
theorem aia{z:Str}{f:Int}(hz:z.cps.toList=nM f):Names (subs z 8):=by
 refine⟨?_,λx hx=>?_⟩
 .unfold subs;rw[W6,List.pairwise_flatMap]
  refine⟨λn hn=>?_,?_⟩
  .have hn:=qP.mp hn;rw[<-W6];refine Ou λi j hi hj e=>?_
   have hl:z.length=8:=by
    have:=congrArg mq hz;rw[show z.cps.toList.length=z.length by show _=z.cps.size;simp] at this;rw[this];simp[nM]
   have e1:=congrArg (λz:Str=>z.cps.toList[0]?) e;simp only[Sd (z:=z) (n:=n+1) (k:=i) hl (by lia),Sd (z:=z) (n:=n+1) (k:=j) hl (by lia),hz] at e1;rw[W9 (Ji n),W9 (Ji n),afQ,afQ,Zd,Zd,acf (by lia),acf (by lia)] at e1;have e2:=gP e1;have a1:0<=(f+5*(i:Int))%26:=oH _ (by decide);have a2:0<=(f+5*(j:Int))%26:=oH _ (by decide);have:=R9 (n:=26) (s:=5) (u:=21) (f:=f) (i:=i) (j:=j) (by decide) (by decide) (by lia) (by lia) (by lia) (by lia) (by lia);lia
  .refine arv (R:=(·<·)) (λ{a b} hab x hx y hy e=>?_) Nz
   obtain⟨_,_,_,_,l1⟩:=U0 hz hx
   obtain⟨_,_,_,_,l2⟩:=U0 hz hy
   rw[e] at l1;lia
 .obtain⟨n,hn,hx⟩:=List.mem_flatMap.mp hx
  have hn:=qP.mp hn
  obtain⟨k,hk,_,e,hl⟩:=U0 hz hx
  refine TY rfl (by lia) (by lia) λc hc=>?_
  rw[e] at hc;exact alJ f c (HS (wJ hc))
theorem abi(z:Str):(subs z 8).length=36:=by
 unfold subs sb;simp only[afI,bw,lZ];rfl
end L2
namespace L2
section
variable{β:Type}[DecidableEq β]{ws:List (Int×β×β)}{s:β}
inductive iu(ws:List (Int×β×β)):β->List Int->β->Prop
 |nil (p:β):iu ws p [] p
 |cons {n:Int} {p q s:β} {r:List Int}:(n,p,q)∈ws->iu ws q r s->iu ws p (n::r) s
def gA(st:List (β×Int))(p:β):Option Int:=(st.find? λx=>decide (x.1=p)).map (·.2)
theorem qW{st:List (β×Int)}{p:β}:gA st p=aj↔p∉st.map (·.1):=by
 unfold gA;rw[afp,Xx];simp only[eU,not_exists,not_and,decide_eq_true_eq]
theorem KN(st:List (β×Int))(new:List β)(k:Int)(p:β):gA (st++new.map λg=>(g,k)) p=if p∈st.map (·.1) then gA st p else if p∈new then aa k else aj:=by
 unfold gA;rw[List.find?_append];by_cases h:p∈st.map (·.1)
 .rw[bz h]
  obtain⟨x,hx,rfl⟩:=eU.mp h
  cases e:st.find? λy=>decide (y.1=x.1) with
  |none=>exact absurd (gk rfl) (Xx.mp e x hx)
  |some y=>rfl
 .rw[bH h,(afp.mp (qW.mpr h):st.find? _=aj),Option.none_or];induction new with
  |nil=>rfl
  |cons g new ih=>
   rw[cJ,pK];by_cases e:g=p
   .subst e;rw[gk rfl,bz dN];rfl
   .rw[gM e,ih];have:p∈g::new↔p∈new:=by rw[cB];exact⟨λz=>z.resolve_left λz=>e z.symm,.inr⟩
    simp only[this]
structure ue(ws:List (Int×β×β))(s:β)(st:List (β×Int))(new:List β)(k:Nat):Prop where
 sound:∀p d,gA st p=aa d->d<=k/\∃r,iu ws p r s/\(r.length:Int)=d
 whole:∀p r,iu ws p r s->r.length<=k->∃d,gA st p=aa d/\d<=r.length
 last:∀p,p∈new↔gA st p=aa (k:Int)
 nd:(st.map (·.1)).Nodup
 sub:∀p∈st.map (·.1),p=s\/p∈ws.map (·.2.1)
 low:∀p d,gA st p=aa d->d+1<=st.length
theorem ue.init(ws:List (Int×β×β))(s:β):ue ws s [(s,0)] [s] 0 where
 sound p d h:=by
  unfold gA at h;rw[pK] at h;by_cases e:s=p
  .subst e;rw[gk rfl] at h;cases h
   exact⟨Bh _,[],.nil _,rfl⟩
  .rw[gM e] at h;cases h
 whole p r h l:=by
  cases h with
  |nil=>exact⟨0,by unfold gA;rw[pK,gk rfl];rfl,Bh _⟩
  |cons _ _=>exact absurd l (afC _)
 last p:=by
  unfold gA;rw[pK,iY];by_cases e:s=p
  .subst e;rw[gk rfl]
   exact⟨λ_=>rfl,λ_=>rfl⟩
  .rw[gM e]
   exact⟨λz=>absurd z.symm e,λz=>nomatch z⟩
 nd:=by simp
 sub p hp:=.inl (iY.mp hp)
 low p d h:=by
  unfold gA at h;rw[pK] at h;by_cases e:s=p
  .rw[gk e] at h;cases h;exact Bh _
  .rw[gM e] at h;cases h
theorem ue.step{st:List (β×Int)}{new new':List β}{k:Nat}(B:ue ws s st new k)(hn:new'.Nodup)(hm:∀g,g∈new'↔∃w∈ws,w.2.2∈new/\w.2.1∉st.map (·.1)/\w.2.1=g):ue ws s (st++new'.map λg=>(g,(k:Int)+1)) new' (k+1) where
 sound p d h:=by
  rw[KN] at h;split at h
  .obtain⟨h1,h2⟩:=B.sound p d h
   exact⟨by lia,h2⟩
  .split at h
   .rename_i m;cases h
    refine⟨by lia,?_⟩
    obtain⟨w,m1,m2,m3,rfl⟩:=(hm p).mp m
    obtain⟨_,r,h3,h4⟩:=B.sound _ _ ((B.last _).mp m2)
    exact⟨w.1::r,.cons (p:=w.2.1) (q:=w.2.2) m1 h3,by rw[cZ];lia⟩
   .cases h
 whole p r h l:=by
  rw[KN];by_cases hp:p∈st.map (·.1)
  .rw[bz hp];cases e:gA st p with
   |none=>exact absurd hp (qW.mp e)
   |some d=>
    refine⟨d,rfl,?_⟩
    by_cases l':r.length<=k
    .obtain⟨d',e',h'⟩:=B.whole p r h l'
     rw[e] at e';cases e';exact h'
    .have:=(B.sound p d e).1;lia
  .rw[bH hp];cases h with
   |nil=>
    obtain⟨d,e,_⟩:=B.whole s [] (.nil s) (m9 _)
    rw[qW.mpr hp] at e;cases e
   |cons hw hr=>
    rename_i n q r;rw[cZ] at l⊢
    obtain⟨d,e,hd⟩:=B.whole q r hr (by lia)
    obtain⟨hk,r2,hr2,l2⟩:=B.sound q d e
    by_cases hdk:d=k
    .subst hdk;have m:p∈new':=(hm p).mpr ⟨_,hw,(B.last q).mpr e,hp,rfl⟩;rw[bz m]
     exact⟨_,rfl,by lia⟩
    .obtain⟨d',e',_⟩:=B.whole p (n::r2) (.cons hw hr2) (by rw[cZ];lia)
     rw[qW.mpr hp] at e';cases e'
 last p:=by
  rw[KN];constructor
  .intro m
   obtain⟨w,m1,m2,m3,rfl⟩:=(hm p).mp m
   rw[bH m3,bz m];rfl
  .intro e;split at e
   .have:=(B.sound p _ e).1;lia
   .split at e
    .rename_i m;exact m
    .cases e
 nd:=by
  rw[gQ,dW,show((λx:β×Int=>x.1) ∘ λg=>(g,(k:Int)+1))=id from rfl,Jq];refine kY.mpr ⟨B.nd,hn,λa ha b hb e=>?_⟩;subst e
  obtain⟨w,_,_,m3,rfl⟩:=(hm a).mp hb
  exact m3 ha
 sub p hp:=by
  rw[gQ,dW,show((λx:β×Int=>x.1) ∘ λg=>(g,(k:Int)+1))=id from rfl,Jq] at hp;rcases dB.mp hp with hp|hp
  .exact B.sub p hp
  .obtain⟨w,m1,_,_,rfl⟩:=(hm p).mp hp
   exact .inr (eU.mpr ⟨w,m1,rfl⟩)
 low p d h:=by
  rw[KN] at h;rw[gb,bw];split at h
  .have:=B.low p d h;lia
  .split at h
   .rename_i m;cases h
    obtain⟨w,m1,m2,m3,rfl⟩:=(hm p).mp m
    have:=B.low _ _ ((B.last _).mp m2);have:=afq m;lia
   .cases h
theorem len_sub:∀{l m:List β},l.Nodup->(∀x∈l,x∈m)->l.length<=m.length
 |[],_,_,_=>m9 _
 |a::l,m,hn,h=>by
  have ha:=h a dN;have:=len_sub (m:=m.erase a) (jD.mp hn).2 λx hx=>(afD (show x≠a from λz=>(jD.mp hn).1 (z▸hx))).mpr (h x (fP _ hx))
  rw[List.length_erase_of_mem ha] at this;have:=afq ha;rw[cZ];lia
theorem ue.few{st:List (β×Int)}{new:List β}{k:Nat}(B:ue ws s st new k):st.length<=ws.length+1:=by
 have h:(st.map (·.1)).length<=(s::ws.map (·.2.1)).length:=by
  refine len_sub B.nd λp hp=>?_
  rcases B.sub p hp with rfl|h
  .exact dN
  .exact fP _ h
 simpa using h
structure uf(ws:List (Int×β×β))(s:β)(st:List (β×Int)):Prop where
 sound:∀p d,gA st p=aa d->∃r,iu ws p r s/\(r.length:Int)=d
 whole:∀p r,iu ws p r s->∃d,gA st p=aa d/\d<=r.length
 few:∀p d,gA st p=aa d->d<=ws.length
 nd:(st.map (·.1)).Nodup
theorem ue.done{st:List (β×Int)}{k:Nat}(B:ue ws s st [] k):uf ws s st where
 sound p d h:=(B.sound p d h).2
 nd:=B.nd
 few p d h:=by
  have:=B.low p d h;have:=B.few;lia
 whole p r h:=by
  induction h with
  |nil p=>exact B.whole p [] (.nil p) (m9 _)
  |cons hw hr ih=>
   rename_i n p q s' r
   obtain⟨d,e,hd⟩:=ih B
   obtain⟨hk,r2,hr2,l2⟩:=B.sound q d e
   have:d≠k:=λz=>by
    subst z;exact nomatch(B.last q).mpr e
   obtain⟨d',e',h'⟩:=B.whole p (n::r2) (.cons hw hr2) (by rw[cZ];lia)
   refine⟨d',e',?_⟩
   rw[cZ] at h'⊢;lia
theorem uf.self{st:List (β×Int)}(B:uf ws s st):gA st s=aa 0:=by
 obtain⟨d,e,h⟩:=B.whole s [] (.nil s)
 obtain⟨r,_,l⟩:=B.sound s d e
 rw[e];simp only[Ax] at h;congr 1;lia
theorem uf.iff{st:List (β×Int)}(B:uf ws s st)(p:β):p∈st.map (·.1)↔∃r,iu ws p r s:=by
 constructor
 .intro h;cases e:gA st p with
  |none=>exact absurd h (qW.mp e)
  |some d=>
   obtain⟨r,h,_⟩:=B.sound p d e
   exact⟨r,h⟩
 .rintro⟨r,h⟩
  obtain⟨d,e,_⟩:=B.whole p r h
  apply afb;intro n;rw[qW.mpr n] at e;cases e
def wB(ws:List (Int×β×β))(a b:β):Prop:=∃r,iu ws a r b
theorem iu.snoc{a b c:β}{n:Int}{r:List Int}(h:iu ws a r b)(hw:(n,b,c)∈ws):iu ws a (r++[n]) c:=by
 induction h with
 |nil p=>exact .cons hw (.nil _)
 |cons h1 _ ih=>exact .cons h1 (ih hw)
def CZ(w:Int×β×β):Int×β×β:=(w.1,w.2.2,w.2.1)
theorem Sg{n:Int}{a b:β}:(n,a,b)∈ws.map CZ↔(n,b,a)∈ws:=by
 rw[eU];constructor
 .rintro⟨w,h,e⟩
  injection e with e1 e2
  injection e2 with e2 e3
  subst e1 e2 e3;exact h
 .exact λh=>⟨_,h,rfl⟩
theorem iu.turn{a b:β}{r:List Int}(h:iu (ws.map CZ) a r b):iu ws b r.reverse a:=by
 induction h with
 |nil p=>exact .nil p
 |cons h1 _ ih=>
  rw[N6];exact ih.snoc (Sg.mp h1)
theorem iu.ac1{a b:β}{r:List Int}(h:iu ws a r b):iu (ws.map CZ) b r.reverse a:=by
 induction h with
 |nil p=>exact .nil p
 |cons h1 _ ih=>
  rw[N6];exact ih.snoc (Sg.mpr h1)
theorem uf.abj{st:List (β×Int)}(B:uf (ws.map CZ) s st){p:β}(h:wB ws s p):∃r,iu ws s r p/\r.length<=ws.length:=by
 obtain⟨r,h⟩:=h
 obtain⟨d,e,_⟩:=B.whole p _ h.ac1
 obtain⟨r',h',l⟩:=B.sound p d e
 have:=B.few p d e;rw[bw] at this
 exact⟨_,h'.turn,by rw[List.length_reverse];lia⟩
theorem aav:∀{l m:List β},l.Nodup->m.Nodup->(∀x,x∈l↔x∈m)->l.Perm m
 |[],m,_,_,h=>by
  cases m with
  |nil=>exact .refl _
  |cons x _=>exact absurd ((h x).mpr dN) mj
 |a::l,m,hl,hm,h=>by
  have ha:=(h a).mp dN
  refine((aav (m:=m.erase a) (jD.mp hl).2 (hm.erase a) λx=>?_).cons a).trans (List.perm_cons_erase ha).symm
  constructor
  .intro hx;have ne:x≠a:=λz=>(jD.mp hl).1 (z▸hx)
   exact(afD ne).mpr ((h x).mp (fP _ hx))
  .intro hx;have hx':=(h x).mpr (List.mem_of_mem_erase hx);rcases cB.mp hx' with rfl|hx'
   .exact absurd hx (List.Nodup.not_mem_erase hm)
   .exact hx'
def lexLe:List Int->List Int->Prop
 |[],_=>True
 |_::_,[]=>False
 |a::r,b::q=>a<b\/(a=b/\lexLe r q)
def tH(ws:List (Int×β×β))(p s:β)(r:List Int):Prop:=iu ws p r s/\∀r',iu ws p r' s->r.length<r'.length\/(r.length=r'.length/\lexLe r r')
theorem tH.self(ws:List (Int×β×β))(s:β):tH ws s s []:=⟨.nil s,λr' _=>by
 cases r' with
 |nil=>exact .inr ⟨rfl,trivial⟩
 |cons _ _=>exact .inl (Ji _)⟩
theorem tH.go{p q:β}{n d:Int}{r:List Int}{st:List (β×Int)}(hU:∀w∈ws,∀w'∈ws,w.1=w'.1->w=w')(B:uf ws s st)(hp:gA st p=aa d)(hw:(n,p,q)∈ws)(hq:∃e,gA st q=aa e/\e<d)(hmin:∀n' q' e,(n',p,q')∈ws->gA st q'=aa e->e<d->n<=n')(hr:tH ws q s r):tH ws p s (n::r):=by
 obtain⟨e,hq,hlt⟩:=hq
 obtain⟨r1,hr1,l1⟩:=B.sound q e hq
 have hle:r.length<=r1.length:=by rcases hr.2 r1 hr1 with h|h<;>lia
 refine⟨.cons hw hr.1,λr' h'=>?_⟩
 obtain⟨d',e',hd'⟩:=B.whole p r' h'
 rw[hp] at e';cases e';rw[cZ];cases h' with
 |nil=>
  simp only[Ax] at hd';lia
 |cons hw' hr'=>
  rename_i n' q' r';rw[cZ] at hd'⊢
  obtain⟨e2,h2,l2⟩:=B.whole q' r' hr'
  by_cases hl:r.length<r'.length
  .exact .inl (by lia)
  .refine .inr ⟨by lia,?_⟩;have hn:=hmin n' q' e2 hw' h2 (by lia);by_cases hnn:n<n'
   .exact .inl hnn
   .have:n=n':=by lia
    subst this;have:=hU _ hw _ hw' rfl;cases this;refine .inr ⟨rfl,?_⟩;rcases hr.2 r' hr' with h|h
    .lia
    .exact h.2
end
end L2
namespace L2
open PySem PySem.Spec PyProof.Rows PySem.W
def z9:Option (Option Vl)->Option (List au)
 |some (some (.ow (.list ds)))=>aa ds
 |_=>aj
theorem KQ(h:z9 x=aa ds):x=aa (aa (.ow (.list ds))):=by
 unfold z9 at h;split at h
 .cases h;rfl
 .cases h
def Vq(i j:Nat)(f:FB):FS:=λenv C=>(z9 env[i]?).bind λ_=>(z9 env[j]?).bind λ_=>(f env C).bind λp=>(z9 p.2.1[i]?).bind λds=>(z9 p.2.1[j]?).bind λes=>(intD p.1).bind λk=>(if 0<=k/\k<f9 then es[k.toNat]? else aj).bind λy=>if ds.length<f9/\i≠j then aa (.nx,(p.2.1.set j (aa (.ow (.list (es.eraseIdx k.toNat))))).set i (aa (.ow (.list (ds++[y])))),p.2.2) else aj
theorem aaw:∀{ds:List au}{vs:List V}(n:Nat),cA H ds vs->cA H (ds.eraseIdx n) (vs.eraseIdx n)
 |[],vs,n,r=>by
  have:vs=[]:=r;subst this;exact r
 |x::ds,vs,0,r=>by
  obtain⟨v,r',rfl,_,w⟩:=r
  exact w
 |x::ds,vs,n+1,r=>by
  obtain⟨v,r',rfl,q,w⟩:=r
  exact⟨v,_,rfl,q,aaw n w⟩
theorem alK(ho:PE X o (qF i))(ho2:PE X o2 (qF j))(he:PE X e (eZ X.K f))
  (hs0:ux (.Call (.Attribute o "append" apos) [.Call (.Attribute o2 "pop" Dc) [e] [] vL] [] cpos) aj pos.line X.env=pure aJ:=by rfl)
  (hbase:vm o "append" X.env (eval o X.env)=eval o X.env:=by rfl)
  (hfew:((gH cpos (bJ [.Call (.Attribute o2 "pop" Dc) [e] [] vL] X.env)).all (λx=>!x.1)&&(zq cpos (zf [] X.env)).all (λx=>x.1.isSome)
   &&decide (([.Call (.Attribute o2 "pop" Dc) [e] [] vL]:List Expr).length+([]:List oh).length+(if([]:List oh).isEmpty then 0 else 1)<30))=ao:=by rfl)
  (hline:(apos.endLine==cpos.line)=ao:=by rfl)(hs:bJ [.Call (.Attribute o2 "pop" Dc) [e] [] vL] X.env=(aJ,eval (.Call (.Attribute o2 "pop" Dc) [e] [] vL) X.env)::bJ [] X.env:=by rfl)(hplain:(gH cpos (bJ [] X.env)).any (·.1)=aJ:=by rfl)
  (anp:vm o2 "pop" X.env (eval o2 X.env)=eval o2 X.env:=by rfl)
  (aoy:((gH vL (bJ [e] X.env)).all (λx=>!x.1)&&(zq vL (zf [] X.env)).all (λx=>x.1.isSome)
   &&decide (([e]:List Expr).length+([]:List oh).length+(if([]:List oh).isEmpty then 0 else 1)<30))=ao:=by rfl)
  (anq:(Dc.endLine==vL.line)=ao:=by rfl)(hs2:bJ [e] X.env=(aJ,eval e X.env)::bJ [] X.env:=by rfl)(alL:(gH vL (bJ [] X.env)).any (·.1)=aJ:=by rfl):
  PS X (.Expr (.Call (.Attribute o "append" apos) [.Call (.Attribute o2 "pop" Dc) [e] [] vL] [] cpos) pos) (tS X.K (Vq i j f)):=
 (SX (Gh Ny Xv afd (tW.r QX) ho
  (n6 (Gh Ny ags PySem.F.type_list_pop (tW.r ajy) ho2 (n6 he qu hs2) anp aoy anq hs2 alL) qu hs) hbase hfew hline hs hplain) hs0).weak λD σ H aP=>by
  obtain⟨Z,Θ,env,C,fl,env',C',S,hf,q⟩:=aP
  obtain⟨_,g1,hf⟩:=kW.mp hf
  obtain⟨_,g2,hf⟩:=kW.mp hf
  obtain⟨p,g3,hf⟩:=kW.mp hf
  obtain⟨ds,g4,hf⟩:=kW.mp hf
  obtain⟨es,g5,hf⟩:=kW.mp hf
  obtain⟨k,g6,hf⟩:=kW.mp hf
  obtain⟨y,g7,hf⟩:=kW.mp hf
  split at hf
  case isFalse=>cases hf
  rename_i g8;split at g7
  case isFalse=>cases g7
  rename_i g9;cases hf
  obtain⟨v0,rK,a,rfl,Dq,ha0,r0⟩:=S.slot i _ (KQ g1)
  obtain⟨v1,ev1,b,rfl,vs1,ha1,r1⟩:=S.slot j _ (KQ g2)
  refine⟨_,rK,.inl ⟨rfl,Dq,bR.of ha0⟩,_,ev1,.inl ⟨rfl,vs1,bR.of ha1⟩,Z,Θ,env,C,p.1,p.2.1,p.2.2,S,g3,λv H1 kk ff S1 bb=>?_⟩
  rw[Kw g6] at bb;have bb:v=.int k:=bb;subst bb;have g4:=KQ g4;have g5:=KQ g5
  obtain⟨w0,ew0,a',ea,ws0,hw0,s0⟩:=S1.slot i _ g4
  obtain⟨w1,ew1,b',eb,Ht,hw1,s1⟩:=S1.slot j _ g5
  subst ea eb;rw[rK] at ew0;rw[ev1] at ew1;cases ew0;cases ew1
  obtain⟨yv,hy,ry⟩:=vG s1 g7
  have hk:k.toNat<Ht.length:=(jH.mp hy).1;have g9:0<=k/\k<1000000:=g9;have six:QW k Ht.length=aa k.toNat:=by
   exact aqO g9.1 (by lia)
  refine⟨b,Ht,k,k.toNat,yv,rfl,rfl,hw1,by lia,by lia,six,hy,?_⟩
  have w1:fj X.K Z Θ p.2.1 σ H1 Θ (p.2.1.set j (aa (.ow (.list (es.eraseIdx k.toNat))))) p.2.2 σ (upd H1 b (.lst (Ht.eraseIdx k.toNat))):=S1.write g5 ev1 ⟨_,dO,aaw _ s1⟩
  obtain⟨x0,ex0,a',ea,xs0,hx0,t0⟩:=w1.sm.slot i _ (show(p.2.1.set j (aa (.ow (.list (es.eraseIdx k.toNat)))))[i]?=_ by rw[wH (λz=>g8.2 z.symm)];exact g4)
  subst ea;rw[rK] at ex0;cases ex0
  refine⟨a,xs0,yv,rfl,rfl,hx0,by rw[jo t0,iK];have:ds.length<1000000:=g8.1;lia,?_⟩
  have ep:bf Z Θ (p.2.1.set j (aa (.ow (.list (es.eraseIdx k.toNat))))) σ=bf Z Θ p.2.1 σ:=by show _++(_++_)=_;rw[RJ g5]
  have mp:b∈bf Z Θ p.2.1 σ:=jN.mpr (.inr (.inr (nu.mpr ⟨j,_,g5,ev1⟩)));have ry':RZ (er (bf Z Θ (p.2.1.set j (aa (.ow (.list (es.eraseIdx k.toNat))))) σ) (upd H1 b (.lst (Ht.eraseIdx k.toNat)))) y yv:=by rw[ep,Ld mp];exact ry
  have w2:=w1.sm.write (o:=.lst (xs0++[yv])) (d':=.list (ds++[y])) (show(p.2.1.set j (aa (.ow (.list (es.eraseIdx k.toNat)))))[i]?=_ by rw[wH (λz=>g8.2 z.symm)];exact g4) rK ⟨_,dO,zA t0 ⟨yv,[],rfl,ry',rfl⟩⟩;exact q Θ σ _ (((fj.rJ kk ff S1).trans w1).trans w2)
def aoz(i j k:Nat)(ta:TA):TS:=λD σ H=>ta σ H λvs H1=>vs.length=3/\(∀v w z,vs=[v,w,z]->D.nx (((σ.set i (aa v)).set j (aa w)).set k (aa z)) H1)
section
variable{X:Cx}{pos:Pos}
theorem alM{kt k2 pB}(hc:X.calm=ao)(hN:X.N.Nodup)(hi:X.N[i]?=aa x)(hj:X.N[j]?=aa y)(hk:X.N[k]?=aa z)(hij:i≠j)(hik:i≠k)(hjk:j≠k)
  (hx:X.env.scope.names.lookup x=aa .local)(hy:X.env.scope.names.lookup y=aa .local)(hz:X.env.scope.names.lookup z=aa .local)(ha:PA X [a,b,c] ta)
  (hw:wY [.Tuple [.Name x px,.Name y py,.Name z pz] kt pt] (.Tuple [a,b,c] k2 pB) X.env=pure (aa [x,y,z]))
  (hs:wX [.Tuple [.Name x px,.Name y py,.Name z pz] kt pt] (.Tuple [a,b,c] k2 pB) pos.line X.env=pure aJ:=by rfl):
  PS X (.Assign [.Tuple [.Name x px,.Name y py,.Name z pz] kt pt] (.Tuple [a,b,c] k2 pB) pos) (aoz i j k ta):=by
 intro pins s σ H D I h;rw[exec_Assign_arm];refine aG (vh ?_);rw[hs];refine aG (bh ?_);rw[bH (by decide)];refine aG (Tuple_ (bO (ha _ pins s σ H _ I h) λus s1 aP=>?_))
 obtain⟨vs,H1,I1,r1,l1,q1⟩:=aP
 cases r1 with
 |nil=>cases l1
 |cons rv r1=>
 cases r1 with
 |nil=>cases l1
 |cons rw' r1=>
 cases r1 with
 |nil=>cases l1
 |cons rz r1=>
 cases r1 with
 |cons _ _=>cases l1
 |nil=>
 rename_i v u1 w u2 zz u3;refine mQ ?_ (by show 3<=cu;decide);have I2:Inv X pins σ H1 {s1 with heap:=s1.heap.push {cls:=.type "tuple",data:=.seq [u1,u2,u3].toArray}}:=I1.kept (t':=s1.toks) λb o e=>cW _ e
 rw[hw];refine aG (bh ?_);show aR (model X.prog X.w) X.A (do rule "assign.swapped-stores";let items <-unpackItems (.ref s1.heap.objs.size) 3 aj;DW [λv=>vq X.env z v,λv=>vq X.env y v,λv=>vq X.env x v] items.reverse;pure QM) _ _ _;refine aG (zj (aG (unpackItems_tuple (items:=#[u1,u2,u3]) (I.ok.hd hc) (IsTup.new s1.heap _) λh' hx'=>?_)));have I3:=I2.kept (h':=h') (t':=s1.toks) λb o e=>hx' b o (eO (cF e)) e
 show aR _ _ (DW [λv=>vq X.env z v,λv=>vq X.env y v,λv=>vq X.env x v] [u3,u2,u1] >>= λ_=>pure QM) _ _ _;refine aG (assignInOrder_cons (Iv (uy I3 hN hk (.inl hz) rz (λs2 I4=>?_) (.inr hz))));refine assignInOrder_cons (Iv (uy I4 hN hj (.inl hy) rw' (λs3 I5=>?_) (.inr hy)));refine assignInOrder_cons (Iv (uy I5 hN hi (.inl hx) rv (λs4 I6=>assignInOrder_nil (bh ?_)) (.inr hx)));rw[Ph _ _ (lg hij),Ph _ _ (lg hik),Ph _ _ (lg hjk)] at I6
 exact⟨_,H1,I6,q1 _ _ _ rfl⟩
theorem alN{kt k2 pB}(hc:X.calm=ao)(hN:X.N.Nodup)(hi:X.N[i]?=aa x)(hj:X.N[j]?=aa y)(hk:X.N[k]?=aa z)(hij:i≠j)(hik:i≠k)(hjk:j≠k)
  (hx:X.env.scope.names.lookup x=aa .local)(hy:X.env.scope.names.lookup y=aa .local)(hz:X.env.scope.names.lookup z=aa .local)(ha:PA X [a,b,c] (wz X.K g))
  (hw:wY [.Tuple [.Name x px,.Name y py,.Name z pz] kt pt] (.Tuple [a,b,c] k2 pB) X.env=pure (aa [x,y,z]))
  (hs:wX [.Tuple [.Name x px,.Name y py,.Name z pz] kt pt] (.Tuple [a,b,c] k2 pB) pos.line X.env=pure aJ:=by rfl):
  PS X (.Assign [.Tuple [.Name x px,.Name y py,.Name z pz] kt pt] (.Tuple [a,b,c] k2 pB) pos) (tS X.K (lW [i,j,k] g)):=(alM hc hN hi hj hk hij hik hjk hx hy hz ha hw hs).weak λD σ H aP=>by
 obtain⟨Z,Θ,env,C,fl,env',C',S,hf,q⟩:=aP
 unfold lW at hf;split at hf
 case h_2=>cases hf
 rename_i xs e1 C1 h1;split at hf
 case isFalse=>cases hf
 rename_i hl;cases hf
 refine⟨Z,Θ,env,C,xs,e1,C',S,h1,λvs as H1 k1 f1 n1 S1 a1=>⟨by rw[BV a1,<-hl.1];rfl,λv w zz e=>?_⟩⟩
 obtain⟨S2,o2⟩:=Ky a1 hl.1 (bN.refl _) S1
 subst e;refine q Θ _ H1 ⟨jZ.refl _ _,sy k1,λb m=>?_,S2⟩;rcases o2 b m with m|m
 .exact .inl (f1.own.subset m)
 .exact .inr (n1 b m)
end
theorem abk(rel:KV kvs vs):∀{us:List Value},us.length=vs.length->(∀(i:Nat)(v:Value),us[i]?=aa v->∃k x,vs[i]?=aa (k,x)/\(jy P w).is k v=ao)->Vals (kvs.map λkv=>kV kv.1) us:=by
 induction rel with
 |nil=>
  intro us h2 h3;cases us with
  |nil=>exact .nil
  |cons _ _=>cases h2
 |@cons p w ps ws hp _ ih=>
  intro us h2 h3;cases us with
  |nil=>cases h2
  |cons u us=>
   refine .cons ?_ (ih (Jj h2) λi v e=>h3 (i+1) v e)
   obtain⟨k,x,e1,e2⟩:=h3 0 u rfl
   have ek:k=p.1:=by rw[hp.1];exact congrArg Prod.fst (gP e1.symm)
   subst ek;exact aau e2
section
variable{X:Cx}
theorem YD(hc:X.calm=ao):ie X (.builtin "sorted") (λxs H Q=>∃(d:aq)(kvs:List (Key×V))(ns:List Str),xs=[.ref d]/\H d=aa (.dK kvs)/\kvs.map (·.1)=ns.map .inr/\ns.length<64/\∀(l:aq)(ns':List Str),H l=aj->ns'.Perm ns->sortedS ns'=ao->Q (.ref l) (upd H l (.lst (ns'.map V.str)))):=by
 intro pins s σ H xs us Q I r h
 obtain⟨d,kvs,ns,rfl,hd,hns,few,q⟩:=h
 obtain⟨u,rfl,ru⟩:=vals1 r
 cases ru
 obtain⟨z,lo,vs,rel,dd⟩:=I.hok d _ hd
 obtain⟨ep,da⟩:=dd.dictAt
 have lv:vs.length=kvs.length:=(Paired.length rel).symm;have ln:kvs.length=ns.length:=by have:=congrArg mq hns;simpa using this
 refine HN kind_sorted plain_sorted entry_sorted (args_sorted1 _) ?_;unfold lA.«sorted»;refine aG (m:=JF "sorted" 1 1 _) (bh (aG (Qg (A:=X.A.in1) (kdl_dict (knd:=jy X.prog X.w) (ep:=ep) lo) (I.ok.hd hc) da (by rw[lv];exact z) λh1 tk acc hsz kk hacc=>?_)));have hV:=abk (P:=X.prog) (w:=X.w) rel (us:=acc.toList) (by rw[j5];exact hacc.1) λi v e=>hacc.2 i v (by rw[<-Ak];exact e)
 have hV:Vals (ns.map V.str) acc.toList:=by
  rw[show ns.map V.str=(ns.map jT).map kV by rw[dW];rfl,<-hns,dW];exact hV
 have hS:StrsAre acc.toList ns:=JD hV;have lu:acc.toList.length=ns.length:=by rw[<-hV.length,bw]
 refine aG (Ea ?_ (by rw[iK];lia));have gL:(h1.push (seqObj "list" acc.toList.toArray 0)).get? h1.objs.size=aa (seqObj "list" acc.toList.toArray 0):=iH _ rfl;refine aG (mV (nY slot_list_sort ⟨_,gL,rfl⟩ entry_list_sort (list_sort_treeK strKind_oneLt gL hS.keysOf (λv1 v2 rest e=>keyKind_strs (by rw[<-e];exact hS)) (by lia) λst hp1 hp2=>⟨_,rfl,?_⟩) (args_list_sort _)))
 obtain⟨ns',b1,b2,b3⟩:=sorted_out_str hS hp1 hp2
 obtain⟨c,gD⟩:=sortedHeap_at (out:=(arrOf st).map (·.2)) gL
 have kb:∀b o,s.heap.get? b=aa o->(sortedHeap (h1.push (seqObj "list" acc.toList.toArray 0)) h1.objs.size acc.toList ((arrOf st).map (·.2))).get? b=aa o:=λb o e=>by
  have lb:b<h1.objs.size:=cF (kk b o e);rw[sortedHeap_old (eO lb) (by rw[wV];exact wO lb)];exact cW _ (kk b o e)
 exact bh ⟨_,rfl,.ref h1.objs.size,_,I.laid (o:=.lst (ns'.map V.str)) (t':=tk) kb hsz ⟨by rw[bw,b2.length_eq,iK];lia,((arrOf st).map (·.2)).toList,c,JQ b1,by rw[afE];exact gD⟩,rfl,q _ ns' (I.hok.fresh hsz) b2 b3⟩
def Fg:List au->Option Vl
 |[.dict kvs]=>(strsOf (kvs.map (·.1))).bind λns=>bif decide (ns.length<64) then aa (.ow (.list ((jX strLt ns).map .str))) else aj
 |_=>aj
theorem aax:∀{kvs:List (au×au)}{ns:List Str},strsOf (kvs.map (·.1))=aa ns->cO cX kvs=aa (ns.map .inr)
 |[],ns,h=>by cases h;rfl
 |(.str z,v)::kvs,ns,h=>by
  obtain⟨ns',h1,rfl⟩:∃ns',strsOf (kvs.map (·.1))=aa ns'/\ns=z::ns':=by
   have h:(strsOf (eV z::kvs.map (·.1)))=aa ns:=h;unfold strsOf at h;cases e:strsOf (kvs.map (·.1)) with
   |none=>rw[e] at h;cases h
   |some t=>rw[e] at h;cases h;exact⟨t,rfl,rfl⟩
  show cO cX ((.str z,v)::kvs)=_;unfold cO;rw[aax h1];rfl
 |(.none,v)::kvs,ns,h=>by cases h
 |(.bool _,v)::kvs,ns,h=>by cases h
 |(.int _,v)::kvs,ns,h=>by cases h
 |(.list _,v)::kvs,ns,h=>by cases h
 |(.tuple _,v)::kvs,ns,h=>by cases h
 |(.dict _,v)::kvs,ns,h=>by cases h
theorem abl{K:aM}:lK K (λxs H Q=>∃(d:aq)(kvs:List (Key×V))(ns:List Str),xs=[.ref d]/\H d=aa (.dK kvs)/\kvs.map (·.1)=ns.map .inr/\ns.length<64/\∀(l:aq)(ns':List Str),H l=aj->ns'.Perm ns->sortedS ns'=ao->Q (.ref l) (upd H l (.lst (ns'.map V.str)))) Fg:=by
 intro Z Θ env C σ H xs ds res S b e Q q;refine hide λGG gg=>?_
 unfold Fg at e;split at e
 case h_2=>cases e
 rename_i kvs
 obtain⟨ns,hns,e⟩:=jz e
 cases hl:decide (ns.length<64) with
 |false=>rw[hl] at e;cases e
 |true=>
 rw[hl] at e;cases e;have hl:=of_decide_eq_true hl
 obtain⟨v,rfl,bb⟩:=ou b
 obtain⟨a,vs,rfl,da,r⟩:=bb.dct
 have hk:=aax hns;rcases da with⟨ks,h1,ha⟩|⟨ks,⟨ne,h2⟩,ha⟩
 .rw[hk] at h1;cases h1;have lz:vs.length=(ns.map (jT:Str->Key)).length:=by rw[zy r,uz hk]
  refine gg ⟨a,_,ns,rfl,ha,by rw[Yc (by lia)],hl,λl ns' hn p hp=>?_⟩;rw[UJ p hp];exact q _ _ (aZ.upd hn) (oO S (Ry _) hn)
 .exact absurd (vA hk h2) ne
end
section
variable{X:Cx}{l de:Expr}{tl td:TE}{p pos kp:Pos}
end
inductive ir(K:aM)(x:Str)(st:dM):Prop
 |mk {f:aq} {oc:Value} {od an:Option aq} {osl:Array (Option Value)} {kV doc pm cdv ct:Value} (a:oJ K iM x=aa (aa (.ref f))) (l:K.lookup f=aa ⟨oc,od,.func (zc x x (BP st) (xK st) (dw st) .none kV doc pm an cdv ct),osl⟩) (c:OD K cdv x=ao) (k:wU K (.ref f)=ao):ir K x st
abbrev U3(x:Str)(st:dM)(ps:List Str):Prop:=∀(kV doc pm:Value)(an:Option aq)(cdv ct:Value)(us:List Value),us.length=ps.length->bindArgs (zc x x (BP st) (xK st) (dw st) .none kV doc pm an cdv ct) ⟨us,[]⟩=pure (ps.zip us)
section
variable{P:bL}{w:bI}{K:aM}{mg:Str->Option Value}{base h:bC}{x:Str}{st:dM}{k:Nat}{ps:List Str}{sp:Sp}
theorem ir.has(d:ir K x st)(X:K.In h)(G:h.Ns iM mg)(o:∀f fd,gC K x x st f fd->dX P w K mg base fZ k f fd ps sp)(hb:U3 x st ps):dR P w K mg base x k ps sp:=by
 obtain⟨a,l,c,kp⟩:=d
 have F:=Ur l c kp
 exact⟨_,_,YZ X G a,kp,F.binds hb,o _ _ F⟩
theorem ir.apq(d:ir K x st)(X:K.In h)(G:h.Ns iM mg)(o:∀f fd,mg x=aa (.ref f)->wU K (.ref f)=ao->Binds K fd ps []->gC K x x st f fd->dR P w K mg base x k ps sp)(hb:U3 x st ps):dR P w K mg base x k ps sp:=by
 obtain⟨a,l,c,kp⟩:=d
 have F:=Ur l c kp;exact o _ _ (YZ X G a) kp (F.binds hb) F
theorem ir.law{y:Str}{fa:aq}(d:ir K x st)(X:K.In h)(G:h.Ns iM mg)(hfa:mg x=aa (.ref fa))(o:∀base f fd,gC K x x st f fd->dX P w K mg base fZ k f fd [y] sp)(hb:U3 x st [y]):
  ∃fd:dZ,(∀(s:aD)(v:Value),zu s fd ⟨[v],[]⟩ [(y,v)])/\∀base:bC,K.In base->base.Ns iM mg->dX P w K mg base fZ k fa fd [y] sp:=by
 obtain⟨a,l,c,kp⟩:=d
 have e:=hfa.symm.trans (YZ X G a);cases e
 exact⟨_,λs v=>.of_eq (hb _ _ _ _ _ _ [v] rfl),λbase _ _=>o base _ _ (Ur l c kp)⟩
theorem jC{B:List Value->Prop}(h:B []):∀us:List Value,us.length=0->B us
 |[],_=>h
theorem cD{n:Nat}{B:List Value->Prop}(h:∀a,∀us:List Value,us.length=n->B (a::us)):∀us:List Value,us.length=n+1->B us
 |a::us,e=>h a us (Jj e)
end
section
open PySem.SeqAt
open PySem.AutoSeq1 (wpAny_loadPart')
open PySem.MeetsSeq PySem.MeetsSeq2 PySem.MeetsSeq3
theorem acg{xs:Array Value}{i:Nat}(h:xs.toList.drop i=x::r):xs[i]?=aa x/\xs.toList.drop (i+1)=r:=by
 have h1:xs.toList[i]?=aa x:=by
  have:=congrArg (·[0]?) h;simpa using this
 refine⟨by simpa using h1,?_⟩
 rw[<-List.tail_drop,h,List.tail_cons]
theorem ach(l b:aq)(items items2:Array Value)(n n2:Nat)(dd dd2:Option aq)(sl sl2:Array (Option Value))(hsz:items.size=items2.size):
  ∀(ns ms:List Key)(i:Nat),Vals (ns.map kV) (items.toList.drop i)->Vals (ms.map kV) (items2.toList.drop i)->ns.map bV=ms.map bV->Meets (lA.«list.__eq__.loop» ⟨[.ref l,.ref b,je i,je 0],[]⟩)
   (λ_ R s=>s.heap.get? l=aa {cls:=.type "list",dict:=dd,data:=.seq items n,slots:=sl}/\s.heap.get? b=aa {cls:=.type "list",dict:=dd2,data:=.seq items2 n2,slots:=sl2}/\R (.ok (.ret (.bool (fD ns ms)))) s)
 |[],[],i,h1,h2,_=>λprog w A R s h=>by
  obtain⟨hp,g,d,tk,os⟩:=s;obtain⟨hl,hb,h⟩:=h
  have z1:=h1.length;rw[DN,j5] at z1;have z1:0=items.size-i:=z1;have i1:items[((i:Nat):Int).toNat]?=aj:=by simp;lia
  have i2:items2[((i:Nat):Int).toNat]?=aj:=by simp;lia
  wp_walk using qe hl,qe hb;rw[i1,i2];wp_walk using qe hl,qe hb;show R (.ok (.ret (.bool (decide (items.size<items2.size))))) _;rw[gM (by lia)];exact h
 |a::ns,c::ms,i,h1,h2,ht=>λprog w A R s h=>by
  obtain⟨hp,g,d,tk,os⟩:=s;obtain⟨hl,hb,h⟩:=h
  generalize e1:items.toList.drop i=xs at h1;generalize e2:items2.toList.drop i=ys at h2;cases h1 with
  |cons r1 t1=>
   cases h2 with
   |cons r2 t2=>
    obtain⟨i1,d1⟩:=acg e1
    obtain⟨i2,d2⟩:=acg e2
    have k1:bV a=bV c:=(Bb ht).1;have hc:((i:Int)+1)=((i+1:Nat):Int):=rfl;unfold fD at h;wp_walk using qe hl,qe hb;rw[yP,i1,i2];refine aG (Rt A.in1 ⟨hp,g,d,tk,os⟩ r1 r2 k1 prog w _ _ ?_);by_cases hac:a=c
    .rw[bz hac] at h;rw[gk hac];wp_walk;rw[hc]
     refine⟨vo plain_eq_loop _,wR entry_eq_loop ?_⟩
     rw[wI plain_eq_loop _];exact ach l b items items2 n n2 dd dd2 sl sl2 hsz ns ms (i+1) (by rw[d1];exact t1) (by rw[d2];exact t2) (Bb ht).2 prog w A R _ ⟨hl,hb,h⟩
    .rw[bH hac] at h;rw[gM hac];have rc:=J6 A.in1 ⟨hp,g,d,tk,os⟩ r1 r2 k1 prog w;wp_walk using qe hl,qe hb;rw[i1,i2];wp_walk using rc;simpa using h
theorem alO(l b:aq)(items items2:Array Value)(n n2:Nat)(dd dd2:Option aq)(sl sl2:Array (Option Value))(hsz:items.size=items2.size)(ns ms:List Key)(h1:Vals (ns.map kV) items.toList)(h2:Vals (ms.map kV) items2.toList)(ht:ns.map bV=ms.map bV):
  Meets (lA.«list.__lt__» ⟨[.ref l,.ref b],[]⟩)
   (λ_ R s=>s.heap.get? l=aa {cls:=.type "list",dict:=dd,data:=.seq items n,slots:=sl}/\s.heap.get? b=aa {cls:=.type "list",dict:=dd2,data:=.seq items2 n2,slots:=sl2}/\R (.ok (.ret (.bool (fD ns ms)))) s):=by
 intro prog w A R s h
 obtain⟨hp,g,d,tk,os⟩:=s;obtain⟨hl,hb,h⟩:=h
 have f3:=AutoSeq1.sub_list_list;wp_walk using qe hl,qe hb
 refine⟨vo plain_eq_loop _,wR entry_eq_loop ?_⟩
 rw[wI plain_eq_loop _];exact ach l b items items2 n n2 dd dd2 sl sl2 hsz ns ms 0 h1 h2 ht prog w A R _ ⟨hl,hb,h⟩
def aef(A:cM)(s:aD)(x y:Value)(r:Bool):Prop:=∀(prog:bL)(w:bI)(E Q:Value->aD->Prop),Q (.bool r) s->aR (model prog w) A (Eg .Lt x y) Q E s
theorem aib(hl:s.heap.IsList l items)(hb:s.heap.IsList b items2)(h1:Vals (ns.map kV) items.toList)(h2:Vals (ms.map kV) items2.toList)(ht:ns.map bV=ms.map bV)(hu:A.units<gj):aef A s (.ref l) (.ref b) (fD ns ms):=λprog w E Q h=>by
 obtain⟨⟨cls,dd,data,sl⟩,ho,hc,n,hd⟩:=id hl
 obtain⟨⟨cls2,dd2,data2,sl2⟩,ho2,hc2,n2,hd2⟩:=id hb
 simp only at hc hd hc2 hd2;subst hc hd hc2 hd2;have z1:ns.length=items.size:=by have:=h1.length;simpa using this
 have z2:ms.length=items2.size:=by have:=h2.length;simpa using this
 have z3:ns.length=ms.length:=by have:=congrArg mq ht;simpa using this
 exact Xh (op:=.Lt) ⟨_,ho,rfl⟩ ⟨_,ho2,rfl⟩ PySem.F.slot_list_lt PySem.F.entry_list_lt (PySem.F.args_list_lt_2 _ _) (alO l b items items2 n n2 dd dd2 sl sl2 (by lia) ns ms h1 h2 ht)
  ⟨ho,ho2,show qQ (fD ns ms)≠Xo/\Q (.bool (fD ns ms)) s from⟨(λx=>nomatch x),h⟩⟩ hu
inductive vM(A:cM)(s:aD):List Value->List Value->Bool->Prop
 |nil:vM A s [] [] aJ
 |eq:EqAt A s x y ao->vM A s xs ys r->vM A s (x::xs) (y::ys) r
 |ne:EqAt A s x y aJ->aef A s x y r->xs.length=ys.length->vM A s (x::xs) (y::ys) r
theorem vM.len(h:vM A s xs ys r):xs.length=ys.length:=by
 induction h with
 |nil=>rfl
 |eq _ _ ih=>rw[cZ,cZ,ih]
 |ne _ _ e=>rw[cZ,cZ,e]
theorem ake(l b:aq)(items items2:Array Value)(n n2:Nat)(dd dd2:Option aq)(sl sl2:Array (Option Value))(r:Bool):
  Meets (lA.«tuple.__lt__» ⟨[.ref l,.ref b],[]⟩)
   (λA R s=>s.heap.get? l=aa {cls:=.type "tuple",dict:=dd,data:=.seq items n,slots:=sl}/\s.heap.get? b=aa {cls:=.type "tuple",dict:=dd2,data:=.seq items2 n2,slots:=sl2}/\vM A.in1 s items.toList items2.toList r/\R (.ok (.ret (.bool r))) s):=
 .of_wp λprog w A R s h=>by
  obtain⟨hp,g,d,tk,os⟩:=s;obtain⟨hl,hb,hr,h⟩:=h
  have f2:=afc;have z0:=hr.len;rw[j5,j5] at z0;wp_walk using qe hl,qe hb,agk _ (λrest b s'=>b.1=aj/\s'=⟨hp,g,d,tk,os⟩/\∃vs ws,rest=vs.zip ws/\vM A.in1 ⟨hp,g,d,tk,os⟩ vs ws r) _
  case turn=>
   rintro⟨y,x⟩ rest b s' ⟨hb',rfl,vs,ws,hz,hr⟩
   cases hr with
   |nil=>cases hz
   |eq e t=>
    rw[Ib] at hz;cases hz;refine aG (e prog w _ _ ?_);wp_walk
    exact⟨rfl,rfl,_,_,rfl,t⟩
   |ne e c _=>
    rw[Ib] at hz;cases hz;refine aG (e prog w _ _ ?_);have c:=c prog w;wp_walk using c
    exact⟨_,rfl,by simpa using h⟩
  case fin=>
   rintro⟨b1,b2⟩ s' ⟨hb',rfl,vs,ws,hz,hr⟩
   simp only at hb';subst hb';cases hr with
   |nil=>
    wp_walk
    exact⟨_,rfl,by simpa[aeY,z0] using h⟩
   |eq=>cases hz
   |ne=>cases hz
  case h=>exact⟨rfl,rfl,_,_,rfl,hr⟩
end
theorem Sh:∀{ns:List Key}{xs:List Value}{j:Nat}{v:Value},Vals (ns.map kV) xs->xs[j]?=aa v->∃x,ns[j]?=aa x/\RelV (kV x) v
 |[],_,j,v,.nil,h=>by cases h
 |n::ns,_::xs,0,v,.cons r _,h=>⟨n,rfl,by cases h;exact r⟩
 |n::ns,_::xs,j+1,v,.cons _ t,h=>Sh (ns:=ns) t (by simpa using h)
theorem ai7{ns ms:List Key}(hl:s.heap.IsList l items)(hb:s.heap.IsList b items2)(h1:Vals (ns.map kV) items.toList)(h2:Vals (ms.map kV) items2.toList)(ht:ns.map bV=ms.map bV)(hs:l=b->ns=ms)(hu:A.units<gj):JB A s (.ref l) (.ref b) (decide (ns=ms)):=by
 by_cases e:l=b
 .subst e;rw[gk (hs rfl)];exact agr _
 .have z1:ns.length=items.size:=by have:=h1.length;simpa using this
  have z2:ms.length=items2.size:=by have:=h2.length;simpa using this
  have z3:ns.length=ms.length:=by have:=congrArg mq ht;simpa using this
  have key:∀j (a1:j<items.size)(a2:j<items2.size),∃x y,ns[j]?=aa x/\ms[j]?=aa y/\JB A.in1 s items[j] items2[j] (decide (x=y)):=λj a1 a2=>by
   obtain⟨x,e1,r1⟩:=Sh h1 (j:=j) (v:=items[j]) (by simp[a1])
   obtain⟨y,e2,r2⟩:=Sh h2 (j:=j) (v:=items2[j]) (by simp[a2])
   refine⟨x,y,e1,e2,Rt _ _ r1 r2 ?_⟩
   have:=congrArg (·[j]?) ht;simpa[e1,e2] using this
  refine SeqAt.EqAt.of_refs e ?_;have:=SeqAt.RcAt.lists (e:=λj=>decide (ns[j]?=ms[j]?)) hl hb (by lia) hu (λj a1 a2=>by
   obtain⟨x,y,e1,e2,h⟩:=key j a1 a2
   rw[e1,e2];simpa using h)
  have eq:(fB items.size).all (λj=>decide (ns[j]?=ms[j]?))=decide (ns=ms):=by
   rw[rO,oG,decide_eq_true_iff]
   refine⟨λh=>XM λi=>?_,λh j _=>by rw[h];exact gk rfl⟩
   by_cases hi:i<items.size
   .exact of_decide_eq_true (h i (qP.mpr hi))
   .rw[Al (by lia),Al (by lia)]
  rw[<-eq];exact this
theorem ac2:∀ks:List Key,fD ks ks=aJ
 |[]=>by unfold fD;rfl
 |k::ks=>by
  unfold fD;rw[bz rfl];exact ac2 ks
def aeg:R2:=λx y H Q=>∃a b i j l m ks js,x=.ref a/\y=.ref b/\H a=aa (.tup [.int i,.ref l])/\H b=aa (.tup [.int j,.ref m])/\H l=aa (.lst (ks.map kV))/\H m=aa (.lst (js.map kV))/\(i=j->ks.map bV=js.map bV)/\Q (.bl (if i=j then fD ks js else decide (i<j))) H
theorem anr{X:Cx}(hu:X.A.units+1<gj):dm X (fU .Lt) aeg:=by
 intro pins s σ H x y v u Q I rx ry h
 obtain⟨a,b,i,j,l,m,ks,js,rfl,rfl,ha,hb,hl,hm,ht,q⟩:=h
 cases rx;cases ry
 obtain⟨i1,r1,p1,_⟩:=I.tuple (dj.of (K:=X.K) ha)
 obtain⟨i2,r2,p2,_⟩:=I.tuple (dj.of (K:=X.K) hb)
 obtain⟨i3,r3,p3,_⟩:=I.list (bR.of (K:=X.K) hl)
 obtain⟨i4,r4,p4,_⟩:=I.list (bR.of (K:=X.K) hm)
 obtain⟨w1,w2,e1,x1,x2⟩:=r1.two
 obtain⟨w3,w4,e2,x3,x4⟩:=r2.two
 obtain⟨t1,rfl⟩:=x1
 obtain⟨t3,rfl⟩:=x3
 cases x2;cases x4;have row:vM X.A.in1 s i1 i2 (if i=j then fD ks js else decide (i<j)):=by
  rw[e1,e2];have q1:=afO (A:=X.A.in1) (s:=s) i t1 j t3;by_cases h:i=j
  .rw[beq_iff_eq.mpr h] at q1;rw[bz h];refine .eq q1 ?_;have q2:=ai7 (A:=X.A.in1) p3.isList p4.isList r3 r4 (ht h) (λe=>by
    subst e;have:=gP (hl.symm.trans hm);injection this with this
    exact abH this) hu
   by_cases k:ks=js
   .rw[gk k] at q2;rw[k,ac2];exact .eq q2 .nil
   .rw[gM k] at q2;exact .ne q2 (aib p3.isList p4.isList r3 r4 (ht h) hu) rfl
  .rw[beq_eq_false_iff_ne.mpr h] at q1;rw[bH h];exact .ne q1 (λprog w E Q q=>J6 (a:=.inl i) (b:=.inl j) X.A.in1 s ⟨t1,rfl⟩ ⟨t3,rfl⟩ rfl prog w E Q q) rfl
 obtain⟨⟨cls,dd,data,sl⟩,ho,hc,n,hd⟩:=id p1
 obtain⟨⟨cls2,dd2,data2,sl2⟩,ho2,hc2,n2,hd2⟩:=id p2
 simp only at hc hd hc2 hd2;subst hc hd hc2 hd2;exact Xh (op:=.Lt) ⟨_,ho,rfl⟩ ⟨_,ho2,rfl⟩ afu afo (afg _ _) (ake a b i1.toArray i2.toArray n n2 dd dd2 sl sl2 _)
  ⟨ho,ho2,row,show qQ _≠Xo/\_ from⟨(λx=>nomatch x),gJ I q rfl⟩⟩ (by lia)
def Gv:au->au->Option Vl
 |.tuple [.int a,.list xs],.tuple [.int b,.list ys]=>(keysOf xs).bind λks=>(keysOf ys).bind λjs=>if a=b->ks.map bV=js.map bV then aa (.im (.bool (if a=b then fD ks js else decide (a<b)))) else aj
 |_,_=>aj
theorem adG(h:er P H a=aa o):H a=aa o:=by
 unfold er at h;split at h
 .cases h
 .exact h
theorem ant{K:aM}:gU K aeg Gv:=by
 intro Z Θ env C σ H x y dx dy res S bx fH e Q q;unfold Gv at e;split at e
 .obtain⟨ks,h1,e⟩:=kW.mp e
  obtain⟨js,h2,e⟩:=kW.mp e
  split at e
  .rename_i ht;cases e
   obtain⟨a,vs,rfl,ha,v1,_,rfl,z1,_,_,rfl,⟨l,ls,rfl,hl,r1⟩,rfl⟩:=bx.tup
   obtain⟨b,ws,rfl,hb,v2,_,rfl,z2,_,_,rfl,⟨m,ms,rfl,hm,r2⟩,rfl⟩:=fH.tup
   cases(show v1=.int _ from z1)
   cases(show v2=.int _ from z2)
   rw[xr h1 r1] at hl;rw[xr h2 r2] at hm
   exact⟨a,b,_,_,l,m,ks,js,rfl,rfl,ha,hb,adG hl,adG hm,ht,q _ _ (aZ.refl _ _) (jE S rfl rfl)⟩
  .cases e
 .cases e
section
variable{X:Cx}{e es:Expr}{p2 pos:Pos}
end
section
variable{prog:bL}{w:bI}{A:cM}{E:Value->aD->Prop}{s:aD}
end
section
variable{X:Cx}
end
def pairsOf:List au->Option (List (au×au))
 |[]=>aa []
 |.tuple [k,v]::r=>(pairsOf r).map λt=>(k,v)::t
 |_=>aj
def Lh:List Vl->Option (List au×au×List au)
 |.im d::r=>(Lh r).map λx=>(d::x.1,x.2)
 |.ow d::r=>(vK r).map λq=>([],d,q)
 |_=>aj
def Vr(g:FA):FS:=λenv C=>(g env C).bind λx=>(Lh x.1).bind λy=>if x.1.length<=f9 then aa (.rt (.tp y.1 y.2.1 y.2.2),x.2) else aj
def Nb(p:List au)(d:au)(q:List au):List Vl:=p.map .im++.ow d::q.map .im
def Wz(is:List Nat)(env:En)(C:Ce):Vl->Option (Fl×En×Ce)
 |.tp p d q=>if is.length=(Nb p d q).length then aa (.nx,setM is (Nb p d q) env,C) else aj
 |_=>aj
def Vs(f:FN)(g:FA)(is:List Nat):FS:=λenv C=>(g env C).bind λx=>(f x.1 x.2.2).bind λy=>Wz is x.2.1 y.2 y.1
section
variable{K:aM}{E H:Hp}{Θ as:List aq}{xs:List Vl}{vs:List V}{p q:List au}{d:au}
theorem anu(h:mG K E H Θ as xs vs):∀{q:List au},vK xs=aa q->as=[]/\cA E q vs:=by
 induction h with
 |nil=>intro q e;cases e;exact⟨rfl,rfl⟩
 |@cons as x v xs vs a _ ih=>
  intro q e;cases x<;>first|cases e|skip
  unfold vK at e;split at e
  .rename_i t ht;cases e
   exact⟨(ih ht).1,_,_,rfl,a,(ih ht).2⟩
  .cases e
 |own _ _ _=>intro q e;cases e
theorem ai8(h:mG K E H Θ as xs vs):∀{p q:List au}{d:au},Lh xs=aa (p,d,q)->∃a vs1 us,as=[a]/\vs=vs1++.ref a::us/\jQ E H a d/\cA E p vs1/\cA E q us:=by
 induction h with
 |nil=>intro p q d e;cases e
 |@cons as x v xs vs a _ ih=>
  intro p q d e;cases x<;>first|exact a.elim|cases e|skip
  obtain⟨⟨y1,y2,y3⟩,hy,e⟩:=Ai.mp e
  cases e
  obtain⟨b,v1,us,e1,e2,r,s,t⟩:=ih hy
  exact⟨b,v::v1,us,e1,by rw[e2];rfl,r,⟨_,_,rfl,a,s⟩,t⟩
 |@own as a d xs vs r hr ih=>
  intro p q d' e
  obtain⟨y,hy,e⟩:=Ai.mp e
  cases e
  obtain⟨rfl,t⟩:=anu hr hy
  exact⟨a,[],vs,rfl,rfl,r,rfl,t⟩
theorem aci:∀{q:List au}{us:List V},cA E q us->mG K E H Θ [] (q.map .im) us
 |[],us,h=>by cases(show us=[] from h);exact .nil
 |d::q,us,h=>by
  obtain⟨v,r,rfl,h1,h2⟩:=h
  exact .cons h1 (aci h2)
theorem ac3{a:aq}{us:List V}(r:jQ E H a d)(hq:cA E q us):∀{p:List au}{vs:List V},cA E p vs->mG K E H Θ [a] (Nb p d q) (vs++.ref a::us)
 |[],vs,h=>by cases(show vs=[] from h);exact .own (as:=[]) r (aci hq)
 |d::p,vs,h=>by
  obtain⟨v,w,rfl,h1,h2⟩:=h
  exact .cons h1 (ac3 r hq h2)
end
section
variable{X:Cx}{pos:Pos}
theorem alP{es:List Expr}{g:FA}{x1 pt}(ha:PA X es (wz X.K g)):PS X (.Return (aa (.Tuple es x1 pt)) pos) (tS X.K (Vr g)):=(Uh (K7 ha)).weak λD σ H aP=>by
 obtain⟨Z,Θ,env,C,fl,env',C',S,hf,q⟩:=aP
 obtain⟨⟨xs,e1,C1⟩,h1,hf⟩:=kW.mp hf
 obtain⟨⟨p,d,r⟩,h2,hf⟩:=kW.mp hf
 by_cases hl:xs.length<=f9
 case neg=>rw[bH hl] at hf;cases hf
 rw[bz hl] at hf;cases hf
 refine⟨Z,Θ,env,C,xs,env',C',S,h1,λvs as H1 k1 f1 n1 S1 a1=>⟨by rw[BV a1];exact rZ hl,λt ht=>?_⟩⟩
 obtain⟨a,v1,us,rfl,rfl,rt,rp,rq⟩:=ai8 a1 h2
 have kp:aZ Θ H1 (upd H1 t (.tup (v1++.ref a::us))):=aZ.upd ht;have sm:=(lR kp S1.qN λb m=>dg m).trans By;refine q Θ _ _ ⟨jZ.refl _ _,sy (k1.trans kp),t,a,v1,us,rfl,dO,.inr (n1 a dN),(S1.xW (bN.upd ht)).none,rt.same sm λo ho=>?_,rp.same sm,rq.same sm⟩;rw[cV (pM ho ht)];exact ho
theorem alQ{tg e:Expr}{es:List Expr}{f:FN}{g:FA}{is:List Nat}{n k:Nat}{ps:List Str}{x:Str}{p pc:Pos}(F:dR X.prog X.w X.K X.mg X.base x k ps (spT X.K f))(hr:jg k X.A)(hgl:Gl X x)(ha:PA X (e::es) (wu X.K g))(hg:PG X tg (Ma X.K n (M3 is)))(hn:n=is.length:=by rfl)
  (hdb:(x==("__debug__":Str))=aJ:=by decide)(he:bJ (e::es) X.env=(aJ,eval e X.env)::bJ es X.env:=by rfl)(hpl:(gH pc (bJ es X.env)).any (·.1)=aJ:=by rfl)
  (hs:wX [tg] (.Call (.Name x p) (e::es) [] pc) pos.line X.env=pure aJ:=by rfl)(hw:wY [tg] (.Call (.Name x p) (e::es) [] pc) X.env=pure aj:=by rfl)(h1:(rT [tg] X.env).map (·.2)=[assign tg X.env]:=by rfl):
  PS X (.Assign [tg] (.Call (.Name x p) (e::es) [] pc) pos) (tS X.K (Vs f g is)):=(K5 (adq F hr hgl ha hdb he hpl) hg hs hw h1).weak λD σ H aP=>by
 obtain⟨Z,Θ,env,C,fl,env',C',S,hf,q⟩:=aP
 obtain⟨⟨xs,e1,C1⟩,h1,hf⟩:=kW.mp hf
 obtain⟨⟨r,C2⟩,h2,hf⟩:=kW.mp hf
 cases r<;>first|cases hf|skip
 rename_i p0 d0 q0;by_cases hl:is.length=(Nb p0 d0 q0).length
 case neg=>rw[Wz,bH hl] at hf;cases hf
 rw[Wz,bz hl] at hf;cases hf
 refine⟨Z,Θ,env,C,xs,e1,C1,S,h1,λvs H1 k1 f1 S1 a1=>?_⟩
 show spT X.K f (vs++[]) H1 _ E0;rw[lO];have e2:er (bf (Z++bU e1 σ) Θ [] []) H1=er (bf Z Θ e1 σ) H1:=qw Fd;rw[<-e2] at a1
 refine⟨Z++bU e1 σ,Θ,C1,xs,_,_,S1.bare,a1,h2,λv H2 k2 R=>?_⟩
 obtain⟨t,a,v1,us,rfl,ht,na,S2,rt,rp,rq⟩:=R
 have e3:er (bf (a::(Z++bU e1 σ)) Θ [] []) H2=er (bf (a::Z) Θ e1 σ) H2:=qw λb=>by
  show b∈a::bf (Z++bU e1 σ) Θ [] []↔b∈a::bf Z Θ e1 σ;rw[cB,cB,Fd]
 rw[e3] at rt rp rq;have fr:=ac3 (K:=X.K) (Θ:=Θ) rt rq rp;have l2:=BV fr
 refine⟨t,_,rfl,dj.of ht,by rw[l2,hn,hl],Tq (by rw[hl,l2]) ?_⟩
 obtain⟨S3,o3⟩:=Ky (as:=[a]) (Z:=Z) fr hl (bN.refl _) (S1.yc na k2 (S2.dom a dN) S2.cell)
 refine q Θ _ _ ⟨jZ.refl _ _,sy (k1.trans k2),λb m=>?_,S3⟩;rcases o3 b m with m|m
 .exact .inl (f1.own.subset m)
 .rw[iY.mp m];exact .inr (k1.none na)
end
theorem aoA(d:au):Di (.im d)=aJ:=rfl
theorem aoB(d:au):Di (.ow d)=aJ:=rfl
theorem aoC(n:Nat):Di (.ce n)=aJ:=rfl
section
variable{X:Cx}
theorem agE(hc:X.calm=ao):ie X (.builtin "sorted") (λxs H Q=>∃(d:aq)(kvs:List (Key×V))(ns:List Int),xs=[.ref d]/\H d=aa (.dK kvs)/\kvs.map (·.1)=ns.map .inl/\ns.length<64/\∀(l:aq)(ns':List Int),H l=aj->ns'.Perm ns->ns'.Pairwise (·<=·)->Q (.ref l) (upd H l (.lst (ns'.map V.int)))):=by
 intro pins s σ H xs us Q I r h
 obtain⟨d,kvs,ns,rfl,hd,hns,few,q⟩:=h
 obtain⟨u,rfl,ru⟩:=vals1 r
 cases ru
 obtain⟨z,lo,vs,rel,dd⟩:=I.hok d _ hd
 obtain⟨ep,da⟩:=dd.dictAt
 have lv:vs.length=kvs.length:=(Paired.length rel).symm;have ln:kvs.length=ns.length:=by have:=congrArg mq hns;simpa using this
 refine HN kind_sorted plain_sorted entry_sorted (args_sorted1 _) ?_;unfold lA.«sorted»;refine aG (m:=JF "sorted" 1 1 _) (bh (aG (Qg (A:=X.A.in1) (kdl_dict (knd:=jy X.prog X.w) (ep:=ep) lo) (I.ok.hd hc) da (by rw[lv];exact z) λh1 tk acc hsz kk hacc=>?_)));have hV:=abk (P:=X.prog) (w:=X.w) rel (us:=acc.toList) (by rw[j5];exact hacc.1) λi v e=>hacc.2 i v (by rw[<-Ak];exact e)
 have hV:Vals (ns.map V.int) acc.toList:=by
  rw[show ns.map V.int=(ns.map kZ).map kV by rw[dW];rfl,<-hns,dW];exact hV
 have hS:IntsAre acc.toList ns:=intsAre_of hV;have lu:acc.toList.length=ns.length:=by rw[<-hV.length,bw]
 refine aG (Ea ?_ (by rw[iK];lia));have gL:(h1.push (seqObj "list" acc.toList.toArray 0)).get? h1.objs.size=aa (seqObj "list" acc.toList.toArray 0):=iH _ rfl;refine aG (mV (nY slot_list_sort ⟨_,gL,rfl⟩ entry_list_sort (list_sort_tree gL hS (by lia) λout ns' b1 b2 b3=>⟨_,rfl,?_⟩) (args_list_sort _)))
 obtain⟨c,gD⟩:=sortedHeap_at (out:=out) gL
 have kb:∀b o,s.heap.get? b=aa o->(sortedHeap (h1.push (seqObj "list" acc.toList.toArray 0)) h1.objs.size acc.toList out).get? b=aa o:=λb o e=>by
  have lb:b<h1.objs.size:=cF (kk b o e);rw[sortedHeap_old (eO lb) (by rw[wV];exact wO lb)];exact cW _ (kk b o e)
 exact bh ⟨_,rfl,.ref h1.objs.size,_,I.laid (o:=.lst (ns'.map V.int)) (t':=tk) kb hsz ⟨by rw[bw,b2.length_eq,iK];lia,out.toList,c,JP b1,by rw[afE];exact gD⟩,rfl,q _ ns' (I.hok.fresh hsz) b2 b3⟩
def Fi:List au->Option Vl
 |[.dict kvs]=>(intsOf (kvs.map (·.1))).bind λns=>bif decide (ns.length<64) then aa (.ow (.list ((jX ltI ns).map .int))) else aj
 |_=>aj
theorem ai9{kvs:List (au×au)}{ns:List Int}(h:intsOf (kvs.map (·.1))=aa ns):cO cX kvs=aa (ns.map .inl):=by
 replace h:=RW h;induction kvs generalizing ns with
 |nil=>cases ns with
  |nil=>rfl
  |cons _ _=>cases h
 |cons p kvs ih=>cases ns with
  |nil=>cases h
  |cons n ns=>
   injection h with h1 h2
   rw[cO,ih h2,show p.1=_ from h1];rfl
theorem akf{K:aM}:lK K (λxs H Q=>∃(d:aq)(kvs:List (Key×V))(ns:List Int),xs=[.ref d]/\H d=aa (.dK kvs)/\kvs.map (·.1)=ns.map .inl/\ns.length<64/\∀(l:aq)(ns':List Int),H l=aj->ns'.Perm ns->ns'.Pairwise (·<=·)->Q (.ref l) (upd H l (.lst (ns'.map V.int)))) Fi:=by
 intro Z Θ env C σ H xs ds res S b e Q q;refine hide λGG gg=>?_
 unfold Fi at e;split at e
 case h_2=>cases e
 rename_i kvs
 obtain⟨ns,hns,e⟩:=jz e
 cases hl:decide (ns.length<64) with
 |false=>rw[hl] at e;cases e
 |true=>
 rw[hl] at e;cases e;have hl:=of_decide_eq_true hl
 obtain⟨v,rfl,bb⟩:=ou b
 obtain⟨a,vs,rfl,da,r⟩:=bb.dct
 have hk:=ai9 hns;rcases da with⟨ks,h1,ha⟩|⟨ks,⟨ne,h2⟩,ha⟩
 .rw[hk] at h1;cases h1;have lz:vs.length=(ns.map (kZ:Int->Key)).length:=by rw[zy r,uz hk]
  refine gg ⟨a,_,ns,rfl,ha,by rw[Yc (by lia)],hl,λl ns' hn p hp=>?_⟩;rw[sortI p hp];exact q _ _ (aZ.upd hn) (oO S (aaT _) hn)
 .exact absurd (vA hk h2) ne
end
end L2
namespace WD
open PySem L2
abbrev zaa:List Str:=["house","part","outer","over"]
abbrev zab:List Str:=["house","part"]
abbrev zac:List Str:=["house","paper","holder","signer","day"]
abbrev zad:List Str:=["house","paper","holder","signer","day","row","ways"]
abbrev zae:List Str:=["ways","number","holder","signer","others"]
abbrev zaf:List Str:=["ways","number","holder","signer"]
abbrev zag:List Str:=["paper","person"]
abbrev zah:List Str:=["house","paper","day","over"]
abbrev zai:List Str:=["house","paper","day"]
abbrev zaj:List Str:=["ways","holder","signer"]
abbrev zak:List Str:=["ways","steps","person"]
abbrev zal:List Str:=["ways","signer","steps","newest","many","person"]
abbrev zam:List Str:=["ways","signer"]
abbrev zan:List Str:=["_law_cell","_law_k"]
abbrev zao:List Str:=["_law_script","_law_k"]
abbrev zap:List Str:=["_law_left","_law_many"]
abbrev zaq:List Str:=["_law_found","_law_due"]
abbrev zar:List Str:=["_law_left","_law_many","_law_letters","_law_head","_law_tail","_law_first","_law_by","_law_stem","_law_found","_law_size","_law_k","_law_value","_law_two"]
abbrev zas:List Str:=["_law_left","_law_things"]
abbrev zat:List Str:=["_law_left"]
abbrev zau:List Str:=["_law_left","_law_names"]
abbrev zav:List Str:=["_law_parts","_law_part"]
abbrev zaw:List Str:=["_law_left","_law_parts","_law_people","_law_many","_law_paper","_law_day"]
abbrev zax:List Str:=["_law_parts","_law_leaves"]
abbrev zay:List Str:=["_law_left","_law_most"]
abbrev zaz:List Str:=["_law_parts","_law_paper","_law_day","_law_leave"]
abbrev za0:List Str:=["_law_parts","_law_leaves","_law_paper","_law_holder","_law_day","_law_steps","_law_best","_law_turn","_law_leave","_law_row","_law_old"]
abbrev za1:List Str:=["_law_parts","_law_leaves","_law_paper","_law_holder","_law_day"]
abbrev za2:List Str:=["_law_script","_law_k","_law_left","_law_parts","_law_people","_law_leaves","_law_paper","_law_day","_law_leave","_law_house","_law_some","_law_holder","_law_rows","_law_lost","_law_without","_law_signer","_law_due","_law_turn","_law_found"]
abbrev za3:List Str:=["_law_script"]
abbrev za4:List Str:=["number","giver","taker"]
abbrev za5:List Str:=["_law_letters","_law_left"]
abbrev za6:List Str:=["_law_k"]
abbrev za7:List Str:=["_law_leave"]
def top(i:Nat):dM:=PySem.Challenge.pw_rankseals_k20_leaves_in_all_rows.main.body.getD i (.Pass ⟨0,0,0,0⟩)
abbrev Jk:dM:=top 1
theorem Ja:iQ zaa zab (dw Jk):=⟨rfl,rfl,rfl,by decide +kernel,rfl,by decide +kernel,by decide +kernel⟩
abbrev Sq:dM:=top 3
theorem aja:iQ zac zac (dw Sq):=⟨rfl,rfl,rfl,by decide +kernel,rfl,by decide +kernel,by decide +kernel⟩
abbrev Ir:dM:=top 4
theorem Og:iQ zad zac (dw Ir):=⟨rfl,rfl,rfl,by decide +kernel,rfl,by decide +kernel,by decide +kernel⟩
abbrev Jr:dM:=top 5
theorem Zh:iQ zae zaf (dw Jr):=⟨rfl,rfl,rfl,by decide +kernel,rfl,by decide +kernel,by decide +kernel⟩
abbrev Rb:dM:=top 6
theorem aic:iQ zag zag (dw Rb):=⟨rfl,rfl,rfl,by decide +kernel,rfl,by decide +kernel,by decide +kernel⟩
abbrev JX:dM:=top 7
theorem Z2:iQ zah zai (dw JX):=⟨rfl,rfl,rfl,by decide +kernel,rfl,by decide +kernel,by decide +kernel⟩
abbrev Qi:dM:=top 8
theorem Ed:iQ (["ways","holder","signer","steps","row","number"]:List Str) zaj (dw Qi):=⟨rfl,rfl,rfl,by decide +kernel,rfl,by decide +kernel,by decide +kernel⟩
abbrev Jl:dM:=top 9
theorem agR:iQ zak zak (dw Jl):=⟨rfl,rfl,rfl,by decide +kernel,rfl,by decide +kernel,by decide +kernel⟩
abbrev JG:dM:=top 10
theorem zg:iQ zal zam (dw JG):=⟨rfl,rfl,rfl,by decide +kernel,rfl,by decide +kernel,by decide +kernel⟩
abbrev U4:dM:=top 12
theorem acj:iQ (["_law_cell","_law_k","_law_m"]:List Str) zan (dw U4):=⟨rfl,rfl,rfl,by decide +kernel,rfl,by decide +kernel,by decide +kernel⟩
abbrev Pn:dM:=top 13
theorem YF:iQ (["_law_script","_law_k","_law_cell"]:List Str) zao (dw Pn):=⟨rfl,rfl,rfl,by decide +kernel,rfl,by decide +kernel,by decide +kernel⟩
abbrev T3:dM:=top 14
theorem abm:iQ (["_law_left","_law_many","_law_digit"]:List Str) zap (dw T3):=⟨rfl,rfl,rfl,by decide +kernel,rfl,by decide +kernel,by decide +kernel⟩
abbrev Fj:dM:=top 15
theorem akg:iQ zaq zaq (dw Fj):=⟨rfl,rfl,rfl,by decide +kernel,rfl,by decide +kernel,by decide +kernel⟩
abbrev wZ:dM:=top 16
theorem qg:iQ zar zap (dw wZ):=⟨rfl,rfl,rfl,by decide +kernel,rfl,by decide +kernel,by decide +kernel⟩
abbrev Qj:dM:=top 17
theorem Zi:iQ (["_law_left","_law_things","_law_rest","_law_found"]:List Str) zas (dw Qj):=⟨rfl,rfl,rfl,by decide +kernel,rfl,by decide +kernel,by decide +kernel⟩
abbrev Qk:dM:=top 18
theorem Zj:iQ (["_law_left","_law_first"]:List Str) zat (dw Qk):=⟨rfl,rfl,rfl,by decide +kernel,rfl,by decide +kernel,by decide +kernel⟩
abbrev Ql:dM:=top 19
theorem ahf:iQ zat zat (dw Ql):=⟨rfl,rfl,rfl,by decide +kernel,rfl,by decide +kernel,by decide +kernel⟩
abbrev Pq:dM:=top 20
theorem IK:iQ (["_law_left","_law_names","_law_found","_law_k","_law_name"]:List Str) zau (dw Pq):=⟨rfl,rfl,rfl,by decide +kernel,rfl,by decide +kernel,by decide +kernel⟩
abbrev Pr:dM:=top 21
theorem O4:iQ (["_law_parts","_law_part","_law_found"]:List Str) zav (dw Pr):=⟨rfl,rfl,rfl,by decide +kernel,rfl,by decide +kernel,by decide +kernel⟩
abbrev Rc:dM:=top 22
theorem JH:iQ (["_law_left","_law_many","_law_found","_law_last","_law_k"]:List Str) zap (dw Rc):=⟨rfl,rfl,rfl,by decide +kernel,rfl,by decide +kernel,by decide +kernel⟩
abbrev O5:dM:=top 23
theorem vg:iQ (["_law_left","_law_parts","_law_people","_law_many","_law_paper","_law_day","_law_found","_law_over","_law_number","_law_at","_law_to","_law_part","_law_days","_law_most"]:List Str) zaw (dw O5):=⟨rfl,rfl,rfl,by decide +kernel,rfl,by decide +kernel,by decide +kernel⟩
abbrev Qm:dM:=top 24
theorem ahg:iQ zax zax (dw Qm):=⟨rfl,rfl,rfl,by decide +kernel,rfl,by decide +kernel,by decide +kernel⟩
abbrev T4:dM:=top 25
theorem vB:iQ (["_law_left","_law_most","_law_names","_law_parts","_law_people","_law_some","_law_sides","_law_part","_law_paper","_law_day"]:List Str) zay (dw T4):=⟨rfl,rfl,rfl,by decide +kernel,rfl,by decide +kernel,by decide +kernel⟩
abbrev T5:dM:=top 26
theorem akh:iQ zaz zaz (dw T5):=⟨rfl,rfl,rfl,by decide +kernel,rfl,by decide +kernel,by decide +kernel⟩
abbrev Js:dM:=top 27
theorem Ef:iQ za0 za1 (dw Js):=⟨rfl,rfl,rfl,by decide +kernel,rfl,by decide +kernel,by decide +kernel⟩
abbrev Gw:dM:=top 28
theorem mD:iQ za2 za3 (dw Gw):=⟨rfl,rfl,rfl,by decide +kernel,rfl,by decide +kernel,by decide +kernel⟩
structure Txt(K:aM)(mg:Str->Option Value):Prop where
 LC:mg "abs"=aj
 Vt:mg "all"=aj
 Gb:mg "bool"=aj
 Qn:mg "enumerate"=aj
 Dd:mg "int"=aj
 pL:mg "isinstance"=aj
 mH:mg "len"=aj
 Cv:mg "list"=aj
 Vu:mg "max"=aj
 zT:mg "min"=aj
 qt:mg "range"=aj
 xF:mg "sorted"=aj
 Gx:mg "str"=aj
 zE:mg "tuple"=aj
 Vv:mg "zip"=aj
@[reducible] def Yo:FT:=(dI (aO jY (aK 1) (aK 2)))
@[reducible] def Yp:FS:=(bK (lG 3 (aU 1)) (di 1 (aO bQ (aK 2) (aK 1))))
@[reducible] def Ov:FE:=(aU 0)
@[reducible] def Ow:FE:=(aU 1)
@[reducible] def PN:FS:=(bK (di 2 (Ho (Ag (az (aO bQ (aK 0) (az (aN (.int 0)))))) (.many 2) jB Ov Ow [])) (bK (di 3 (jh aY)) (bK (uc Yo Yp) (oX 3))))
def Jm:FN:=fN 2 4 PN
@[reducible] def Rf:FS:=(iC (aO jY (aK 1) (az (gF (aK 0) (fO (az (aN (.int 2)))) (fO (az (aN (.int 4))))))))
def xu:FN:=fN 2 2 Rf
@[reducible] def PX:FT:=(nH (dI (aO jY (aK 3) (aK 7))) (nH (dI (yt qG qG (aK 4) (aK 8) (aK 5))) (nH (dI (aO qG (az (aO bQ (aK 9) (az (aN (.int 1))))) (aK 6))) (nH (xZ (pW (az (bM xu (aH (aU 9) (aH (aU 1) aY)))))) (xZ (pW (az (bM xu (aH (aU 9) (aH (aU 2) aY))))))))))
@[reducible] def P0:FE:=(mK (aH (aU 0) (aH (aU 1) (aH (aU 2) aY))))
@[reducible] def Rg:FS:=(bK (di 3 (bM Jm (aH (aU 0) (aH (aO bQ (aK 1) (az (aN (.int 0)))) aY)))) (iC (j0 (Ag (az (aO bQ (aK 0) (az (aN (.int 2)))))) (.many 7) PX P0 [3,2,1])))
def zp:FN:=fN 3 4 Rg
@[reducible] def Y0:FS:=(o9 2 (aK 5) (aU 4))
@[reducible] def Y4:FT:=(nH (dI (aO jY (aK 2) (aK 3))) (dI (aO uD (aK 1) (aK 4))))
@[reducible] def Y5:FE:=(aU 1)
@[reducible] def Y6:FT:=(pW (aK 3))
@[reducible] def Y7:FS:=(bK (Mq 4 (az (aN (.int 1)))) (bK (di 3 (Hq (Ag (aK 0)) (.many 3) Y4 Y5 [3,2])) (iT (iV (aU 3)) (fJ 5) Y0)))
@[reducible] def QJ:FS:=(bK (di 2 (CW (aK 1) (aN (.int 0)))) (bK (di 3 (jh (aH (aU 1) aY))) (bK (di 4 (aN (.int 0))) (bK (uc Y6 Y7) (oX 2)))))
def JK:FN:=fN 2 6 QJ
@[reducible] def Yq:FT:=(nH (dI (aO m5 (aK 1) (aK 3))) (nH (dI (aO jY (aK 2) (aK 4))) (dI (aO vU (az (aO bQ (aK 4) (aK 2))) (az (aO bQ (aK 4) (aK 3)))))))
@[reducible] def Yr:FE:=(mK (aH (aU 0) (aH (aU 2) aY)))
@[reducible] def Qa:FS:=(iC (fX Lg (dJ (az (j0 (Ag (aK 0)) (.many 3) Yq Yr [2,1])) fQ)))
def Jo:FN:=fN 3 3 Qa
@[reducible] def YG:FT:=(dI (aO lV (aK 1) (aK 2)))
@[reducible] def YH:FS:=(bK (Mp (bM Jo (aH (aU 0) (aH (aU 3) (aH (aU 1) aY)))) (Dt 2 (vH (fJ 5) (vH (fJ 1) CP)))) (lG 4 (aU 5)))
@[reducible] def Jt:FS:=(bK (di 3 (bM JK (aH (aU 0) (aH (aU 2) aY)))) (bK (jF (dI (aO uD (aK 1) (aK 3))) (iC (aN .none)) jW) (bK (di 4 (jh aY)) (bK (uc YG YH) (oX 4)))))
def Bj:FN:=fN 3 6 Jt
@[reducible] def Ex:FS:=(bK (jF (tO (pW (az (bM xu (aH (aU 1) (aH (aU 2) aY))))) (pW (az (bM xu (aH (aU 1) (aH (aU 3) aY)))))) (iC (aN .none)) jW) (iC (bM Bj (aH (bM zp (aH (aU 0) (aH (aU 1) (aH (aU 4) aY)))) (aH (aU 2) (aH (aU 3) aY))))))
def Km:FN:=fN 5 5 Ex
@[reducible] def O6:FT:=(dI (aO lV (az (aO bQ (aK 0) (az (aN (.int 0))))) (aK 1)))
@[reducible] def O7:FE:=(aU 0)
@[reducible] def Ju:FS:=(bK (di 4 (j0 (iB (aK 0)) .one O6 O7 [1])) (iC (aO pR (az (bM Bj (aH (aU 4) (aH (aU 2) (aH (aU 3) aY))))) (az (aN .none)))))
def Ei:FN:=fN 4 5 Ju
@[reducible] def Xy:FT:=(pW (az (bM Ei (aH (aU 1) (aH (aU 0) (aH (aU 2) (aH (aU 3) aY)))))))
@[reducible] def Xz:FE:=(aU 0)
@[reducible] def Iu:FS:=(bK (di 5 (bM Km (aH (aU 0) (aH (aU 1) (aH (aU 2) (aH (aU 3) (aH (aU 4) aY))))))) (bK (jF (dI (aO pR (aK 5) (az (aN .none)))) (iC (jh aY)) jW) (bK (di 6 (bM zp (aH (aU 0) (aH (aU 1) (aH (aU 4) aY))))) (iC (j0 (iB (az (fX KH (dJ (aK 5) fQ)))) .one Xy Xz [6,2,3])))))
def DQ:FN:=fN 5 7 Iu
@[reducible] def U5:FS:=(bK (di 2 (aO lD (az (aO jV (az (aO cG (az (aO cG (az (aO lD (aK 0) (az (aN (.int 2147483629))))) (az (aO jV (az (aO jV (aK 1) (aK 1))) (az (aN (.int 7919))))))) (az (aN (.int 11))))) (az (aN (.int 48271))))) (az (aN (.int 2147483647))))) (iC (aO lD (az (aO jV (aK 2) (aK 2))) (az (aN (.int 1999999973))))))
def Gd:FN:=fN 2 3 U5
@[reducible] def Pu:FS:=(bK (di 2 (zY (dI (aO vU (aK 1) (az (ye 0)))) (GF 0 (aK 1)) (aN (.int 0)))) (iC (jh (aH (aO bQ (az (jh (aH (aN (.int 0)) (aH (fX Gk (dJ (aK 2) fQ)) aY)))) (az (fX yf (dJ (az (aO Mh (az (fX Gk (dJ (aK 2) fQ))) (az (aO xY (az (aN (.int 10))) (az (aN (.int 18))))))) fQ)))) (aH (aO cG (aK 2) (az (aO jV (az (aN (.int 1000003))) (aK 1)))) (aH (aN (.int 0)) aY))))))
def Jb:FN:=fN 2 3 Pu
@[reducible] def KR:FS:=(bK (o9 0 (az (aN (.int 2))) (aO cG (az (tU 0 (az (aN (.int 2))))) (az (aN (.int 1))))) (bK (jF (dI (aO vV (az (tU 0 (az (aN (.int 0))))) (az (aN (.int 0))))) (bK (di 2 (aO lD (az (tU 0 (az (aN (.int 0))))) (aK 1))) (bK (o9 0 (az (aN (.int 0))) (aO xO (az (tU 0 (az (aN (.int 0))))) (aK 1))) (oX 2))) jW) (iC (aO lD (az (aO xO (az (bM Gd (aH (bM Gd (aH (tU 0 (az (aN (.int 1)))) (aH (tU 0 (az (aN (.int 2)))) aY))) (aH (aO cG (az (tU 0 (az (aN (.int 2))))) (az (aN (.int 64)))) aY)))) (az (aN (.int 64))))) (aK 1)))))
def cC:FN:=fN 2 3 KR
@[reducible] def Z3(T6:FN):FE:=(bM T6 (aH (aU 0) (aH (aU 1) aY)))
@[reducible] def KY(T6:FN):FS:=(bK (jF (pW (az (Gn "list" "tuple" (aK 1)))) (bK (jF (tO (dI (aO lV (az (pA "list" (aK 0))) (az (pA "list" (aK 1))))) (dI (aO lV (az (pA "tuple" (aK 0))) (az (pA "tuple" (aK 1)))))) (iC (aN (.bool aJ))) jW) (iC (sZ (aO m5 (az (fX lF (dJ (aK 0) fQ))) (az (fX lF (dJ (aK 1) fQ)))) (fX Gm (dJ (az (j0 (M6 (dJ (aK 0) (dJ (aK 1) fQ))) (.many 2) jB (Z3 T6) [])) fQ))))) jW) (bK (jF (tO (dI (aO pR (aK 1) (az (aN .none)))) (pW (az (pA "str" (aK 1))))) (iC (sZ (aO m5 (aK 0) (aK 1)) (aO m5 (az (pA "str" (aK 0))) (az (pA "str" (aK 1)))))) jW) (bK (jF (pW (az (pA "bool" (aK 1)))) (iC (sZ (pA "bool" (aK 0)) (aO m5 (aK 0) (aK 1)))) jW) (iC (sZ (pA "int" (aK 0)) (sZ (Lr (pA "bool" (aK 0))) (aO m5 (aK 0) (aK 1))))))))
def uE:Nat->FN
 |0=>Vm
 |n+1=>fN 2 2 (KY (uE n))
@[reducible] def Ar:FS:=(bK (di 11 (aO lD (az (aO cG (aK 5) (az (aO jV (aK 6) (aK 10))))) (az (aN (.int 676))))) (bK (di 12 (aO cG (az (aO bQ (aK 2) (az (aO xO (aK 11) (az (aN (.int 26))))))) (az (aO bQ (aK 2) (az (aO lD (aK 11) (az (aN (.int 26))))))))) (lG 8 (aO cG (az (aO cG (aK 3) (aK 12))) (az (gF (aK 4) jl (fO (az (aO lD (az (aO cG (az (aO jV (aK 10) (aK 10))) (aK 5))) (az (aN (.int 4))))))))))))
@[reducible] def Il:FE:=(aO bQ (aK 1) (az (aO lD (az (aO cG (aK 2) (az (aO jV (aK 3) (aK 0))))) (az (aN (.int 26))))))
@[reducible] def Oh:FE:=(gF (aK 1) (fO (aK 0)) (fO (az (aO cG (aK 0) (aK 2)))))
@[reducible] def Av:FS:=(Mr 8 (az (j0 (ju (az (aO xX (az (aN (.int 9))) (aK 9)))) .one jB Oh [7,9])))
@[reducible] def Im:FE:=(aO bQ (aK 1) (az (aO lD (az (aO cG (aK 2) (az (aO jV (az (aN (.int 5))) (aK 0))))) (az (aN (.int 26))))))
@[reducible] def Oi:FE:=(aO bQ (aK 1) (az (bM cC (aH (aU 2) (aH (aN (.int 26)) aY)))))
@[reducible] def Oj:FE:=(aO bQ (aK 1) (az (bM cC (aH (aU 2) (aH (aN (.int 26)) aY)))))
@[reducible] def Ec:FS:=(bK (di 2 (aN (.str (gf "abcdefghijklmnopqrstuvwxyz")))) (bK (di 3 (tD (az (aN (.str (gf "")))) (az (j0 (ju (az (bM cC (aH (aU 0) (aH (aN (.int 4)) aY))))) .one jB Oj [2,0])))) (bK (di 4 (tD (az (aN (.str (gf "")))) (az (j0 (ju (az (bM cC (aH (aU 0) (aH (aN (.int 4)) aY))))) .one jB Oi [2,0])))) (bK (lW [5,6] (gK (bM cC (aH (aU 0) (aH (aN (.int 676)) aY))) (gK (aO bQ (az (jh (aH (aN (.int 1)) (aH (aN (.int 3)) (aH (aN (.int 5)) (aH (aN (.int 7)) (aH (aN (.int 25)) (aH (aN (.int 675)) aY)))))))) (az (bM cC (aH (aU 0) (aH (aN (.int 6)) aY))))) aY))) (bK (jF (dI (aO m5 (az (bM cC (aH (aU 0) (aH (aN (.int 4)) aY)))) (az (aN (.int 0))))) (bK (lW [7,8] (gK (tD (az (aN (.str (gf "")))) (az (j0 (ju (az (aN (.int 8)))) .one jB Im [2,5]))) (gK (jh aY) aY))) (bK (iT (GP (az (aN (.int 1))) (az (aN (.int 9)))) (fJ 9) Av) (iC (gF (aK 8) jl (fO (aK 1)))))) jW) (bK (jF (nH (dI (aO vU (aK 1) (az (aN (.int 27))))) (dI (aO m5 (az (bM cC (aH (aU 0) (aH (aN (.int 3)) aY)))) (az (aN (.int 0)))))) (iC (j0 (ju (aK 1)) .one jB Il [2,5,6])) jW) (bK (di 8 (jh aY)) (bK (iT (ju (aK 1)) (fJ 10) Ar) (oX 8)))))))))
def Jc:FN:=fN 2 13 Ec
@[reducible] def YJ:FT:=(dI (aO lV (aK 2) (az (jh aY))))
@[reducible] def YK:FS:=(Vq 3 2 (az (bM cC (aH (aU 0) (aH (fX lF (dJ (aK 2) fQ)) aY)))))
@[reducible] def Qo:FS:=(bK (lW [2,3] (gK (fX KD (dJ (aK 1) fQ)) (gK (jh aY) aY))) (bK (uc YJ YK) (oX 3)))
def Ej:FN:=fN 2 4 Qo
@[reducible] def Qp:FS:=(bK (di 1 (aO bQ (az (jh (aH (bM cC (aH (aU 0) (aH (aN (.int 9)) aY))) (aH (bM cC (aH (aU 0) (aH (aN (.int 9)) aY))) (aH (aO xX (az (aN (.int 99990))) (az (bM cC (aH (aU 0) (aH (aN (.int 9)) aY))))) aY))))) (az (bM cC (aH (aU 0) (aH (aN (.int 3)) aY)))))) (iC (mK (aH (aU 1) (aH (fX uK (dJ (az (aN (.int 99999))) (dJ (az (aO cG (aK 1) (az (aO bQ (az (jh (aH (aN (.int 0)) (aH (bM cC (aH (aU 0) (aH (aN (.int 12)) aY))) (aH (aN (.int 99999)) aY))))) (az (bM cC (aH (aU 0) (aH (aN (.int 3)) aY)))))))) fQ))) aY)))))
def Bm:FN:=fN 1 2 Qp
@[reducible] def Qq:FS:=(iC (aO bQ (az (jh (aH (bM cC (aH (aU 0) (aH (aN (.int 4)) aY))) (aH (aO cG (az (aN (.int 100))) (az (bM cC (aH (aU 0) (aH (aN (.int 4)) aY))))) (aH (aO xX (az (aO xY (az (aN (.int 10))) (az (aN (.int 9))))) (az (bM cC (aH (aU 0) (aH (aN (.int 3)) aY))))) aY))))) (az (bM cC (aH (aU 0) (aH (aN (.int 3)) aY))))))
def Bo:FN:=fN 1 1 Qq
@[reducible] def DP:FS:=(o9 2 (aK 4) (aO bQ (az (aO cG (az (jh (aH (aN (.str (gf ""))) aY))) (az (gF (aK 1) jl (fO (aK 3)))))) (az (zY (dI (aO vV (az (bM cC (aH (aU 0) (aH (aN (.int 4)) aY)))) (az (aN (.int 0))))) (bM cC (aH (aU 0) (aH (aO cG (aK 3) (az (aN (.int 1)))) aY))) (aN (.int 0))))))
@[reducible] def Px:FS:=(bK (di 2 xP) (bK (iT (M9 (aU 1)) (Dt 2 (vH (fJ 3) (vH (fJ 4) CP))) DP) (oX 2)))
def Jd:FN:=fN 2 5 Px
@[reducible] def Yg:FT:=(dI (aO jY (aK 1) (aK 0)))
@[reducible] def Yh:FS:=(bK (lG 2 (aU 1)) (di 1 (aO bQ (aK 0) (aK 1))))
@[reducible] def Py:FS:=(bK (di 2 (jh aY)) (bK (uc Yg Yh) (oX 2)))
def Bc:FN:=fN 2 3 Py
@[reducible] def Qc:FS:=(bK (lG 2 (aU 3)) (di 3 (aO cG (az (aO cG (aK 3) (az (aN (.int 1))))) (az (aO jV (az (bM cC (aH (aU 0) (aH (aN (.int 2)) aY)))) (az (bM cC (aH (aU 0) (aH (aN (.int 3)) aY)))))))))
@[reducible] def Rh:FS:=(bK (lW [2,3] (gK (jh aY) (gK (bM cC (aH (aU 0) (aH (aN (.int 3)) aY))) aY))) (bK (iT (ju (aK 1)) (fJ 4) Qc) (oX 2)))
def JZ:FN:=fN 2 5 Rh
@[reducible] def yR:FS:=(bK (di 9 (bM cC (aH (aU 0) (aH (fX lF (dJ (aK 2) fQ)) aY)))) (bK (di 10 (aO lD (az (aO cG (az (aO cG (aK 9) (az (aN (.int 1))))) (az (aO jV (az (bM cC (aH (aU 0) (aH (aO xX (az (fX lF (dJ (aK 2) fQ))) (az (aN (.int 1)))) aY)))) (az (bM cC (aH (aU 0) (aH (aN (.int 2)) aY)))))))) (az (fX lF (dJ (aK 2) fQ))))) (bK (lW [11,12,13] (gK (aO bQ (az (fX Fg (dJ (aK 1) fQ))) (az (bM cC (aH (aU 0) (aH (fX lF (dJ (aK 1) fQ)) aY))))) (gK (bM Bm (aH (aU 0) aY)) (gK (bM Bo (aH (aU 0) aY)) aY)))) (bK (jF (nH (dI (aO vV (az (bM cC (aH (aU 0) (aH (aN (.int 3)) aY)))) (az (aN (.int 0))))) (dI (aO lV (aK 7) (az (jh aY))))) (bK (di 11 (aO bQ (aK 7) (az (bM cC (aH (aU 0) (aH (fX lF (dJ (aK 7) fQ)) aY)))))) (bK (di 12 (mK (aH (fX Cu (dJ (az (aN (.int 0))) (dJ (az (aO xX (aK 5) (az (bM cC (aH (aU 0) (aH (aN (.int 2)) aY)))))) fQ))) (aH (fX uK (dJ (az (aN (.int 99999))) (dJ (az (aO cG (aK 5) (az (bM cC (aH (aU 0) (aH (aN (.int 2)) aY)))))) fQ))) aY)))) (di 13 (fX uK (dJ (az (aO xY (az (aN (.int 10))) (az (aN (.int 9))))) (dJ (az (aO cG (az (aO bQ (aK 4) (az (aN (.int 1))))) (az (bM cC (aH (aU 0) (aH (aN (.int 2)) aY)))))) fQ)))))) jW) (lG 6 (aO cG (az (aO cG (az (mK (aH (aU 8) (aH (aO bQ (aK 2) (aK 9)) (aH (aO bQ (aK 2) (aK 10)) (aH (aU 11) aY)))))) (aK 12))) (az (mK (aH (aU 13) aY)))))))))
@[reducible] def O8:FS:=(bK (lW [6,7] (gK (jh aY) (gK (bM Bc (aH (aU 1) (aH (aO bQ (aK 4) (az (aN (.int 0)))) aY))) aY))) (bK (iT (iV (bM JZ (aH (aU 0) (aH (aO jV (aK 3) (az (fX yf (dJ (az (aO vV (az (fX lF (dJ (aK 2) fQ))) (az (aN (.int 1))))) fQ)))) aY)))) (fJ 8) yR) (oX 6)))
def IV:FN:=fN 6 14 O8
@[reducible] def Qs:FS:=(iC (mK (aH (fX Fe (dJ (az (TX (aK 0))) fQ)) (aH (mK aY) (aH (fX Fe (dJ (aK 1) fQ)) (aH (mK aY) aY))))))
def Jv:FN:=fN 2 2 Qs
@[reducible] def T7:FS:=(bK (di 2 (bM Jc (aH (aU 0) (aH (aN (.int 24)) aY)))) (bK (di 3 (bM Jd (aH (aU 0) (aH (gF (aK 2) jl (fO (az (aO cG (az (aN (.int 1))) (az (bM cC (aH (aU 0) (aH (aN (.int 8)) aY)))))))) aY)))) (bK (di 4 (gF (aK 2) (fO (az (aN (.int 2)))) (fO (az (aO cG (az (aO cG (az (aN (.int 2))) (az (aN (.int 2))))) (az (bM cC (aH (aU 0) (aH (aO bQ (az (jh (aH (aN (.int 4)) (aH (aN (.int 9)) (aH (aN (.int 16)) aY))))) (az (bM cC (aH (aU 0) (aH (aN (.int 3)) aY))))) aY))))))))) (bK (di 5 (aO cG (aK 4) (az (gF (aK 2) (fO (az (aN (.int 18)))) (fO (az (aN (.int 20)))))))) (bK (di 6 (mK (aH (aO bQ (aK 5) (az (bM cC (aH (aU 0) (aH (fX lF (dJ (aK 5) fQ)) aY))))) (aH (aO bQ (aK 5) (az (bM cC (aH (aU 0) (aH (fX lF (dJ (aK 5) fQ)) aY))))) aY)))) (bK (jF (dI (aO vV (az (bM cC (aH (aU 0) (aH (aN (.int 3)) aY)))) (az (aN (.int 0))))) (di 6 (mK (aH (aO bQ (aK 2) (az (aN (.int 20)))) (aH (aO bQ (aK 2) (az (aO cG (az (aN (.int 20))) (az (bM cC (aH (aU 0) (aH (aN (.int 2)) aY))))))) aY)))) jW) (bK (di 7 (aO bQ (az (aO cG (az (fX Fg (dJ (aK 3) fQ))) (az (gF (aK 2) (fO (az (aN (.int 22)))) (fO (az (aN (.int 23)))))))) (az (bM cC (aH (aU 0) (aH (aO cG (az (fX lF (dJ (aK 3) fQ))) (az (fX yf (dJ (az (aO m5 (az (bM cC (aH (aU 0) (aH (aN (.int 9)) aY)))) (az (aN (.int 0))))) fQ)))) aY)))))) (bK (lW [8,9] (gK (aO cG (az (mK (aH (aU 7) (aH (bM Bo (aH (aU 0) aY)) aY)))) (aK 6)) (gK (aO bQ (az (bM Bm (aH (aU 0) aY))) (az (bM cC (aH (aU 0) (aH (aN (.int 2)) aY))))) aY))) (Vr (gK (aU 3) (gK (aU 4) (gK (bM IV (aH (aU 0) (aH (aU 3) (aH (aU 4) (aH (bM cC (aH (aU 0) (aH (aO cG (aK 1) (az (aN (.int 1)))) aY))) (aH (aU 8) (aH (aU 9) aY))))))) (gK (aU 8) (gK (aU 9) aY))))))))))))))
def Fo:FN:=fN 2 10 T7
@[reducible] def BX:FS:=(bK (jF (tO (dI (aO jY (az (aO bQ (aK 3) (az (aN (.int 1))))) (az (gF (aK 1) (fO (az (aN (.int 2)))) jl)))) (tO (dI (aO jY (az (aO bQ (aK 3) (az (aN (.int 2))))) (az (gF (aK 1) (fO (az (aN (.int 2)))) jl)))) (dI (aO uD (az (aO bQ (aK 3) (az (aN (.int 3))))) (az (bM Bc (aH (aU 0) (aH (aO bQ (aK 1) (az (aN (.int 0)))) aY)))))))) (iC (aN (.bool aJ))) jW) (iC (sZ (yt qG qG (az (aO bQ (aK 3) (az (aN (.int 4))))) (aK 2) (az (aO bQ (aK 3) (az (aN (.int 5)))))) (aO qG (az (aO bQ (aK 1) (az (aN (.int 1))))) (az (aO bQ (aK 3) (az (aN (.int 6)))))))))
def KZ:FN:=fN 4 4 BX
@[reducible] def O9:FS:=(jF (dI (aO jY (az (aO bQ (aK 8) (az (aN (.int 1))))) (aK 6))) (bK (lW [9,10] (gK (aO cG (az (aO bQ (aK 6) (az (aO bQ (aK 8) (az (aN (.int 1))))))) (az (jh (aH (aO bQ (aK 8) (az (aN (.int 0)))) aY)))) (gK (Dk (aK 6) (az (aO bQ (aK 8) (az (aN (.int 2))))) (aN .none)) aY))) (jF (tO (dI (aO pR (aK 10) (az (aN .none)))) (dI (aO Gv (az (mK (aH (fX lF (dJ (aK 9) fQ)) (aH (aU 9) aY)))) (az (mK (aH (fX lF (dJ (aK 10) fQ)) (aH (aU 10) aY))))))) (o9 6 (az (aO bQ (aK 8) (az (aN (.int 2))))) (aU 9)) jW)) jW)
@[reducible] def YL:FS:=(iT (iV (aU 5)) (fJ 8) O9)
@[reducible] def Pa:FT:=(pW (az (bM KZ (aH (aU 1) (aH (aU 2) (aH (aU 3) (aH (aU 0) aY)))))))
@[reducible] def Pb:FE:=(aU 0)
@[reducible] def Jw:FS:=(bK (jF (dI (aO jY (aK 3) (az (gF (aK 2) (fO (az (aN (.int 2)))) jl)))) (iC xP) jW) (bK (lW [5,6] (gK (j0 (iB (aK 1)) .one Pa Pb [0,2,4]) (gK (CW (aK 3) (jh aY)) aY))) (bK (iT (ju (az (fX lF (dJ (aK 5) fQ)))) (fJ 7) YL) (oX 6))))
def Bp:FN:=fN 5 11 Jw
@[reducible] def abn:FS:=(bK (di 18 (bM DQ (aH (aU 9) (aH (aU 6) (aH (aU 11) (aH (aU 15) (aH (aU 7) aY))))))) (bK (jF (xZ (pW (az (bM (uE 3) (aH (aU 18) (aH (aU 16) aY)))))) (iC (aN (.bool aJ))) jW) (lG 18 (aN (.int 99)))))
@[reducible] def abo:FT:=(nH (dI (aO jY (aK 1) (aK 2))) (dI (aO uD (aK 1) (az (aO bQ (aK 3) (aK 0))))))
@[reducible] def abp:FE:=(aU 0)
@[reducible] def Ss:FS:=(bK (di 16 (j0 (iB (az (fX Fi (dJ (aK 13) fQ)))) .one abo abp [15,12,13])) (iT (ju (az (aN (.int 2)))) (fJ 17) abn))
@[reducible] def Su:FT:=(dI (aO lV (aK 0) (aK 1)))
@[reducible] def Sv:FE:=(aU 0)
@[reducible] def Sw:FS:=(bK (di 14 (j0 (iB (aK 5)) .one Su Sv [8])) (o9 13 (az (aO bQ (aK 8) (az (aN (.int 0))))) (bM Bp (aH (aU 3) (aH (aU 14) (aH (aU 6) (aH (aU 11) (aH (aU 7) aY))))))))
@[reducible] def Sx:FS:=(bK (lW [12,13] (gK (bM Bp (aH (aU 3) (aH (aU 5) (aH (aU 6) (aH (aU 11) (aH (aU 7) aY)))))) (gK xP aY))) (bK (iT (iV (aU 5)) (fJ 8) Sw) (iT (iV (aU 10)) (fJ 15) Ss)))
@[reducible] def Sy:FS:=(jF (dI (aO m5 (az (bM cC (aH (aU 2) (aH (aN (.int 2)) aY)))) (az (aN (.int 0))))) (lG 5 (aO cG (az (mK (aH (aO cG (az (aO cG (az (aO bQ (az (aO bQ (aK 5) (az (Mi (az (aN (.int 1))))))) (az (aN (.int 0))))) (az (aN (.int 1))))) (az (bM cC (aH (aU 2) (aH (aN (.int 3)) aY))))) aY))) (az (gF (aK 8) (fO (az (aN (.int 1)))) jl)))) jW)
@[reducible] def SJ:FS:=(bK (GC 2 (bM Jb (aH (aU 0) (aH (aU 1) aY)))) (bK (Vs Fo (aH (aU 2) (aH (aN (.int 12)) aY)) [3,4,5,6,7]) (bK (iT (iV (gF (aK 5) jl (fO (az (aN (.int 4)))))) (fJ 8) Sy) (bK (lW [9,10] (gK (bM Jv (aH (aU 3) (aH (aU 5) aY))) (gK (gF (az (bM Ej (aH (aU 2) (aH (aU 4) aY)))) jl (fO (az (aN (.int 6))))) aY))) (iT (iV (aU 10)) (fJ 11) Sx)))))
@[reducible] def Vw:FS:=(bK (iT (ju (az (aO cG (az (aN (.int 1))) (az (fX uK (dJ (az (aN (.int 4))) (dJ (az (ye 0)) fQ))))))) (fJ 1) SJ) (iC (aN (.bool ao))))
def De:FN:=fN 1 19 Vw
theorem agS{P:bL}{w:bI}{K:aM}{mg:Str->Option Value}{base:bC}{f:aq}{fd:dZ}(F:gC K "parts_over" "parts_over" Jk f fd)(T:Txt K mg):dX P w K mg base fZ 1 f fd zab (spT K Jm):=
 jA (body:=PN) F Ja λcdv A outer s H E hr=>(bW (aj1 (i:=2) (T:=(.many 2)) (NT:=(["name","within"]:List Str)) (NF:=([]:List Str)) (js:=[]) (o7.ok (N0:=zaa) (mL:=dw Jk) (by decide +kernel) rfl rfl) (⟨_,_,_,rfl,(.cons ⟨_,rfl⟩ (.cons ⟨_,rfl⟩ .nil)),rfl⟩) rfl hr.cj (Lw (aC (dF (dD hr.cj) dG (aQ (pv 0)) (aC (aV aX)) (λ_ _=>rfl)))) (λb=>⟨zB,(aW (pv 0)),(aW (pv 1))⟩) (by rfl) Ja.nd rfl rfl) (bW (gh (i:=3) Ja.nd rfl (dg rfl) (j8 bG)) (bW (Es mU (gq (sO hr.cj) sY (aQ (pv 1)) (aQ (pv 2)) (by with_unfolding_all rfl)) (bW (xQ (pv 3) (aW (pv 1))) (cN (gh (i:=1) Ja.nd rfl (dg rfl) (dF (dD hr.cj) dG (aQ (pv 2)) (aQ (pv 1)) (λ_ _=>rfl)))))) (cN (sE (pv 3))))))
theorem aid{P:bL}{w:bI}{K:aM}{mg:Str->Option Value}{base:bC}{f:aq}{fd:dZ}(F:gC K "is_side" "is_side" Rb f fd)(T:Txt K mg):dX P w K mg base fZ 1 f fd zag (spT K xu):=
 jA (body:=Rf) F aic λcdv A outer s H E hr=>(cN (jq (sI (sO hr.cj) sY (aQ (pv 1)) (aC (oZ (aQ (pv 0)) (lU (aC (aV aX))) (lU (aC (aV aX))))) (by with_unfolding_all rfl))))
theorem aie{P:bL}{w:bI}{K:aM}{mg:Str->Option Value}{base:bC}{f:aq}{fd:dZ}(F:gC K "ways_on" "ways_on" JX f fd)(T:Txt K mg)(Qd:dR P w K mg base "parts_over" 1 zab (spT K Jm))(xx:dR P w K mg base "is_side" 1 zag (spT K xu)):dX P w K mg base fZ 2 f fd zai (spT K zp):=
 jA (body:=Rg) F Z2 λcdv A outer s H E hr=>(bW (gh (i:=3) Z2.nd rfl (nF rfl) (bZ Qd (hr.mono (by decide)) rfl (aL (aW (pv 0)) (aL (dF (dD hr.cj) dG (aQ (pv 1)) (aC (aV aX)) (λ_ _=>rfl)) bG)))) (cN (jq (uP (T:=(.many 7)) (NT:=(["number","giver","taker","part","first","last","most"]:List Str)) (NF:=(["over","day","paper"]:List Str)) (js:=[3,2,1]) (o7.ok (N0:=zah) (mL:=dw JX) (by decide +kernel) rfl rfl) (⟨_,_,_,rfl,(.cons ⟨_,rfl⟩ (.cons ⟨_,rfl⟩ (.cons ⟨_,rfl⟩ (.cons ⟨_,rfl⟩ (.cons ⟨_,rfl⟩ (.cons ⟨_,rfl⟩ (.cons ⟨_,rfl⟩ .nil))))))),rfl⟩) rfl (Lw (aC (dF (dD hr.cj) dG (aQ (pv 0)) (aC (aV aX)) (λ_ _=>rfl)))) (λb=>⟨(xN (PW.pt (uJ (gq (sO hr.cj) sY (aQ (pv 3)) (aQ (pv 7)) (by with_unfolding_all rfl)) (uJ (amY Ck CK Ck CK (aQ (pv 4)) (aQ (pv 8)) (aQ (pv 5))) (uJ (gq Ck CK (aC (dF (dD hr.cj) dG (aQ (pv 9)) (aC (aV aX)) (λ_ _=>rfl))) (aQ (pv 6)) (gY _)) (uJ (Uv (sU (aC (bZ xx (hr.mono (by decide)) rfl (aL (aW (pv 9)) (aL (aW (pv 1)) bG)))))) (BR (Uv (sU (aC (bZ xx (hr.mono (by decide)) rfl (aL (aW (pv 9)) (aL (aW (pv 2)) bG))))))))))))),(oU (aL (aW (pv 0)) (aL (aW (pv 1)) (aL (aW (pv 2)) bG))))⟩)))))
theorem ahC{P:bL}{w:bI}{K:aM}{mg:Str->Option Value}{base:bC}{f:aq}{fd:dZ}(F:gC K "steps_to" "steps_to" JG f fd)(T:Txt K mg):dX P w K mg base fZ 1 f fd zam (spT K JK):=
 jA (body:=QJ) F zg λcdv A outer s H E hr=>(bW (gh (i:=2) zg.nd rfl (nF rfl) (abd (aQ (pv 1)) (aV aX))) (bW (gh (i:=3) zg.nd rfl (nF rfl) (j8 (aL (aW (pv 1)) bG))) (bW (gh (i:=4) zg.nd rfl (dg rfl) (aV aX)) (bW (Es mU (sU (aQ (pv 3))) (bW (am3 (i:=4) zg.nd rfl (dg rfl) (aC (aV aX))) (bW (gh (i:=3) zg.nd rfl (nF rfl) (aoe (T:=(.many 3)) (NT:=za4) (NF:=(["newest","steps"]:List Str)) (js:=[3,2]) (o7.ok (N0:=zal) (mL:=dw JG) (by decide +kernel) rfl rfl) (⟨_,_,_,rfl,(.cons ⟨_,rfl⟩ (.cons ⟨_,rfl⟩ (.cons ⟨_,rfl⟩ .nil))),rfl⟩) rfl rfl T.xF (Lw (aQ (pv 0))) (λb=>⟨(xN (PW.pt (uJ (gq (sO hr.cj) sY (aQ (pv 2)) (aQ (pv 3)) (by with_unfolding_all rfl)) (BR (gq (JW hr.cj) J9 (aQ (pv 1)) (aQ (pv 4)) (by with_unfolding_all rfl)))))),(aW (pv 1))⟩))) (cN (pQ mU rfl (z6 (aW (pv 3))) (jc (i:=5) zg.nd rfl (dg rfl)) nA (cN (Cp hr.cj (pv 2) (aQ (pv 5)) (aW (pv 4))))))))) (cN (sE (pv 2)))))))
theorem agT{P:bL}{w:bI}{K:aM}{mg:Str->Option Value}{base:bC}{f:aq}{fd:dZ}(F:gC K "nearer_way" "nearer_way" Jl f fd)(T:Txt K mg):dX P w K mg base fZ 1 f fd zak (spT K Jo):=
 jA (body:=Qa) F agR λcdv A outer s H E hr=>(cN (jq (jb (agQ rfl hr.cj) alI rfl T.zT (by decide +kernel) (eX (aC (uP (T:=(.many 3)) (NT:=za4) (NF:=(["person","steps"]:List Str)) (js:=[2,1]) (o7.ok (N0:=zak) (mL:=dw Jl) (by decide +kernel) rfl rfl) (⟨_,_,_,rfl,(.cons ⟨_,rfl⟩ (.cons ⟨_,rfl⟩ (.cons ⟨_,rfl⟩ .nil))),rfl⟩) rfl (Lw (aQ (pv 0))) (λb=>⟨(xN (PW.pt (uJ (gq (uI hr.units) uM (aQ (pv 1)) (aQ (pv 3)) (gY _)) (uJ (gq (sO hr.cj) sY (aQ (pv 2)) (aQ (pv 4)) (by with_unfolding_all rfl)) (BR (gq (Qx hr.Um) Vk (aC (dF (dD hr.cj) dG (aQ (pv 4)) (aQ (pv 2)) (λ_ _=>rfl))) (aC (dF (dD hr.cj) dG (aQ (pv 4)) (aQ (pv 3)) (λ_ _=>rfl))) (gY _))))))),(oU (aL (aW (pv 0)) (aL (aW (pv 2)) bG)))⟩))) gn))))
theorem ahh{P:bL}{w:bI}{K:aM}{mg:Str->Option Value}{base:bC}{f:aq}{fd:dZ}(F:gC K "first_row" "first_row" Qi f fd)(T:Txt K mg)(QK:dR P w K mg base "steps_to" 1 zam (spT K JK))(Qe:dR P w K mg base "nearer_way" 1 zak (spT K Jo)):dX P w K mg base fZ 2 f fd zaj (spT K Bj):=
 jA (body:=Jt) F Ed λcdv A outer s H E hr=>(bW (gh (i:=3) Ed.nd rfl (dg rfl) (bZ QK (hr.mono (by decide)) rfl (aL (aW (pv 0)) (aL (aW (pv 2)) bG)))) (bW (mZ (gq (JW hr.cj) J9 (aQ (pv 1)) (aQ (pv 3)) (by with_unfolding_all rfl)) (cN (jq (aV zF))) mY) (bW (gh (i:=4) Ed.nd rfl (dg rfl) (j8 bG)) (bW (Es mU (gq (zH hr.units) zQ (aQ (pv 1)) (aQ (pv 2)) (gY _)) (bW (am1 (bZ Qe (hr.mono (by decide)) rfl (aL (aW (pv 0)) (aL (aW (pv 3)) (aL (aW (pv 1)) bG)))) (Ca rfl (oN (jc (i:=5) Ed.nd rfl (dg rfl)) (oN (jc (i:=1) Ed.nd rfl (dg rfl)) BJ))) (acO (Ka nA (Ka nA ab0)))) (cN (xQ (pv 4) (aW (pv 5)))))) (cN (sE (pv 4)))))))
theorem ajb{P:bL}{w:bI}{K:aM}{mg:Str->Option Value}{base:bC}{f:aq}{fd:dZ}(F:gC K "row_of" "row_of" Sq f fd)(T:Txt K mg)(xx:dR P w K mg base "is_side" 1 zag (spT K xu))(Bu:dR P w K mg base "ways_on" 2 zai (spT K zp))(Bq:dR P w K mg base "first_row" 2 zaj (spT K Bj)):dX P w K mg base fZ 3 f fd zac (spT K Km):=
 jA (body:=Ex) F aja λcdv A outer s H E hr=>(bW (mZ (PW.pt (CN (sU (aC (bZ xx (hr.mono (by decide)) rfl (aL (aW (pv 1)) (aL (aW (pv 2)) bG))))) (FZ (sU (aC (bZ xx (hr.mono (by decide)) rfl (aL (aW (pv 1)) (aL (aW (pv 3)) bG)))))))) (cN (jq (aV zF))) mY) (cN (jq (bZ Bq (hr.mono (by decide)) rfl (aL (bZ Bu (hr.mono (by decide)) rfl (aL (aW (pv 0)) (aL (aW (pv 1)) (aL (aW (pv 4)) bG)))) (aL (aW (pv 2)) (aL (aW (pv 3)) bG)))))))
theorem ahi{P:bL}{w:bI}{K:aM}{mg:Str->Option Value}{base:bC}{f:aq}{fd:dZ}(F:gC K "is_needed" "is_needed" Jr f fd)(T:Txt K mg)(Bq:dR P w K mg base "first_row" 2 zaj (spT K Bj)):dX P w K mg base fZ 3 f fd zaf (spT K Ei):=
 jA (body:=Ju) F Zh λcdv A outer s H E hr=>(bW (RM (i:=4) (T:=.one) (NT:=(["way"]:List Str)) (NF:=(["number"]:List Str)) (js:=[1]) (o7.ok (N0:=zae) (mL:=dw Jr) (by decide +kernel) rfl rfl) (⟨_,⟨_,rfl⟩,rfl⟩) rfl (GD (aQ (pv 0))) (λb=>⟨(xN (gq (zH hr.units) zQ (aC (dF (dD hr.cj) dG (aQ (pv 0)) (aC (aV aX)) (λ_ _=>rfl))) (aQ (pv 1)) (gY _))),(aW (pv 0))⟩) (by rfl) Zh.nd rfl rfl) (cN (jq (sI K6 Lb (aC (bZ Bq (hr.mono (by decide)) rfl (aL (aW (pv 4)) (aL (aW (pv 2)) (aL (aW (pv 3)) bG))))) (aC (aV zF)) (gY _)))))
theorem agp{P:bL}{w:bI}{K:aM}{mg:Str->Option Value}{base:bC}{f:aq}{fd:dZ}(F:gC K "leaves_in_all" "leaves_in_all" Ir f fd)(T:Txt K mg)(Bu:dR P w K mg base "ways_on" 2 zai (spT K zp))(SM:dR P w K mg base "row_of" 3 zac (spT K Km))(Qt:dR P w K mg base "is_needed" 3 zaf (spT K Ei)):dX P w K mg base fZ 4 f fd zac (spT K DQ):=
 jA (body:=Iu) F Og λcdv A outer s H E hr=>(bW (gh (i:=5) Og.nd rfl (dg rfl) (bZ SM (hr.mono (by decide)) rfl (aL (aW (pv 0)) (aL (aW (pv 1)) (aL (aW (pv 2)) (aL (aW (pv 3)) (aL (aW (pv 4)) bG))))))) (bW (mZ (gq K6 Lb (aQ (pv 5)) (aC (aV zF)) (gY _)) (cN (jq (j8 bG))) mY) (bW (gh (i:=6) Og.nd rfl (nF rfl) (bZ Bu (hr.mono (by decide)) rfl (aL (aW (pv 0)) (aL (aW (pv 1)) (aL (aW (pv 4)) bG))))) (cN (jq (uP (T:=.one) (NT:=(["number"]:List Str)) (NF:=zaj) (js:=[6,2,3]) (o7.ok (N0:=zad) (mL:=dw Ir) (by decide +kernel) rfl rfl) (⟨_,⟨_,rfl⟩,rfl⟩) rfl (GD (aC (jb (ah5 rfl) aj5 rfl T.xF (by decide +kernel) (eX (aQ (pv 5)) gn)))) (λb=>⟨(xN (sU (aC (bZ Qt (hr.mono (by decide)) rfl (aL (aW (pv 1)) (aL (aW (pv 0)) (aL (aW (pv 2)) (aL (aW (pv 3)) bG)))))))),(aW (pv 0))⟩)))))))
theorem alR{P:bL}{w:bI}{K:aM}{mg:Str->Option Value}{base:bC}{f:aq}{fd:dZ}(F:gC K "_law_mix" "_law_mix" U4 f fd)(T:Txt K mg):dX P w K mg base fZ 1 f fd zan (spT K Gd):=
 jA (body:=U5) F acj λcdv A outer s H E hr=>(bW (gh (i:=2) acj.nd rfl (dg rfl) (cz sG sJ (aC (cz qY qZ (aC (cz fV fW (aC (cz fV fW (aC (cz sG sJ (aQ (pv 0)) (aC (aV aX)))) (aC (cz qY qZ (aC (cz qY qZ (aQ (pv 1)) (aQ (pv 1)))) (aC (aV aX)))))) (aC (aV aX)))) (aC (aV aX)))) (aC (aV aX)))) (cN (jq (cz sG sJ (aC (cz qY qZ (aQ (pv 2)) (aQ (pv 2)))) (aC (aV aX))))))
theorem agF{P:bL}{w:bI}{K:aM}{mg:Str->Option Value}{base:bC}{f:aq}{fd:dZ}(F:gC K "_law_drawn_from" "_law_drawn_from" Pn f fd)(T:Txt K mg):dX P w K mg base fZ 1 f fd zao (spT K Jb):=
 jA (body:=Pu) F YF λcdv A outer s H E hr=>(bW (gh (i:=2) YF.nd rfl (dg rfl) (adz (gq (Qx hr.Um) Vk (aQ (pv 1)) (aC (ab5 (pv 0) rfl T.mH (by decide +kernel))) (gY _)) (am5 (pv 0) (aQ (pv 1)) (λ_ _=>rfl)) (aV aX))) (cN (jq (j8 (aL (dF (dD hr.cj) dG (aC (j8 (aL (aV aX) (aL (jb aaJ acR rfl T.LC (by decide +kernel) (eX (aQ (pv 2)) gn)) bG)))) (aC (Bw QV Uy rfl T.Dd (by decide +kernel) (eX (aC (sI anZ an9 (aC (jb aaJ acR rfl T.LC (by decide +kernel) (eX (aQ (pv 2)) gn))) (aC (cz Uj Uu (aC (aV aX)) (aC (aV aX)))) (gY _))) gn))) (λ_ _=>rfl)) (aL (cz fV fW (aQ (pv 2)) (aC (cz qY qZ (aC (aV aX)) (aQ (pv 1))))) (aL (aV aX) bG)))))))
theorem aki{P:bL}{w:bI}{K:aM}{mg:Str->Option Value}{base:bC}{f:aq}{fd:dZ}(F:gC K "_law_pick" "_law_pick" T3 f fd)(T:Txt K mg)(Li:dR P w K mg base "_law_mix" 1 zan (spT K Gd)):dX P w K mg base fZ 2 f fd zap (spT K cC):=
 jA (body:=KR) F abm λcdv A outer s H E hr=>(bW (Cp hr.cj (pv 0) (aC (aV aX)) (cz fV fW (aC (zK (pv 0) (aC (aV aX)) (λ_ _=>rfl))) (aC (aV aX)))) (bW (mZ (gq Gg Gi (aC (zK (pv 0) (aC (aV aX)) (λ_ _=>rfl))) (aC (aV aX)) (gY _)) (bW (gh (i:=2) abm.nd rfl (dg rfl) (cz sG sJ (aC (zK (pv 0) (aC (aV aX)) (λ_ _=>rfl))) (aQ (pv 1)))) (bW (Cp hr.cj (pv 0) (aC (aV aX)) (cz S8 Tp (aC (zK (pv 0) (aC (aV aX)) (λ_ _=>rfl))) (aQ (pv 1)))) (cN (sE (pv 2))))) mY) (cN (jq (cz sG sJ (aC (cz S8 Tp (aC (bZ Li (hr.mono (by decide)) rfl (aL (bZ Li (hr.mono (by decide)) rfl (aL (zK (pv 0) (aC (aV aX)) (λ_ _=>rfl)) (aL (zK (pv 0) (aC (aV aX)) (λ_ _=>rfl)) bG))) (aL (cz fV fW (aC (zK (pv 0) (aC (aV aX)) (λ_ _=>rfl))) (aC (aV aX))) bG)))) (aC (aV aX)))) (aQ (pv 1)))))))
theorem akj{P:bL}{w:bI}{K:aM}{mg:Str->Option Value}{base:bC}{f:aq}{fd:dZ}(n:Nat)(F:gC K "_law_same" "_law_same" Fj f fd)(T:Txt K mg)(Fp:dR P w K mg base "_law_same" n zaq (spT K (uE n))):dX P w K mg base fZ (n+1) f fd zaq (spT K (uE (n+1))):=
 jA (body:=KY (uE n)) F akg λcdv A outer s H E hr=>(bW (mZ (sU (aC (alr (by decide) (by decide) (aQ (pv 1)) (qm (v:=.ty "list") rfl T.Cv (by decide +kernel) rfl) (qm (v:=.ty "tuple") rfl T.zE (by decide +kernel) rfl) rfl T.pL (by decide +kernel)))) (bW (mZ (PW.pt (CN (gq (zH hr.units) zQ (aC (sV (by decide) (aQ (pv 0)) (qm (v:=.ty "list") rfl T.Cv (by decide +kernel) rfl) rfl T.pL (by decide +kernel))) (aC (sV (by decide) (aQ (pv 1)) (qm (v:=.ty "list") rfl T.Cv (by decide +kernel) rfl) rfl T.pL (by decide +kernel))) (gY _)) (FZ (gq (zH hr.units) zQ (aC (sV (by decide) (aQ (pv 0)) (qm (v:=.ty "tuple") rfl T.zE (by decide +kernel) rfl) rfl T.pL (by decide +kernel))) (aC (sV (by decide) (aQ (pv 1)) (qm (v:=.ty "tuple") rfl T.zE (by decide +kernel) rfl) rfl T.pL (by decide +kernel))) (gY _))))) (cN (jq (aV Lk))) mY) (cN (jq (Cm (sI (uI hr.units) uM (aC (jb oM oV rfl T.mH (by decide +kernel) (eX (aQ (pv 0)) gn))) (aC (jb oM oV rfl T.mH (by decide +kernel) (eX (aQ (pv 1)) gn))) (gY _)) (Ga (jb (ajF rfl) am6 rfl T.Vt (by decide +kernel) (eX (aC (uP (T:=(.many 2)) (NT:=(["_law_one","_law_other"]:List Str)) (NF:=([]:List Str)) (js:=[]) (o7.ok (N0:=zaq) (mL:=dw Fj) (by decide +kernel) rfl rfl) (⟨_,_,_,rfl,(.cons ⟨_,rfl⟩ (.cons ⟨_,rfl⟩ .nil)),rfl⟩) rfl (am9 rfl T.Vv (eX (aQ (pv 0)) (eX (aQ (pv 1)) gn))) (λb=>⟨zB,(bZ Fp hr rfl (aL (aW (pv 0)) (aL (aW (pv 1)) bG)))⟩))) gn))))))) mY) (bW (mZ (PW.pt (CN (gq K6 Lb (aQ (pv 1)) (aC (aV zF)) (gY _)) (FZ (sU (aC (sV (by decide) (aQ (pv 1)) (qm (v:=.ty "str") rfl T.Gx (by decide +kernel) rfl) rfl T.pL (by decide +kernel))))))) (cN (jq (Cm (sI (uI hr.units) uM (aQ (pv 0)) (aQ (pv 1)) (gY _)) (Ga (sI (uI hr.units) uM (aC (sV (by decide) (aQ (pv 0)) (qm (v:=.ty "str") rfl T.Gx (by decide +kernel) rfl) rfl T.pL (by decide +kernel))) (aC (sV (by decide) (aQ (pv 1)) (qm (v:=.ty "str") rfl T.Gx (by decide +kernel) rfl) rfl T.pL (by decide +kernel))) (gY _)))))) mY) (bW (mZ (sU (aC (sV (by decide) (aQ (pv 1)) (qm (v:=.ty "bool") rfl T.Gb (by decide +kernel) rfl) rfl T.pL (by decide +kernel)))) (cN (jq (Cm (sV (by decide) (aQ (pv 0)) (qm (v:=.ty "bool") rfl T.Gb (by decide +kernel) rfl) rfl T.pL (by decide +kernel)) (Ga (sI (uI hr.units) uM (aQ (pv 0)) (aQ (pv 1)) (gY _)))))) mY) (cN (jq (Cm (sV (by decide) (aQ (pv 0)) (qm (v:=.ty "int") rfl T.Dd (by decide +kernel) rfl) rfl T.pL (by decide +kernel)) (Cm (amZ (sV (by decide) (aQ (pv 0)) (qm (v:=.ty "bool") rfl T.Gb (by decide +kernel) rfl) rfl T.pL (by decide +kernel))) (Ga (sI (uI hr.units) uM (aQ (pv 0)) (aQ (pv 1)) (gY _))))))))))
theorem aay{P:bL}{w:bI}{K:aM}{mg:Str->Option Value}{base:bC}{f:aq}{fd:dZ}(hm:mg "_law_same"=aa (.ref f))(hk:wU K (.ref f)=ao)(hb:Binds K fd zaq [])(F:gC K "_law_same" "_law_same" Fj f fd)(T:Txt K mg):
  ∀n,dR P w K mg base "_law_same" n zaq (spT K (uE n))
 |0=>⟨f,fd,hm,hk,hb,alw⟩
 |n+1=>⟨f,fd,hm,hk,hb,akj n F T (aay hm hk hb F T n)⟩
theorem agG{P:bL}{w:bI}{K:aM}{mg:Str->Option Value}{base:bC}{f:aq}{fd:dZ}(F:gC K "_law_some_names" "_law_some_names" wZ f fd)(T:Txt K mg)(cL:dR P w K mg base "_law_pick" 2 zap (spT K cC)):dX P w K mg base fZ 3 f fd zap (spT K Jc):=
 jA (body:=Ec) F qg λcdv A outer s H E hr=>(bW (gh (i:=2) qg.nd rfl (nF rfl) (aV Fq)) (bW (gh (i:=3) qg.nd rfl (dg rfl) (Tv (aC (aV Fq)) (aC (uP (T:=.one) (NT:=(["_law_turn"]:List Str)) (NF:=za5) (js:=[2,0]) (o7.ok (N0:=zar) (mL:=dw wZ) (by decide +kernel) rfl rfl) (⟨_,⟨_,rfl⟩,rfl⟩) rfl (uA rfl T.qt (aC (bZ cL (hr.mono (by decide)) rfl (aL (aW (pv 0)) (aL (aV aX) bG))))) (λb=>⟨zB,(dF (dD hr.cj) dG (aQ (pv 1)) (aC (bZ cL (hr.mono (by decide)) rfl (aL (aW (pv 2)) (aL (aV aX) bG)))) (λ_ _=>rfl))⟩))))) (bW (gh (i:=4) qg.nd rfl (dg rfl) (Tv (aC (aV Fq)) (aC (uP (T:=.one) (NT:=(["_law_turn"]:List Str)) (NF:=za5) (js:=[2,0]) (o7.ok (N0:=zar) (mL:=dw wZ) (by decide +kernel) rfl rfl) (⟨_,⟨_,rfl⟩,rfl⟩) rfl (uA rfl T.qt (aC (bZ cL (hr.mono (by decide)) rfl (aL (aW (pv 0)) (aL (aV aX) bG))))) (λb=>⟨zB,(dF (dD hr.cj) dG (aQ (pv 1)) (aC (bZ cL (hr.mono (by decide)) rfl (aL (aW (pv 2)) (aL (aV aX) bG)))) (λ_ _=>rfl))⟩))))) (bW (Tr (is:=[5,6]) (jd (bZ cL (hr.mono (by decide)) rfl (aL (aW (pv 0)) (aL (aV aX) bG))) (jd (dF (dD hr.cj) dG (aC (j8 (aL (aV aX) (aL (aV aX) (aL (aV aX) (aL (aV aX) (aL (aV aX) (aL (aV aX) bG)))))))) (aC (bZ cL (hr.mono (by decide)) rfl (aL (aW (pv 0)) (aL (aV aX) bG)))) (λ_ _=>rfl)) rm)) (Ca rfl (oN (jc (i:=5) qg.nd rfl (nF rfl)) (oN (jc (i:=6) qg.nd rfl (nF rfl)) BJ)))) (bW (mZ (gq (uI hr.units) uM (aC (bZ cL (hr.mono (by decide)) rfl (aL (aW (pv 0)) (aL (aV aX) bG)))) (aC (aV aX)) (gY _)) (bW (Tr (is:=[7,8]) (jd (Tv (aC (aV Fq)) (aC (uP (T:=.one) (NT:=za6) (NF:=(["_law_letters","_law_first"]:List Str)) (js:=[2,5]) (o7.ok (N0:=zar) (mL:=dw wZ) (by decide +kernel) rfl rfl) (⟨_,⟨_,rfl⟩,rfl⟩) rfl (uA rfl T.qt (aC (aV aX))) (λb=>⟨zB,(dF (dD hr.cj) dG (aQ (pv 1)) (aC (cz sG sJ (aC (cz fV fW (aQ (pv 2)) (aC (cz qY qZ (aC (aV aX)) (aQ (pv 0)))))) (aC (aV aX)))) (λ_ _=>rfl))⟩)))) (jd (j8 bG) rm)) (Ca rfl (oN (jc (i:=7) qg.nd rfl (nF rfl)) (oN (jc (i:=8) qg.nd rfl (dg rfl)) BJ)))) (bW (pQ mU rfl (ai1 rfl T.qt (eX (aC (aV aX)) (eX (aC (aV aX)) gn))) (jc (i:=9) qg.nd rfl (nF rfl)) nA (cN (anl (pv 8) (aC (uP (T:=.one) (NT:=za6) (NF:=(["_law_stem","_law_size"]:List Str)) (js:=[7,9]) (o7.ok (N0:=zar) (mL:=dw wZ) (by decide +kernel) rfl rfl) (⟨_,⟨_,rfl⟩,rfl⟩) rfl (uA rfl T.qt (aC (cz Fv FW (aC (aV aX)) (aQ (pv 9))))) (λb=>⟨zB,(oZ (aQ (pv 1)) (lU (aQ (pv 0))) (lU (aC (cz fV fW (aQ (pv 0)) (aQ (pv 2))))))⟩)))))) (cN (jq (oZ (aQ (pv 8)) uQ (lU (aQ (pv 1)))))))) mY) (bW (mZ (PW.pt (uJ (gq (Qx hr.Um) Vk (aQ (pv 1)) (aC (aV aX)) (gY _)) (BR (gq (uI hr.units) uM (aC (bZ cL (hr.mono (by decide)) rfl (aL (aW (pv 0)) (aL (aV aX) bG)))) (aC (aV aX)) (gY _))))) (cN (jq (uP (T:=.one) (NT:=za6) (NF:=(["_law_letters","_law_first","_law_by"]:List Str)) (js:=[2,5,6]) (o7.ok (N0:=zar) (mL:=dw wZ) (by decide +kernel) rfl rfl) (⟨_,⟨_,rfl⟩,rfl⟩) rfl (uA rfl T.qt (aQ (pv 1))) (λb=>⟨zB,(dF (dD hr.cj) dG (aQ (pv 1)) (aC (cz sG sJ (aC (cz fV fW (aQ (pv 2)) (aC (cz qY qZ (aQ (pv 3)) (aQ (pv 0)))))) (aC (aV aX)))) (λ_ _=>rfl))⟩)))) mY) (bW (gh (i:=8) qg.nd rfl (dg rfl) (j8 bG)) (bW (pQ mU rfl (uA rfl T.qt (aQ (pv 1))) (jc (i:=10) qg.nd rfl (dg rfl)) nA (bW (gh (i:=11) qg.nd rfl (dg rfl) (cz sG sJ (aC (cz fV fW (aQ (pv 5)) (aC (cz qY qZ (aQ (pv 6)) (aQ (pv 10)))))) (aC (aV aX)))) (bW (gh (i:=12) qg.nd rfl (dg rfl) (cz fV fW (aC (dF (dD hr.cj) dG (aQ (pv 2)) (aC (cz S8 Tp (aQ (pv 11)) (aC (aV aX)))) (λ_ _=>rfl))) (aC (dF (dD hr.cj) dG (aQ (pv 2)) (aC (cz sG sJ (aQ (pv 11)) (aC (aV aX)))) (λ_ _=>rfl))))) (cN (xQ (pv 8) (cz fV fW (aC (cz fV fW (aQ (pv 3)) (aQ (pv 12)))) (aC (oZ (aQ (pv 4)) uQ (lU (aC (cz sG sJ (aC (cz fV fW (aC (cz qY qZ (aQ (pv 10)) (aQ (pv 10)))) (aQ (pv 5)))) (aC (aV aX))))))))))))) (cN (sE (pv 8)))))))))))
theorem ahj{P:bL}{w:bI}{K:aM}{mg:Str->Option Value}{base:bC}{f:aq}{fd:dZ}(F:gC K "_law_shuffled" "_law_shuffled" Qj f fd)(T:Txt K mg)(cL:dR P w K mg base "_law_pick" 2 zap (spT K cC)):dX P w K mg base fZ 3 f fd zas (spT K Ej):=
 jA (body:=Qo) F Zi λcdv A outer s H E hr=>(bW (zJ (i:=2) (j:=3) rfl Zi.nd rfl rfl (by decide) rfl rfl (jd (Bw (ah4 rfl) aj2 rfl T.Cv (by decide +kernel) (eX (aQ (pv 1)) gn)) (jd (j8 bG) rm)) rfl) (bW (Es mU (gq (zH hr.units) zQ (aQ (pv 2)) (aC (j8 bG)) (gY _)) (cN (alK (pv 3) (pv 2) (aC (bZ cL (hr.mono (by decide)) rfl (aL (aW (pv 0)) (aL (jb oM oV rfl T.mH (by decide +kernel) (eX (aQ (pv 2)) gn)) bG))))))) (cN (sE (pv 3)))))
theorem ahk{P:bL}{w:bI}{K:aM}{mg:Str->Option Value}{base:bC}{f:aq}{fd:dZ}(F:gC K "_law_two_days" "_law_two_days" Qk f fd)(T:Txt K mg)(cL:dR P w K mg base "_law_pick" 2 zap (spT K cC)):dX P w K mg base fZ 3 f fd zat (spT K Bm):=
 jA (body:=Qp) F Zj λcdv A outer s H E hr=>(bW (gh (i:=1) Zj.nd rfl (dg rfl) (dF (dD hr.cj) dG (aC (j8 (aL (bZ cL (hr.mono (by decide)) rfl (aL (aW (pv 0)) (aL (aV aX) bG))) (aL (bZ cL (hr.mono (by decide)) rfl (aL (aW (pv 0)) (aL (aV aX) bG))) (aL (cz Fv FW (aC (aV aX)) (aC (bZ cL (hr.mono (by decide)) rfl (aL (aW (pv 0)) (aL (aV aX) bG))))) bG))))) (aC (bZ cL (hr.mono (by decide)) rfl (aL (aW (pv 0)) (aL (aV aX) bG)))) (λ_ _=>rfl))) (cN (jq (oU (aL (aW (pv 1)) (aL (jb (JN rfl) KC rfl T.zT (by decide +kernel) (eX (aC (aV aX)) (eX (aC (cz fV fW (aQ (pv 1)) (aC (dF (dD hr.cj) dG (aC (j8 (aL (aV aX) (aL (bZ cL (hr.mono (by decide)) rfl (aL (aW (pv 0)) (aL (aV aX) bG))) (aL (aV aX) bG))))) (aC (bZ cL (hr.mono (by decide)) rfl (aL (aW (pv 0)) (aL (aV aX) bG)))) (λ_ _=>rfl))))) gn))) bG))))))
theorem ahl{P:bL}{w:bI}{K:aM}{mg:Str->Option Value}{base:bC}{f:aq}{fd:dZ}(F:gC K "_law_some_sum" "_law_some_sum" Ql f fd)(T:Txt K mg)(cL:dR P w K mg base "_law_pick" 2 zap (spT K cC)):dX P w K mg base fZ 3 f fd zat (spT K Bo):=
 jA (body:=Qq) F ahf λcdv A outer s H E hr=>(cN (jq (dF (dD hr.cj) dG (aC (j8 (aL (bZ cL (hr.mono (by decide)) rfl (aL (aW (pv 0)) (aL (aV aX) bG))) (aL (cz fV fW (aC (aV aX)) (aC (bZ cL (hr.mono (by decide)) rfl (aL (aW (pv 0)) (aL (aV aX) bG))))) (aL (cz Fv FW (aC (cz Uj Uu (aC (aV aX)) (aC (aV aX)))) (aC (bZ cL (hr.mono (by decide)) rfl (aL (aW (pv 0)) (aL (aV aX) bG))))) bG))))) (aC (bZ cL (hr.mono (by decide)) rfl (aL (aW (pv 0)) (aL (aV aX) bG)))) (λ_ _=>rfl))))
theorem agH{P:bL}{w:bI}{K:aM}{mg:Str->Option Value}{base:bC}{f:aq}{fd:dZ}(F:gC K "_law_some_parts" "_law_some_parts" Pq f fd)(T:Txt K mg)(cL:dR P w K mg base "_law_pick" 2 zap (spT K cC)):dX P w K mg base fZ 3 f fd zau (spT K Jd):=
 jA (body:=Px) F IK λcdv A outer s H E hr=>(bW (gh (i:=2) IK.nd rfl (dg rfl) RC) (bW (pQ mU rfl (alG rfl T.Qn (aW (pv 1))) (Ca rfl (oN (jc (i:=3) IK.nd rfl (dg rfl)) (oN (jc (i:=4) IK.nd rfl (dg rfl)) BJ))) (acO (Ka nA (Ka nA ab0))) (cN (Cp hr.cj (pv 2) (aQ (pv 4)) (dF (dD hr.cj) dG (aC (cz fV fW (aC (j8 (aL (aV Fq) bG))) (aC (oZ (aQ (pv 1)) uQ (lU (aQ (pv 3))))))) (aC (adz (gq Gg Gi (aC (bZ cL (hr.mono (by decide)) rfl (aL (aW (pv 0)) (aL (aV aX) bG)))) (aC (aV aX)) (gY _)) (bZ cL (hr.mono (by decide)) rfl (aL (aW (pv 0)) (aL (cz fV fW (aQ (pv 3)) (aC (aV aX))) bG))) (aV aX))) (λ_ _=>rfl))))) (cN (sE (pv 2)))))
theorem agI{P:bL}{w:bI}{K:aM}{mg:Str->Option Value}{base:bC}{f:aq}{fd:dZ}(F:gC K "_law_parts_over" "_law_parts_over" Pr f fd)(T:Txt K mg):dX P w K mg base fZ 1 f fd zav (spT K Bc):=
 jA (body:=Py) F O4 λcdv A outer s H E hr=>(bW (gh (i:=2) O4.nd rfl (dg rfl) (j8 bG)) (bW (Es mU (gq (sO hr.cj) sY (aQ (pv 1)) (aQ (pv 0)) (by with_unfolding_all rfl)) (bW (xQ (pv 2) (aW (pv 1))) (cN (gh (i:=1) O4.nd rfl (dg rfl) (dF (dD hr.cj) dG (aQ (pv 0)) (aQ (pv 1)) (λ_ _=>rfl)))))) (cN (sE (pv 2)))))
theorem aif{P:bL}{w:bI}{K:aM}{mg:Str->Option Value}{base:bC}{f:aq}{fd:dZ}(F:gC K "_law_rising" "_law_rising" Rc f fd)(T:Txt K mg)(cL:dR P w K mg base "_law_pick" 2 zap (spT K cC)):dX P w K mg base fZ 3 f fd zap (spT K JZ):=
 jA (body:=Rh) F JH λcdv A outer s H E hr=>(bW (zJ (i:=2) (j:=3) rfl JH.nd rfl rfl (by decide) rfl rfl (jd (j8 bG) (jd (bZ cL (hr.mono (by decide)) rfl (aL (aW (pv 0)) (aL (aV aX) bG))) rm)) rfl) (bW (pQ mU rfl (uA rfl T.qt (aQ (pv 1))) (jc (i:=4) JH.nd rfl (dg rfl)) nA (bW (xQ (pv 2) (aW (pv 3))) (cN (gh (i:=3) JH.nd rfl (dg rfl) (cz fV fW (aC (cz fV fW (aQ (pv 3)) (aC (aV aX)))) (aC (cz qY qZ (aC (bZ cL (hr.mono (by decide)) rfl (aL (aW (pv 0)) (aL (aV aX) bG)))) (aC (bZ cL (hr.mono (by decide)) rfl (aL (aW (pv 0)) (aL (aV aX) bG))))))))))) (cN (sE (pv 2)))))
theorem agx{P:bL}{w:bI}{K:aM}{mg:Str->Option Value}{base:bC}{f:aq}{fd:dZ}(F:gC K "_law_some_leaves" "_law_some_leaves" O5 f fd)(T:Txt K mg)(cL:dR P w K mg base "_law_pick" 2 zap (spT K cC))(Br:dR P w K mg base "_law_two_days" 3 zat (spT K Bm))(Bs:dR P w K mg base "_law_some_sum" 3 zat (spT K Bo))(Bd:dR P w K mg base "_law_parts_over" 1 zav (spT K Bc))(Ri:dR P w K mg base "_law_rising" 3 zap (spT K JZ)):dX P w K mg base fZ 4 f fd zaw (spT K IV):=
 jA (body:=O8) F vg λcdv A outer s H E hr=>(bW (zJ (i:=6) (j:=7) rfl vg.nd rfl rfl (by decide) rfl rfl (jd (j8 bG) (jd (bZ Bd (hr.mono (by decide)) rfl (aL (aW (pv 1)) (aL (dF (dD hr.cj) dG (aQ (pv 4)) (aC (aV aX)) (λ_ _=>rfl)) bG))) rm)) rfl) (bW (pQ mU rfl (z6 (bZ Ri (hr.mono (by decide)) rfl (aL (aW (pv 0)) (aL (cz qY qZ (aQ (pv 3)) (aC (Bw QV Uy rfl T.Dd (by decide +kernel) (eX (aC (sI Gg Gi (aC (jb oM oV rfl T.mH (by decide +kernel) (eX (aQ (pv 2)) gn))) (aC (aV aX)) (gY _))) gn)))) bG)))) (jc (i:=8) vg.nd rfl (dg rfl)) nA (bW (gh (i:=9) vg.nd rfl (dg rfl) (bZ cL (hr.mono (by decide)) rfl (aL (aW (pv 0)) (aL (jb oM oV rfl T.mH (by decide +kernel) (eX (aQ (pv 2)) gn)) bG)))) (bW (gh (i:=10) vg.nd rfl (dg rfl) (cz sG sJ (aC (cz fV fW (aC (cz fV fW (aQ (pv 9)) (aC (aV aX)))) (aC (cz qY qZ (aC (bZ cL (hr.mono (by decide)) rfl (aL (aW (pv 0)) (aL (cz Fv FW (aC (jb oM oV rfl T.mH (by decide +kernel) (eX (aQ (pv 2)) gn))) (aC (aV aX))) bG)))) (aC (bZ cL (hr.mono (by decide)) rfl (aL (aW (pv 0)) (aL (aV aX) bG)))))))) (aC (jb oM oV rfl T.mH (by decide +kernel) (eX (aQ (pv 2)) gn))))) (bW (alN (i:=11) (j:=12) (k:=13) rfl vg.nd rfl rfl rfl (by decide) (by decide) (by decide) rfl rfl rfl (jd (dF (dD hr.cj) dG (aC (jb (YD rfl) abl rfl T.xF (by decide +kernel) (eX (aQ (pv 1)) gn))) (aC (bZ cL (hr.mono (by decide)) rfl (aL (aW (pv 0)) (aL (jb oM oV rfl T.mH (by decide +kernel) (eX (aQ (pv 1)) gn)) bG)))) (λ_ _=>rfl)) (jd (bZ Br (hr.mono (by decide)) rfl (aL (aW (pv 0)) bG)) (jd (bZ Bs (hr.mono (by decide)) rfl (aL (aW (pv 0)) bG)) rm))) rfl) (bW (mZ (PW.pt (uJ (gq Gg Gi (aC (bZ cL (hr.mono (by decide)) rfl (aL (aW (pv 0)) (aL (aV aX) bG)))) (aC (aV aX)) (gY _)) (BR (gq (zH hr.units) zQ (aQ (pv 7)) (aC (j8 bG)) (gY _))))) (bW (gh (i:=11) vg.nd rfl (dg rfl) (dF (dD hr.cj) dG (aQ (pv 7)) (aC (bZ cL (hr.mono (by decide)) rfl (aL (aW (pv 0)) (aL (jb oM oV rfl T.mH (by decide +kernel) (eX (aQ (pv 7)) gn)) bG)))) (λ_ _=>rfl))) (bW (gh (i:=12) vg.nd rfl (dg rfl) (oU (aL (jb (aiu rfl) alq rfl T.Vu (by decide +kernel) (eX (aC (aV aX)) (eX (aC (cz Fv FW (aQ (pv 5)) (aC (bZ cL (hr.mono (by decide)) rfl (aL (aW (pv 0)) (aL (aV aX) bG)))))) gn))) (aL (jb (JN rfl) KC rfl T.zT (by decide +kernel) (eX (aC (aV aX)) (eX (aC (cz fV fW (aQ (pv 5)) (aC (bZ cL (hr.mono (by decide)) rfl (aL (aW (pv 0)) (aL (aV aX) bG)))))) gn))) bG)))) (cN (gh (i:=13) vg.nd rfl (dg rfl) (jb (JN rfl) KC rfl T.zT (by decide +kernel) (eX (aC (cz Uj Uu (aC (aV aX)) (aC (aV aX)))) (eX (aC (cz fV fW (aC (dF (dD hr.cj) dG (aQ (pv 4)) (aC (aV aX)) (λ_ _=>rfl))) (aC (bZ cL (hr.mono (by decide)) rfl (aL (aW (pv 0)) (aL (aV aX) bG)))))) gn))))))) mY) (cN (xQ (pv 6) (cz fV fW (aC (cz fV fW (aC (oU (aL (aW (pv 8)) (aL (dF (dD hr.cj) dG (aQ (pv 2)) (aQ (pv 9)) (λ_ _=>rfl)) (aL (dF (dD hr.cj) dG (aQ (pv 2)) (aQ (pv 10)) (λ_ _=>rfl)) (aL (aW (pv 11)) bG)))))) (aQ (pv 12)))) (aC (oU (aL (aW (pv 13)) bG))))))))))) (cN (sE (pv 6)))))
theorem ahm{P:bL}{w:bI}{K:aM}{mg:Str->Option Value}{base:bC}{f:aq}{fd:dZ}(F:gC K "_law_house_of" "_law_house_of" Qm f fd)(T:Txt K mg):dX P w K mg base fZ 1 f fd zax (spT K Jv):=
 jA (body:=Qs) F ahg λcdv A outer s H E hr=>(cN (jq (oU (aL (Bw YS aa3 rfl T.zE (by decide +kernel) (eX (aC (ai6 rfl (aQ (pv 0)) rfl T.xF)) gn)) (aL (oU bG) (aL (Bw YS aa3 rfl T.zE (by decide +kernel) (eX (aQ (pv 1)) gn)) (aL (oU bG) bG)))))))
theorem akk{P:bL}{w:bI}{K:aM}{mg:Str->Option Value}{base:bC}{f:aq}{fd:dZ}(F:gC K "_law_case" "_law_case" T4 f fd)(T:Txt K mg)(cL:dR P w K mg base "_law_pick" 2 zap (spT K cC))(Pz:dR P w K mg base "_law_some_names" 3 zap (spT K Jc))(Br:dR P w K mg base "_law_two_days" 3 zat (spT K Bm))(Bs:dR P w K mg base "_law_some_sum" 3 zat (spT K Bo))(PB:dR P w K mg base "_law_some_parts" 3 zau (spT K Jd))(Pg:dR P w K mg base "_law_some_leaves" 4 zaw (spT K IV)):dX P w K mg base fZ 5 f fd zay (spT K Fo):=
 jA (body:=T7) F vB λcdv A outer s H E hr=>(bW (gh (i:=2) vB.nd rfl (dg rfl) (bZ Pz (hr.mono (by decide)) rfl (aL (aW (pv 0)) (aL (aV aX) bG)))) (bW (gh (i:=3) vB.nd rfl (dg rfl) (bZ PB (hr.mono (by decide)) rfl (aL (aW (pv 0)) (aL (oZ (aQ (pv 2)) uQ (lU (aC (cz fV fW (aC (aV aX)) (aC (bZ cL (hr.mono (by decide)) rfl (aL (aW (pv 0)) (aL (aV aX) bG)))))))) bG)))) (bW (gh (i:=4) vB.nd rfl (dg rfl) (oZ (aQ (pv 2)) (lU (aC (aV aX))) (lU (aC (cz fV fW (aC (cz fV fW (aC (aV aX)) (aC (aV aX)))) (aC (bZ cL (hr.mono (by decide)) rfl (aL (aW (pv 0)) (aL (dF (dD hr.cj) dG (aC (j8 (aL (aV aX) (aL (aV aX) (aL (aV aX) bG))))) (aC (bZ cL (hr.mono (by decide)) rfl (aL (aW (pv 0)) (aL (aV aX) bG)))) (λ_ _=>rfl)) bG))))))))) (bW (gh (i:=5) vB.nd rfl (dg rfl) (cz fV fW (aQ (pv 4)) (aC (oZ (aQ (pv 2)) (lU (aC (aV aX))) (lU (aC (aV aX))))))) (bW (gh (i:=6) vB.nd rfl (dg rfl) (oU (aL (dF (dD hr.cj) dG (aQ (pv 5)) (aC (bZ cL (hr.mono (by decide)) rfl (aL (aW (pv 0)) (aL (jb oM oV rfl T.mH (by decide +kernel) (eX (aQ (pv 5)) gn)) bG)))) (λ_ _=>rfl)) (aL (dF (dD hr.cj) dG (aQ (pv 5)) (aC (bZ cL (hr.mono (by decide)) rfl (aL (aW (pv 0)) (aL (jb oM oV rfl T.mH (by decide +kernel) (eX (aQ (pv 5)) gn)) bG)))) (λ_ _=>rfl)) bG)))) (bW (mZ (gq Gg Gi (aC (bZ cL (hr.mono (by decide)) rfl (aL (aW (pv 0)) (aL (aV aX) bG)))) (aC (aV aX)) (gY _)) (cN (gh (i:=6) vB.nd rfl (dg rfl) (oU (aL (dF (dD hr.cj) dG (aQ (pv 2)) (aC (aV aX)) (λ_ _=>rfl)) (aL (dF (dD hr.cj) dG (aQ (pv 2)) (aC (cz fV fW (aC (aV aX)) (aC (bZ cL (hr.mono (by decide)) rfl (aL (aW (pv 0)) (aL (aV aX) bG)))))) (λ_ _=>rfl)) bG))))) mY) (bW (gh (i:=7) vB.nd rfl (dg rfl) (dF (dD hr.cj) dG (aC (cz fV fW (aC (jb (YD rfl) abl rfl T.xF (by decide +kernel) (eX (aQ (pv 3)) gn))) (aC (oZ (aQ (pv 2)) (lU (aC (aV aX))) (lU (aC (aV aX))))))) (aC (bZ cL (hr.mono (by decide)) rfl (aL (aW (pv 0)) (aL (cz fV fW (aC (jb oM oV rfl T.mH (by decide +kernel) (eX (aQ (pv 3)) gn))) (aC (Bw QV Uy rfl T.Dd (by decide +kernel) (eX (aC (sI (uI hr.units) uM (aC (bZ cL (hr.mono (by decide)) rfl (aL (aW (pv 0)) (aL (aV aX) bG)))) (aC (aV aX)) (gY _))) gn)))) bG)))) (λ_ _=>rfl))) (bW (zJ (i:=8) (j:=9) rfl vB.nd rfl rfl (by decide) rfl rfl (jd (cz fV fW (aC (oU (aL (aW (pv 7)) (aL (bZ Bs (hr.mono (by decide)) rfl (aL (aW (pv 0)) bG)) bG)))) (aQ (pv 6))) (jd (dF (dD hr.cj) dG (aC (bZ Br (hr.mono (by decide)) rfl (aL (aW (pv 0)) bG))) (aC (bZ cL (hr.mono (by decide)) rfl (aL (aW (pv 0)) (aL (aV aX) bG)))) (λ_ _=>rfl)) rm)) rfl) (cN (alP (jd (aW (pv 3)) (jd (aW (pv 4)) (jd (bZ Pg (hr.mono (by decide)) rfl (aL (aW (pv 0)) (aL (aW (pv 3)) (aL (aW (pv 4)) (aL (bZ cL (hr.mono (by decide)) rfl (aL (aW (pv 0)) (aL (cz fV fW (aQ (pv 1)) (aC (aV aX))) bG))) (aL (aW (pv 8)) (aL (aW (pv 9)) bG))))))) (jd (aW (pv 8)) (jd (aW (pv 9)) rm)))))))))))))))
theorem akl{P:bL}{w:bI}{K:aM}{mg:Str->Option Value}{base:bC}{f:aq}{fd:dZ}(F:gC K "_law_lets" "_law_lets" T5 f fd)(T:Txt K mg)(Bd:dR P w K mg base "_law_parts_over" 1 zav (spT K Bc)):dX P w K mg base fZ 2 f fd zaz (spT K KZ):=
 jA (body:=BX) F akh λcdv A outer s H E hr=>(bW (mZ (PW.pt (CN (gq (sO hr.cj) sY (aC (dF (dD hr.cj) dG (aQ (pv 3)) (aC (aV aX)) (λ_ _=>rfl))) (aC (oZ (aQ (pv 1)) (lU (aC (aV aX))) uQ)) (by with_unfolding_all rfl)) (CN (gq (sO hr.cj) sY (aC (dF (dD hr.cj) dG (aQ (pv 3)) (aC (aV aX)) (λ_ _=>rfl))) (aC (oZ (aQ (pv 1)) (lU (aC (aV aX))) uQ)) (by with_unfolding_all rfl)) (FZ (gq (JW hr.cj) J9 (aC (dF (dD hr.cj) dG (aQ (pv 3)) (aC (aV aX)) (λ_ _=>rfl))) (aC (bZ Bd (hr.mono (by decide)) rfl (aL (aW (pv 0)) (aL (dF (dD hr.cj) dG (aQ (pv 1)) (aC (aV aX)) (λ_ _=>rfl)) bG)))) (by with_unfolding_all rfl)))))) (cN (jq (aV Lk))) mY) (cN (jq (Cm (amX Ck CK Ck CK (aC (dF (dD hr.cj) dG (aQ (pv 3)) (aC (aV aX)) (λ_ _=>rfl))) (aQ (pv 2)) (aC (dF (dD hr.cj) dG (aQ (pv 3)) (aC (aV aX)) (λ_ _=>rfl)))) (Ga (sI Ck CK (aC (dF (dD hr.cj) dG (aQ (pv 1)) (aC (aV aX)) (λ_ _=>rfl))) (aC (dF (dD hr.cj) dG (aQ (pv 3)) (aC (aV aX)) (λ_ _=>rfl))) (gY _)))))))
theorem ahn{P:bL}{w:bI}{K:aM}{mg:Str->Option Value}{base:bC}{f:aq}{fd:dZ}(F:gC K "_law_all_rows" "_law_all_rows" Js f fd)(T:Txt K mg)(T8:dR P w K mg base "_law_lets" 2 zaz (spT K KZ)):dX P w K mg base fZ 3 f fd za1 (spT K Bp):=
 jA (body:=Jw) F Ef λcdv A outer s H E hr=>(bW (mZ (gq (sO hr.cj) sY (aQ (pv 3)) (aC (oZ (aQ (pv 2)) (lU (aC (aV aX))) uQ)) (by with_unfolding_all rfl)) (cN (jq RC)) mY) (bW (zJ (i:=5) (j:=6) rfl Ef.nd rfl rfl (by decide) rfl rfl (jd (uP (T:=.one) (NT:=za7) (NF:=(["_law_parts","_law_paper","_law_day"]:List Str)) (js:=[0,2,4]) (o7.ok (N0:=za0) (mL:=dw Js) (by decide +kernel) rfl rfl) (⟨_,⟨_,rfl⟩,rfl⟩) rfl (GD (aQ (pv 1))) (λb=>⟨(xN (sU (aC (bZ T8 (hr.mono (by decide)) rfl (aL (aW (pv 1)) (aL (aW (pv 2)) (aL (aW (pv 3)) (aL (aW (pv 0)) bG)))))))),(aW (pv 0))⟩)) (jd (abd (aQ (pv 3)) (j8 bG)) rm)) rfl) (bW (pQ mU rfl (uA rfl T.qt (aC (jb oM oV rfl T.mH (by decide +kernel) (eX (aQ (pv 5)) gn)))) (jc (i:=7) Ef.nd rfl (dg rfl)) nA (cN (pQ mU rfl (z6 (aW (pv 5))) (jc (i:=8) Ef.nd rfl (dg rfl)) nA (cN (mZ (gq (sO hr.cj) sY (aC (dF (dD hr.cj) dG (aQ (pv 8)) (aC (aV aX)) (λ_ _=>rfl))) (aQ (pv 6)) (by with_unfolding_all rfl)) (bW (zJ (i:=9) (j:=10) rfl Ef.nd rfl rfl (by decide) rfl rfl (jd (cz fV fW (aC (dF (dD hr.cj) dG (aQ (pv 6)) (aC (dF (dD hr.cj) dG (aQ (pv 8)) (aC (aV aX)) (λ_ _=>rfl))) (λ_ _=>rfl))) (aC (j8 (aL (dF (dD hr.cj) dG (aQ (pv 8)) (aC (aV aX)) (λ_ _=>rfl)) bG)))) (jd (am7 hr.cj (aQ (pv 6)) (aC (dF (dD hr.cj) dG (aQ (pv 8)) (aC (aV aX)) (λ_ _=>rfl))) (aV zF) ⟨rfl,rfl,rfl,rfl⟩) rm)) rfl) (cN (mZ (PW.pt (CN (gq K6 Lb (aQ (pv 10)) (aC (aV zF)) (gY _)) (FZ (gq (anr hr.cj) ant (aC (oU (aL (jb oM oV rfl T.mH (by decide +kernel) (eX (aQ (pv 9)) gn)) (aL (aW (pv 9)) bG)))) (aC (oU (aL (jb oM oV rfl T.mH (by decide +kernel) (eX (aQ (pv 10)) gn)) (aL (aW (pv 10)) bG)))) (gY _))))) (cN (Cp hr.cj (pv 6) (aC (dF (dD hr.cj) dG (aQ (pv 8)) (aC (aV aX)) (λ_ _=>rfl))) (aW (pv 9)))) mY))) mY))))) (cN (sE (pv 6))))))
theorem anv{P:bL}{w:bI}{K:aM}{mg:Str->Option Value}{base:bC}{f:aq}{fd:dZ}(F:gC K "law" "law" Gw f fd)(T:Txt K mg)(Ox:dR P w K mg base "leaves_in_all" 4 zac (spT K DQ))(PJ:dR P w K mg base "_law_drawn_from" 1 zao (spT K Jb))(cL:dR P w K mg base "_law_pick" 2 zap (spT K cC))(Fp:dR P w K mg base "_law_same" 3 zaq (spT K (uE 3)))(Qu:dR P w K mg base "_law_shuffled" 3 zas (spT K Ej))(Qv:dR P w K mg base "_law_house_of" 1 zax (spT K Jv))(T9:dR P w K mg base "_law_case" 5 zay (spT K Fo))(Jx:dR P w K mg base "_law_all_rows" 3 za1 (spT K Bp)):dX P w K mg base fZ 6 f fd za3 (spT K De):=
 jA (body:=Vw) F mD λcdv A outer s H E hr=>(bW (pQ mU rfl (uA rfl T.qt (aC (cz fV fW (aC (aV aX)) (aC (jb (JN rfl) KC rfl T.zT (by decide +kernel) (eX (aC (aV aX)) (eX (aC (ab5 (pv 0) rfl T.mH (by decide +kernel))) gn))))))) (jc (i:=1) mD.nd rfl (dg rfl)) nA (bW (am2 (i:=2) mD.nd rfl (dg rfl) (bZ PJ (hr.mono (by decide)) rfl (aL (aW (pv 0)) (aL (aW (pv 1)) bG)))) (bW (alQ (is:=[3,4,5,6,7]) T9 (hr.mono (by decide)) rfl (aL (aW (pv 2)) (aL (aV aX) bG)) (Ca rfl (oN (jc (i:=3) mD.nd rfl (dg rfl)) (oN (jc (i:=4) mD.nd rfl (dg rfl)) (oN (jc (i:=5) mD.nd rfl (dg rfl)) (oN (jc (i:=6) mD.nd rfl (dg rfl)) (oN (jc (i:=7) mD.nd rfl (dg rfl)) BJ))))))) (bW (pQ mU rfl (z6 (oZ (aQ (pv 5)) uQ (lU (aC (aV aX))))) (jc (i:=8) mD.nd rfl (nF rfl)) nA (cN (mZ (gq (uI hr.units) uM (aC (bZ cL (hr.mono (by decide)) rfl (aL (aW (pv 2)) (aL (aV aX) bG)))) (aC (aV aX)) (gY _)) (cN (xQ (pv 5) (cz fV fW (aC (oU (aL (cz fV fW (aC (cz fV fW (aC (dF (dD hr.cj) dG (aC (dF (dD hr.cj) dG (aQ (pv 5)) (aC (am0 (aC (aV aX)))) (λ_ _=>rfl))) (aC (aV aX)) (λ_ _=>rfl))) (aC (aV aX)))) (aC (bZ cL (hr.mono (by decide)) rfl (aL (aW (pv 2)) (aL (aV aX) bG))))) bG))) (aC (oZ (aQ (pv 8)) (lU (aC (aV aX))) uQ))))) mY))) (bW (zJ (i:=9) (j:=10) rfl mD.nd rfl rfl (by decide) rfl rfl (jd (bZ Qv (hr.mono (by decide)) rfl (aL (aW (pv 3)) (aL (aW (pv 5)) bG))) (jd (oZ (aC (bZ Qu (hr.mono (by decide)) rfl (aL (aW (pv 2)) (aL (aW (pv 4)) bG)))) uQ (lU (aC (aV aX)))) rm)) rfl) (cN (pQ mU rfl (z6 (aW (pv 10))) (jc (i:=11) mD.nd rfl (dg rfl)) nA (bW (Tr (is:=[12,13]) (jd (bZ Jx (hr.mono (by decide)) rfl (aL (aW (pv 3)) (aL (aW (pv 5)) (aL (aW (pv 6)) (aL (aW (pv 11)) (aL (aW (pv 7)) bG)))))) (jd RC rm)) (Ca rfl (oN (jc (i:=12) mD.nd rfl (nF rfl)) (oN (jc (i:=13) mD.nd rfl (nF rfl)) BJ)))) (bW (pQ mU rfl (z6 (aW (pv 5))) (jc (i:=8) mD.nd rfl (nF rfl)) nA (bW (RM (i:=14) (T:=.one) (NT:=(["_law_one"]:List Str)) (NF:=za7) (js:=[8]) (o7.ok (N0:=za2) (mL:=dw Gw) (by decide +kernel) rfl rfl) (⟨_,⟨_,rfl⟩,rfl⟩) rfl (GD (aQ (pv 5))) (λb=>⟨(xN (gq (zH hr.units) zQ (aQ (pv 0)) (aQ (pv 1)) (gY _))),(aW (pv 0))⟩) (by rfl) mD.nd rfl rfl) (cN (Cp hr.cj (pv 13) (aC (dF (dD hr.cj) dG (aQ (pv 8)) (aC (aV aX)) (λ_ _=>rfl))) (bZ Jx (hr.mono (by decide)) rfl (aL (aW (pv 3)) (aL (aW (pv 14)) (aL (aW (pv 6)) (aL (aW (pv 11)) (aL (aW (pv 7)) bG)))))))))) (cN (pQ mU rfl (z6 (aW (pv 10))) (jc (i:=15) mD.nd rfl (nF rfl)) nA (bW (RM (i:=16) (T:=.one) (NT:=(["_law_number"]:List Str)) (NF:=(["_law_signer","_law_rows","_law_lost"]:List Str)) (js:=[15,12,13]) (o7.ok (N0:=za2) (mL:=dw Gw) (by decide +kernel) rfl rfl) (⟨_,⟨_,rfl⟩,rfl⟩) rfl (GD (aC (jb (agE rfl) akf rfl T.xF (by decide +kernel) (eX (aQ (pv 13)) gn)))) (λb=>⟨(xN (PW.pt (uJ (gq (sO hr.cj) sY (aQ (pv 1)) (aQ (pv 2)) (by with_unfolding_all rfl)) (BR (gq (JW hr.cj) J9 (aQ (pv 1)) (aC (dF (dD hr.cj) dG (aQ (pv 3)) (aQ (pv 0)) (λ_ _=>rfl))) (by with_unfolding_all rfl)))))),(aW (pv 0))⟩) (by rfl) mD.nd rfl rfl) (cN (pQ mU rfl (uA rfl T.qt (aC (aV aX))) (jc (i:=17) mD.nd rfl (dg rfl)) nA (bW (gh (i:=18) mD.nd rfl (dg rfl) (bZ Ox (hr.mono (by decide)) rfl (aL (aW (pv 9)) (aL (aW (pv 6)) (aL (aW (pv 11)) (aL (aW (pv 15)) (aL (aW (pv 7)) bG))))))) (bW (mZ (Uv (sU (aC (bZ Fp (hr.mono (by decide)) rfl (aL (aW (pv 18)) (aL (aW (pv 16)) bG)))))) (cN (jq (aV Lk))) mY) (cN (xQ (pv 18) (aV aX))))))))))))))))))) (cN (jq (aV Lk))))
local macro_rules|`(tactic|simp_arith[$ts,*])=>`(tactic|simp only[aoA,aoB,aoC,aof,aog,aph,aoh,api,aoi,apj,aoj,aU,dI,pW,Gz,aN,dat,still,bM,fX,aH,aY,dJ,fQ,gK,di,bK,iC,oX,jW,Mi,jh,mK,vK,iB,iV,Ag,iV2,Wq,V0,j0,frB,lW,setM,Mp,Dt,vH,CP,fJ,f9,add_int,sub_int,le_int,lt_int,ge_int,gt_int,eq_int,alB,KJ,alA,apm,apn,V2,V3,aee,apd,ape,apf,apg,aj9,apk,ani,aok,aol,apl,Option.bind_some,Option.map_some,List.getElem?_cons_zero,List.getElem?_cons_succ,List.set_cons_zero,List.set_cons_succ,List.map_cons,List.map_nil,List.length_cons,List.length_nil,Bool.not_true,Bool.not_false,if_true,if_false,ite_self,Bool.false_eq_true,Option.join,id_eq,Nat.reduceAdd,Nat.reduceLeDiff,Nat.reduceLT,and_true,true_and,and_self,String.reduceBEq,Bool.or_false,Bool.or_true,Bool.false_or,Bool.true_or,Bool.and_true,Bool.and_false,Bool.true_and,Bool.false_and,decide_true,decide_false,reduceCtorEq,eq_bool,ne_bool,ne_int,aom,aon,beq_self_eq_true,List.length_map,aoo,aop,aoq,aor,aos,aot,aou,aov,aow,aox,aap,aas,tY,Dj,intD,Mg,cond_true,cond_false,$ts,*])
theorem ac4{C:Ce}{c k:Int}(k0:0<=k)(k1:k<=1000000):∃r:Int,Gd [.im (.int c),.im (.int k)] C=aa (.im (.int r),C)/\0<=r:=by
 obtain⟨m,hm⟩:∃m,(c%2147483629+k*k*7919+11)*48271%2147483647=m:=⟨_,rfl⟩
 have m0:0<=m:=by rw[<-hm];exact oH _ (by decide)
 have m1:m<2147483647:=by rw[<-hm];exact uo _ (by decide)
 refine⟨m*m%1999999973,gZ [aa (.im (.int c)),aa (.im (.int k)),aj] rfl rfl ?_ rfl rfl,oH _ (by decide)⟩
 simp_arith[U5,mod_eq (i:=c) (j:=2147483629) (by decide),mul_eq (i:=k) (j:=k) (.inl (by lia)),mul_eq (i:=k*k) (j:=7919) (.inr (by decide)),mul_eq (i:=c%2147483629+k*k*7919+11) (j:=48271) (.inr (by decide)),mod_eq (i:=(c%2147483629+k*k*7919+11)*48271) (j:=2147483647) (by decide),hm,mul_eq (i:=m) (j:=m) (.inl (by lia)),mod_eq (i:=m*m) (j:=1999999973) (by decide)]
theorem eY{C:Ce}{b L k:Nat}{m:Int}(h:Bl L C b (k+1))(h0:0<m)(h1:m<1073741824):
  ∃t C',cC [.ce b,.im (.int m)] C=aa (.im (.int t),C')/\0<=t/\t<m/\Bl L C' b k:=by
 obtain⟨hL,x,y,z,hc,hx,hz,hz2⟩:=h
 have i0:oE 3 0=aa 0:=rfl;have i2:oE 3 2=aa 2:=rfl;have c2:(C.set b [x,y,z+1])[b]?=aa [x,y,z+1]:=acY hc;by_cases hp:0<x
 .refine⟨x%m,(C.set b [x,y,z+1]).set b [x / m,y,z+1],gZ [aa (.ce b),aa (.im (.int m)),aj] rfl rfl ?_ rfl (by simp),oH _ (by lia),uo _ h0,⟨by simpa using hL,x / m,y,z+1,acY c2,agy hx (by lia),by lia,by lia⟩⟩
  simp_arith[KR,tU,hc,c2,hp,mod_eq h0,fdiv_eq h0 h1,o9,rB,i0,i2]
 .obtain⟨r1,e1,p1⟩:=ac4 (C:=C.set b [x,y,z+1]) (c:=y) (k:=z+1) (by lia) (by lia)
  obtain⟨r2,e2,p2⟩:=ac4 (C:=C.set b [x,y,z+1]) (c:=r1) (k:=z+1+64) (by lia) (by lia)
  refine⟨r2 / 64%m,C.set b [x,y,z+1],gZ [aa (.ce b),aa (.im (.int m)),aj] rfl rfl ?_ rfl (by simp),oH _ (by lia),uo _ h0,⟨by simpa using hL,x,y,z+1,c2,hx,by lia,by lia⟩⟩
  simp_arith[KR,tU,hc,c2,hp,o9,rB,i0,i2,e1,e2,fdiv_eq (j:=64) (by lia) (by lia),mod_eq h0]
theorem akm{C:Ce}{ns:List Int}{k:Int}(k0:0<=k)(k9:k<=100):∃x y:Int,Jb [.sc ns,.im (.int k)] C=aa (.ow (.list [.int x,.int y,.int 0]),C)/\0<=x:=by
 obtain⟨c,hc⟩:∃c:Int,zY (dI (aO vU (aK 1) (az (ye 0)))) (GF 0 (aK 1)) (aN (.int 0)) [aa (.sc ns),aa (.im (.int k)),aj] C=aa (.im (.int c),[aa (.sc ns),aa (.im (.int k)),aj],C):=by
  by_cases h:k<ns.length
  .obtain⟨c,hc,_⟩:=acZ (xs:=ns) k0 h
   exact⟨c,by simp_arith[ye,GF,h,hc]⟩
  .exact⟨0,by simp_arith[ye,h]⟩
 have a0:0<=(if c<0 then -c else c):=by split<;>lia
 obtain⟨a,hA⟩:∃a,(if c<0 then -c else c)=a:=⟨_,rfl⟩
 rw[hA] at a0;have pw:xY (.int 10) (.int 18)=aa (.im (.int 1000000000000000000)):=rfl
 obtain⟨j,x,hj,hx,x0⟩:∃(j x:Int),(if decide (1000000000000000000<=a)=ao then(1:Int) else 0)=j/\fY [lQ 0,.int a] j=aa (.int x)/\0<=x:=by
  by_cases h:1000000000000000000<=a
  .exact⟨1,a,by rw[bz (gk h)],rfl,a0⟩
  .exact⟨0,0,by rw[bH (by simpa using h)],rfl,Bh _⟩
 refine⟨x,c+1000003*k,gZ [aa (.sc ns),aa (.im (.int k)),aj] rfl rfl ?_ rfl rfl,x0⟩
 simp_arith[Pu,↓hc,Gk,hA,pw,yf,hj,hx,mul_eq (i:=1000003) (j:=k) (.inl (by decide))]
theorem alS{fe:FE}(he:fe=aO bQ (aK 1) (az (bM cC (aH (aU 2) (aH (aN (.int 26)) aY))))){C:Ce}{b L j:Nat}{size:Int}(h:Bl L C b (j+3))(h0:0<=size)(h1:size<=3):
  ∃(cs:List Nat)(C':Ce),kj .one jB fe [aa (.im (.str abc)),aa (.ce b)] (jt 0 size.toNat) C=aa ((cs.map λc=>.str ⟨#[c]⟩),C')/\cs.length=size.toNat/\(∀c∈cs,97<=c/\c<=122)/\Bl L C' b j:=by
 subst he;refine hide λGG gg=>?_
 obtain⟨ys,C',e,hB,hl,hr⟩:=aan (T:=.one) (fe:=aO bQ (aK 1) (az (bM cC (aH (aU 2) (aH (aN (.int 26)) aY))))) (fs:=[aa (.im (.str abc)),aa (.ce b)]) (λi C1=>Bl L C1 b (j+(3-i))) (λ_ y=>∃c:Nat,y=.str ⟨#[c]⟩/\97<=c/\c<=122) (its:=jt 0 size.toNat) (C:=C) (k:=0) h (λi d C1 hd hB=>by
  obtain⟨rfl,hi⟩:=Ff hd
  rw[Jh] at hB⊢;rw[ank j (by lia:i<3)] at hB
  obtain⟨k1,C2,e1,a1,b1,iZ⟩:=eY (m:=26) hB (by decide) (by decide)
  refine⟨_,.im (.str ⟨#[97+k1.toNat]⟩),[aa (.im (.int (0+i))),aa (.im (.str abc)),aa (.ce b)],C2,.str ⟨#[97+k1.toNat]⟩,rfl,?_,rfl,⟨_,rfl,by lia,by lia⟩,iZ⟩
  simp_arith[eN,jL,jm,e1,bQ,letters k1 a1 b1])
 rw[Kg] at hB hl
 obtain⟨cs,rfl,hcs⟩:∃cs:List Nat,ys=cs.map (λc=>.str ⟨#[c]⟩)/\∀c∈cs,97<=c/\c<=122:=by
  clear e hl hB gg;induction ys with
  |nil=>exact⟨[],rfl,λ_ m=>(nomatch m)⟩
  |cons y ys ih=>
   obtain⟨c,rfl,c1,c2⟩:=hr 0 y rfl
   obtain⟨cs,rfl,h2⟩:=ih λi z hz=>hr (i+1) z (by simpa using hz)
   exact⟨c::cs,rfl,λx hx=>by
    rcases cB.mp hx with rfl|hx
    .exact⟨c1,c2⟩
    .exact h2 x hx⟩
 exact gg ⟨cs,C',e,by simpa using hl,hcs,hB.mono (Ol _ _)⟩
theorem ack{cs:List Nat}(h:cs.length<=100):∃z:Str,Lf (.str (gf "")) (.list (cs.map λc=>.str ⟨#[c]⟩))=aa (.im (.str z))/\z.cps.toList=cs/\z.length=cs.length:=by
 refine⟨Txt.join (gf "") (cs.map λc=>⟨#[c]⟩),?_,Z0 cs,?_⟩
 .simp only[Lf,Zg];refine bz ?_;rw[dW,ab8,ai2,Nat.mul_zero];unfold f9;lia
 .have:=congrArg mq (Z0 cs);rw[<-this];show _=(Txt.join (gf "") (cs.map λc=>⟨#[c]⟩)).cps.toList.length;simp;rfl
theorem Ua(n:Nat):jt 0 n=(fB n).map λ(i:Nat)=>lQ (i:Int):=by
 unfold jt;refine u9 λi _=>?_
 rw[aho]
theorem ajc{C:Ce}(f:Int):kj .one jB Im [aa (.im (.str abc)),aa (.im (.int f))] (jt 0 8) C=aa ((nM f).map (λc=>.str ⟨#[c]⟩),C):=by
 rw[Ua];have:=qT (T:=.one) (ft:=jB) (fe:=Im) (fs:=[aa (.im (.str abc)),aa (.im (.int f))]) (C:=C) (λ(i:Nat)=>lQ (i:Int)) (λ_=>ao) (λ(k:Nat)=>.str ⟨#[97+((f+5*(k:Int))%26).toNat]⟩) (l:=fB 8) λk _=>by
  have a1:0<=(f+5*(k:Int))%26:=oH _ (by decide);have a2:(f+5*(k:Int))%26<26:=uo _ (by decide)
  refine⟨[.int (k:Int)],rfl,rfl,λ_=>⟨.im (.str ⟨#[97+((f+5*(k:Int))%26).toNat]⟩),[aa (.im (.int (k:Int))),aa (.im (.str abc)),aa (.im (.int f))],?_,rfl⟩⟩
  simp_arith[eN,jL,jm,mul_eq (i:=5) (j:=(k:Int)) (.inl (by decide)),mod_eq (i:=f+5*(k:Int)) (j:=26) (by decide),bQ,letters _ a1 a2]
 rw[Xu.mpr λ_ _=>rfl] at this;unfold nM;rw[dW];exact this
theorem akn{C:Ce}{f s:Int}(s0:0<s)(s1:s<=675)(n:Nat):kj .one jB Il [aa (.im (.str abc)),aa (.im (.int f)),aa (.im (.int s))] (jt 0 n) C=aa (((fB n).map (n1 f s)).map .str,C):=by
 rw[Ua];have:=qT (T:=.one) (ft:=jB) (fe:=Il) (fs:=[aa (.im (.str abc)),aa (.im (.int f)),aa (.im (.int s))]) (C:=C) (λ(i:Nat)=>lQ (i:Int)) (λ_=>ao) (λ(k:Nat)=>.str (n1 f s k)) (l:=fB n) λk _=>by
  have a1:0<=(f+s*(k:Int))%26:=oH _ (by decide);have a2:(f+s*(k:Int))%26<26:=uo _ (by decide)
  refine⟨[.int (k:Int)],rfl,rfl,λ_=>⟨.im (.str (n1 f s k)),[aa (.im (.int (k:Int))),aa (.im (.str abc)),aa (.im (.int f)),aa (.im (.int s))],?_,rfl⟩⟩
  simp_arith[eN,jL,jm,mul_eq (i:=s) (j:=(k:Int)) (.inl (by lia)),mod_eq (i:=f+s*(k:Int)) (j:=26) (by decide),bQ,letters _ a1 a2];rfl
 rw[Xu.mpr λ_ _=>rfl] at this;rw[dW];exact this
theorem ako{C:Ce}{z:Str}(hz:z.length<=8)(n:Nat):kj .one jB Oh [aa (.im (.str z)),aa (.im (.int (1+(n:Int))))] (jt 0 (8-n)) C=aa ((sb z n).map .str,C):=by
 rw[Ua];have hl:(z.length<=1000000)=True:=eq_true (by lia);have:=qT (T:=.one) (ft:=jB) (fe:=Oh) (fs:=[aa (.im (.str z)),aa (.im (.int (1+(n:Int))))]) (C:=C) (λ(i:Nat)=>lQ (i:Int)) (λ_=>ao) (λ(k:Nat)=>.str (sl z (n+1) k)) (l:=fB (8-n)) λk _=>by
  refine⟨[.int (k:Int)],rfl,rfl,λ_=>⟨.im (.str (sl z (n+1) k)),[aa (.im (.int (k:Int))),aa (.im (.str z)),aa (.im (.int (1+(n:Int))))],?_,rfl⟩⟩
  have e:(k:Int)+(1+(n:Int))=(k:Int)+((n+1:Nat):Int):=by lia
  simp_arith[eN,jL,jm,gF,fO,m7,hl,e];rfl
 rw[Xu.mpr λ_ _=>rfl] at this;unfold sb;rw[dW];exact this
theorem Vx{x y:Str}(h:x.length+y.length<=1000000):cG (.str x) (.str y)=aa (.im (.str (x++y))):=bz h
abbrev gB(b:Nat)(m:Int)(hd tl:Str)(f s:Int)(v7 v8 v9 v10 v11 bT:Option Vl):En:=
 [aa (.ce b),aa (.im (.int m)),aa (.im (.str abc)),aa (.im (.str hd)),aa (.im (.str tl)),aa (.im (.int f)),aa (.im (.int s)),v7,v8,v9,v10,v11,bT]
theorem aoD{C:Ce}{b:Nat}{m f s k q:Int}{hd tl:Str}{v7 v8 v9 v11 bT:Option Vl}(k0:0<=k)(k1:k<40)(hq:(k*k+f)%4=q):aO lD (az (aO cG (az (aO jV (aK 10) (aK 10))) (aK 5))) (az (aN (.int 4))) (gB b m hd tl f s v7 v8 v9 (aa (.im (.int k))) v11 bT) C=aa (.im (.int q),gB b m hd tl f s v7 v8 v9 (aa (.im (.int k))) v11 bT,C):=by
 have m1:jV (.int k) (.int k)=aa (.im (.int (k*k))):=mul_eq (.inl (by lia));generalize k*k=kk at m1 hq;have m2:lD (.int (kk+f)) (.int 4)=aa (.im (.int ((kk+f)%4))):=mod_eq (by lia);rw[hq] at m2;simp_arith[gB,m1,m2]
theorem aoE{C:Ce}{b:Nat}{m f s k q:Int}{hd tl cut:Str}{v7 v8 v9 v11 bT:Option Vl}(k0:0<=k)(k1:k<40)(hq:(k*k+f)%4=q)(ht:tl.length<=3)(hc:Txt.slice tl aj (aa q)=cut):gF (aK 4) jl (fO (az (aO lD (az (aO cG (az (aO jV (aK 10) (aK 10))) (aK 5))) (az (aN (.int 4)))))) (gB b m hd tl f s v7 v8 v9 (aa (.im (.int k))) v11 bT) C=aa (.im (.str cut),gB b m hd tl f s v7 v8 v9 (aa (.im (.int k))) v11 bT,C):=by
 have e:=aoD (C:=C) (b:=b) (m:=m) (s:=s) (hd:=hd) (tl:=tl) (v7:=v7) (v8:=v8) (v9:=v9) (v11:=v11) (bT:=bT) k0 k1 hq;have q1:(tl.length<=1000000)=True:=eq_true (by lia);simp only[gB] at e⊢;simp_arith[gF,jl,fO,↓e,m7,q1,hc]
theorem anw{C:Ce}{b:Nat}{m f s k q v:Int}{hd tl cut tw ht nm:Str}{acc:List au}{v7 v9:Option Vl}(k0:0<=k)(k1:k<40)(hq:(k*k+f)%4=q)(hl:tl.length<=3)(hc:Txt.slice tl aj (aa q)=cut)(t2:cG (.str hd) (.str tw)=aa (.im (.str ht)))(t3:cG (.str ht) (.str cut)=aa (.im (.str nm)))(la:(acc.length<1000000)=True):
  lG 8 (aO cG (az (aO cG (aK 3) (aK 12))) (az (gF (aK 4) jl (fO (az (aO lD (az (aO cG (az (aO jV (aK 10) (aK 10))) (aK 5))) (az (aN (.int 4))))))))) (gB b m hd tl f s v7 (aa (.ow (.list acc))) v9 (aa (.im (.int k))) (aa (.im (.int v))) (aa (.im (.str tw)))) C=aa (.nx,gB b m hd tl f s v7 (aa (.ow (.list (acc++[.str nm])))) v9 (aa (.im (.int k))) (aa (.im (.int v))) (aa (.im (.str tw))),C):=by
 have e:=aoE (C:=C) (b:=b) (m:=m) (s:=s) (hd:=hd) (tl:=tl) (v7:=v7) (v8:=aa (.ow (.list acc))) (v9:=v9) (v11:=aa (.im (.int v))) (bT:=aa (.im (.str tw))) k0 k1 hq hl hc;simp only[gB] at e⊢;simp_arith[lG,oY,t2,↓e,t3,la]
theorem anx{C:Ce}{b:Nat}{m f s:Int}{hd tl z:Str}{i:Nat}{v10 v11 bT:Option Vl}(hz:z.length=8)(hi:i<8):
  Av (gB b m hd tl f s (aa (.im (.str z))) (aa (.ow (.list ((subs z i).map .str)))) (aa (.im (.int (1+(i:Int))))) v10 v11 bT) C=aa (.nx,gB b m hd tl f s (aa (.im (.str z))) (aa (.ow (.list ((subs z (i+1)).map .str)))) (aa (.im (.int (1+(i:Int))))) v10 v11 bT,C):=by
 have e:=ako (C:=C) (z:=z) (by lia) i;have e1:(9-(1+(i:Int))).toNat=8-i:=by lia
 have l1:(sb z i).length<=8:=by unfold sb;rw[bw,lZ];lia
 have l2:(subs z i).length<=64:=by
  unfold subs sb;rw[afI];have:∀n,n<=8->((fB n).map λa=>((fB (8-a)).map (sl z (a+1))).length).sum<=8*n:=by
   intro n;induction n with
   |zero=>intro _;exact cg _
   |succ n ih=>
    intro h;rw[Ys,gQ,List.sum_append];have:=ih (by lia);simp only[cJ,mW,agP,List.sum_nil,bw,lZ] at this⊢;lia
  have:=this i (by lia);lia
 have q1:((sb z i).length<=1000000)=True:=eq_true (by lia);have q2:((subs z i).length+(sb z i).length<=1000000)=True:=eq_true (by lia);have es:subs z (i+1)=subs z i++sb z i:=by
  unfold subs;rw[Ys,List.flatMap_append,List.flatMap_singleton]
 rw[es,gQ];simp_arith[Av,gB,Mr,oY,ju,yw (m:=9-(1+(i:Int))) (by lia) (by lia),e1,e,q1,q2]
theorem anz{C:Ce}{b:Nat}{m f s:Int}{hd tl:Str}{i:Nat}{v7 v9 v11 bT:Option Vl}(f0:0<=f)(f1:f<676)(s0:0<s)(s1:s<=675)(hi:i<40)(hh:hd.length<=3)(ht:tl.length<=3):
  ∃w11 w12,Ar (gB b m hd tl f s v7 (aa (.ow (.list (((fB i).map (n2 hd tl f s λk=>((k:Int)*k+f)%4)).map .str)))) v9 (aa (.im (.int (i:Int)))) v11 bT) C
   =aa (.nx,gB b m hd tl f s v7 (aa (.ow (.list (((fB (i+1)).map (n2 hd tl f s λk=>((k:Int)*k+f)%4)).map .str)))) v9 (aa (.im (.int (i:Int)))) w11 w12,C):=by
 obtain⟨v,hv⟩:∃v,v2 f s i=v:=⟨_,rfl⟩
 have hv':(f+s*(i:Int))%676=v:=hv;have v0:0<=v:=by rw[<-hv];exact oH _ (by decide)
 have v1:v<676:=by rw[<-hv];exact uo _ (by decide)
 have a1:0<=v / 26:=agy v0 (by decide);have a2:v / 26<26:=by lia
 have a3:0<=v%26:=oH _ (by decide);have a4:v%26<26:=uo _ (by decide);have t1:cG (.str ⟨#[97+(v / 26).toNat]⟩) (.str ⟨#[97+(v%26).toNat]⟩)=aa (.im (.str (two v))):=Vx (by show 1+1<=1000000;lia);have lt:(two v).length=2:=by
  show((#[97+(v / 26).toNat]:Array Nat)++#[97+(v%26).toNat]).size=2
  rw[XX];rfl
 have t2:cG (.str hd) (.str (two v))=aa (.im (.str (hd++two v))):=Vx (by rw[lt];lia);have l3:=PyProof.Txt.length_slice_le tl aj (aa (((i:Int)*i+f)%4));have l4:(hd++two v).length=hd.length+2:=by
  show(hd.cps++(two v).cps).size=hd.cps.size+2
  rw[XX,show(two v).cps.size=2 from lt]
 have t3:cG (.str (hd++two v)) (.str (Txt.slice tl aj (aa (((i:Int)*i+f)%4))))=aa (.im (.str (n2 hd tl f s (λk=>((k:Int)*k+f)%4) i))):=by
  unfold n2;rw[hv];exact Vx (by rw[l4];lia)
 have q1:(tl.length<=1000000)=True:=eq_true (by lia);have q2:(i<1000000)=True:=eq_true (by lia)
 obtain⟨acc,hacc⟩:∃acc,acc=((fB i).map (n2 hd tl f s λk=>((k:Int)*k+f)%4)).map eV:=⟨_,rfl⟩
 have la:(acc.length<1000000)=True:=eq_true (by rw[hacc,bw,bw,lZ];lia);have hn:((fB (i+1)).map (n2 hd tl f s λk=>((k:Int)*k+f)%4)).map eV=acc++[.str (n2 hd tl f s (λk=>((k:Int)*k+f)%4) i)]:=by
  rw[Ys,gQ,gQ,hacc];rfl
 rw[hn,<-hacc];clear hn hacc;generalize n2 hd tl f s (λk=>((k:Int)*k+f)%4) i=nm at t3⊢
 obtain⟨cut,V4⟩:∃c,Txt.slice tl aj (aa (((i:Int)*i+f)%4))=c:=⟨_,rfl⟩
 rw[V4] at t3;have s1:di 11 (aO lD (az (aO cG (aK 5) (az (aO jV (aK 6) (aK 10))))) (az (aN (.int 676)))) (gB b m hd tl f s v7 (aa (.ow (.list acc))) v9 (aa (.im (.int (i:Int)))) v11 bT) C=aa (.nx,gB b m hd tl f s v7 (aa (.ow (.list acc))) v9 (aa (.im (.int (i:Int)))) (aa (.im (.int v))) bT,C):=by
  simp_arith[gB,mul_eq (i:=s) (j:=(i:Int)) (.inl (by lia)),mod_eq (i:=f+s*(i:Int)) (j:=676) (by lia),hv']
 have s2:di 12 (aO cG (az (aO bQ (aK 2) (az (aO xO (aK 11) (az (aN (.int 26))))))) (az (aO bQ (aK 2) (az (aO lD (aK 11) (az (aN (.int 26)))))))) (gB b m hd tl f s v7 (aa (.ow (.list acc))) v9 (aa (.im (.int (i:Int)))) (aa (.im (.int v))) bT) C=aa (.nx,gB b m hd tl f s v7 (aa (.ow (.list acc))) v9 (aa (.im (.int (i:Int)))) (aa (.im (.int v))) (aa (.im (.str (two v)))),C):=by
  simp_arith[gB,fdiv_eq (i:=v) (j:=26) (by lia) (by lia),mod_eq (i:=v) (j:=26) (by lia),bQ,letters _ a1 a2,letters _ a3 a4,t1]
 obtain⟨q,hq⟩:∃q,((i:Int)*(i:Int)+f)%4=q:=⟨_,rfl⟩
 rw[hq] at V4;have s3:=anw (C:=C) (b:=b) (m:=m) (s:=s) (v:=v) (v7:=v7) (v9:=v9) (by lia) (by lia) hq ht V4 t2 t3 la
 refine⟨aa (.im (.int v)),aa (.im (.str (two v))),?_⟩
 unfold Ar;simp only[bK,s1,s2,s3]
theorem acn{fe:FE}(he:fe=aO bQ (aK 1) (az (bM cC (aH (aU 2) (aH (aN (.int 26)) aY))))){C:Ce}{b L j:Nat}{v1 v3 v4 v5 v6 v7 v8 v9 v10 v11 bT:Option Vl}(h:Bl L C b (j+4)):
  ∃(z:Str)(C':Ce),tD (az (aN (.str (gf "")))) (az (j0 (ju (az (bM cC (aH (aU 0) (aH (aN (.int 4)) aY))))) .one jB fe [2,0])) [aa (.ce b),v1,aa (.im (.str abc)),v3,v4,v5,v6,v7,v8,v9,v10,v11,bT] C=aa (.im (.str z),[aa (.ce b),v1,aa (.im (.str abc)),v3,v4,v5,v6,v7,v8,v9,v10,v11,bT],C')/\z.length<=3/\(∀c∈z.cps.toList,97<=c/\c<=122)/\Bl L C' b j:=by
 refine hide λGG gg=>?_
 obtain⟨k1,C1,e1,a1,b1,iZ⟩:=eY (m:=4) h (by decide) (by decide)
 obtain⟨cs,C2,e2,l2,hc,hB2⟩:=alS he (j:=j) (size:=k1) iZ a1 (by lia)
 obtain⟨z,e3,e4,e5⟩:=ack (cs:=cs) (by lia)
 have g5:(k1.toNat<=1000000)=True:=eq_true (by lia);refine gg ⟨z,C2,?_,by lia,by rw[e4];exact hc,hB2⟩;simp_arith[tD,ju,e1,yw (m:=k1) (by lia) (by lia),e2,l2,g5,QH,e3]
theorem anA{C:Ce}{b L j:Nat}{m:Int}(R:FS)(h:Bl L C b (j+10)):
  ∃(hd tl:Str)(f s:Int)(C':Ce),(bK (di 2 (aN (.str (gf "abcdefghijklmnopqrstuvwxyz")))) (bK (di 3 (tD (az (aN (.str (gf "")))) (az (j0 (ju (az (bM cC (aH (aU 0) (aH (aN (.int 4)) aY))))) .one jB Oj [2,0])))) (bK (di 4 (tD (az (aN (.str (gf "")))) (az (j0 (ju (az (bM cC (aH (aU 0) (aH (aN (.int 4)) aY))))) .one jB Oi [2,0])))) (bK (lW [5,6] (gK (bM cC (aH (aU 0) (aH (aN (.int 676)) aY))) (gK (aO bQ (az (jh (aH (aN (.int 1)) (aH (aN (.int 3)) (aH (aN (.int 5)) (aH (aN (.int 7)) (aH (aN (.int 25)) (aH (aN (.int 675)) aY)))))))) (az (bM cC (aH (aU 0) (aH (aN (.int 6)) aY))))) aY))) R)))) [aa (.ce b),aa (.im (.int m)),aj,aj,aj,aj,aj,aj,aj,aj,aj,aj,aj] C
   =R (gB b m hd tl f s aj aj aj aj aj aj) C'/\hd.length<=3/\tl.length<=3/\(∀c∈hd.cps.toList,97<=c/\c<=122)/\(∀c∈tl.cps.toList,97<=c/\c<=122)/\0<=f/\f<676/\Gu s/\Bl L C' b j:=by
 refine hide λGG gg=>?_
 obtain⟨hd,C1,e1,l1,c1,iZ⟩:=acn (fe:=Oj) rfl (j:=j+6) (v1:=aa (.im (.int m))) (v3:=aj) (v4:=aj) (v5:=aj) (v6:=aj) (v7:=aj) (v8:=aj) (v9:=aj) (v10:=aj) (v11:=aj) (bT:=aj) h
 obtain⟨tl,C2,e2,l2,c2,hB2⟩:=acn (fe:=Oi) rfl (j:=j+2) (v1:=aa (.im (.int m))) (v3:=aa (.im (.str hd))) (v4:=aj) (v5:=aj) (v6:=aj) (v7:=aj) (v8:=aj) (v9:=aj) (v10:=aj) (v11:=aj) (bT:=aj) iZ
 obtain⟨f,C3,e3,f0,f1,hB3⟩:=eY (m:=676) hB2 (by decide) (by decide)
 obtain⟨k,C4,e4,k0,k1,ug⟩:=eY (m:=6) hB3 (by decide) (by decide)
 obtain⟨s,e5,hs⟩:=step_at k0 k1
 refine gg ⟨hd,tl,f,s,C4,?_,l1,l2,c1,c2,f0,f1,hs,ug⟩;simp_arith[↓e1,↓e2,e3,e4,e5]
section
variable{C:Ce}{b:Nat}{m f s:Int}{hd tl:Str}
theorem apr{v10 v11 bT:Option Vl}(z:Str)(hz:z.length=8)(v9:Option Vl):∃w9,jf (fJ 9) Av (jt 1 8) (gB b m hd tl f s (aa (.im (.str z))) (aa (.ow (.list []))) v9 v10 v11 bT) C=aa (.nx,gB b m hd tl f s (aa (.im (.str z))) (aa (.ow (.list ((subs z 8).map .str)))) w9 v10 v11 bT,C):=by
 obtain⟨env',C',e,w9,he,hC⟩:=Bt (g:=fJ 9) (body:=Av) (its:=jt 1 8) (env:=gB b m hd tl f s (aa (.im (.str z))) (aa (.ow (.list []))) v9 v10 v11 bT) (C:=C)
  (λi env C1=>∃w9,env=gB b m hd tl f s (aa (.im (.str z))) (aa (.ow (.list ((subs z i).map .str)))) w9 v10 v11 bT/\C1=C) ⟨v9,rfl,rfl⟩ (λi d env C1 hd hI=>by
   obtain⟨w9,rfl,rfl⟩:=hI
   obtain⟨rfl,hi⟩:=Ff hd
   exact⟨_,.nx,_,C1,rfl,anx hz hi,.inl rfl,_,rfl,rfl⟩)
 rw[Kg] at he;subst he;subst hC
 exact⟨w9,e⟩
theorem aps{v7 v9 v11 bT:Option Vl}{n:Nat}(hn:n<=30)(f0:0<=f)(f1:f<676)(hs:Gu s)(hh:hd.length<=3)(ht:tl.length<=3)(v10:Option Vl):
  ∃w10 w11 w12,jf (fJ 10) Ar (jt 0 n) (gB b m hd tl f s v7 (aa (.ow (.list []))) v9 v10 v11 bT) C=aa (.nx,gB b m hd tl f s v7 (aa (.ow (.list (((fB n).map (n2 hd tl f s λk=>((k:Int)*k+f)%4)).map .str)))) v9 w10 w11 w12,C):=by
 obtain⟨env',C',e,w10,w11,w12,he,hC⟩:=Bt (g:=fJ 10) (body:=Ar) (its:=jt 0 n) (env:=gB b m hd tl f s v7 (aa (.ow (.list []))) v9 v10 v11 bT) (C:=C)
  (λi env C1=>∃w10 w11 w12,env=gB b m hd tl f s v7 (aa (.ow (.list (((fB i).map (n2 hd tl f s λk=>((k:Int)*k+f)%4)).map .str)))) v9 w10 w11 w12/\C1=C) ⟨v10,v11,bT,rfl,rfl⟩ (λi d env C1 hd' hI=>by
   obtain⟨w10,w11,w12,rfl,rfl⟩:=hI
   obtain⟨rfl,hi⟩:=Ff hd'
   rw[aho]
   obtain⟨u11,u12,e⟩:=anz (C:=C1) (b:=b) (m:=m) (v7:=v7) (v9:=v9) (v11:=w11) (bT:=w12) (i:=i) f0 f1 hs.1.1 hs.1.2 (by lia) hh ht
   exact⟨_,.nx,_,C1,rfl,e,.inl rfl,_,u11,u12,rfl,rfl⟩)
 rw[Kg] at he;subst he;subst hC
 exact⟨w10,w11,w12,e⟩
end
theorem U6{zs:List Str}{m:Int}(m0:0<=m)(m1:m<=zs.length):lH (zs.map eV) aj (aa m)=(zs.take m.toNat).map .str:=by
 obtain⟨k,rfl⟩:∃k:Nat,m=(k:Int):=⟨m.toNat,by lia⟩
 unfold lH;rw[bw,HT.Ko,show HT.cH zs.length 0 aj=0 from rfl,List.drop_zero,Nat.sub_zero,Y8,yP,Yt (by lia)]
theorem akp{C:Ce}{b L j:Nat}{m:Int}(h:Bl L C b (j+12))(m0:0<=m)(m1:m<=30):
  ∃(zs:List Str)(C':Ce),Jc [.ce b,.im (.int m)] C=aa (.ow (.list (zs.map .str)),C')/\Names zs/\zs.length=m.toNat/\Bl L C' b j:=by
 refine hide λGG gg=>?_
 obtain⟨R,hR⟩:∃R:FS,R=bK (jF (dI (aO m5 (az (bM cC (aH (aU 0) (aH (aN (.int 4)) aY)))) (az (aN (.int 0))))) (bK (lW [7,8] (gK (tD (az (aN (.str (gf "")))) (az (j0 (ju (az (aN (.int 8)))) .one jB Im [2,5]))) (gK (jh aY) aY))) (bK (iT (GP (az (aN (.int 1))) (az (aN (.int 9)))) (fJ 9) Av) (iC (gF (aK 8) jl (fO (aK 1)))))) jW) (bK (jF (nH (dI (aO vU (aK 1) (az (aN (.int 27))))) (dI (aO m5 (az (bM cC (aH (aU 0) (aH (aN (.int 3)) aY)))) (az (aN (.int 0)))))) (iC (j0 (ju (aK 1)) .one jB Il [2,5,6])) jW) (bK (di 8 (jh aY)) (bK (iT (ju (aK 1)) (fJ 10) Ar) (oX 8)))):=⟨_,rfl⟩
 obtain⟨hd,tl,f,s,C1,e1,l1,l2,c1,c2,f0,f1,hs,iZ⟩:=anA (m:=m) (j:=j+2) R h
 rw[hR] at e1
 obtain⟨k,C2,e2,a2,b2,hB2⟩:=eY (m:=4) iZ (by decide) (by decide)
 by_cases hk:k=0
 .subst hk
  obtain⟨z,e3,e4,e5⟩:=ack (cs:=nM f) (by simp[nM])
  have hz:z.length=8:=by rw[e5];simp[nM]
  have st:=ajc (C:=C2) f
  obtain⟨w9,e6⟩:=apr (C:=C2) (b:=b) (m:=m) (f:=f) (s:=s) (hd:=hd) (tl:=tl) (v10:=aj) (v11:=aj) (bT:=aj) z hz aj
  have ct:=U6 (zs:=subs z 8) m0 (by rw[abi];lia);have nm:=aia e4;have q:((nM f).length<=1000000)=True:=eq_true (by simp[nM]);refine gg ⟨(subs z 8).take m.toNat,C2,gZ [aa (.ce b),aa (.im (.int m)),aj,aj,aj,aj,aj,aj,aj,aj,aj,aj,aj] rfl rfl ?_ rfl (h.eq hB2),⟨nm.1.sublist (Ii _ _),λx hx=>nm.2 x (wJ hx)⟩,by rw[pJ,abi];lia,hB2.mono (by lia)⟩;unfold Ec;rw[e1];have i8:Int.toNat 8=8:=rfl;have i9:Int.toNat (9-1)=8:=rfl;have rg2:(-(2^62)<=(1:Int)/\(1:Int)<2^62/\-(2^62)<=(9:Int)/\(9:Int)<2^62)=True:=eq_true (by decide);simp only[gB] at e6;simp_arith[gB,e2,tD,ju,yw (m:=(8:Int)) (by decide) (by decide),i8,st,q,QH,e3,GP,rg2,i9,iT,e6,gF,jl,fO,m7,ct]
 .have hk':(k==0)=aJ:=beq_eq_false_iff_ne.mpr hk;have fin:∀C3,Bl L C3 b j->nH (dI (aO vU (aK 1) (az (aN (.int 27))))) (dI (aO m5 (az (bM cC (aH (aU 0) (aH (aN (.int 3)) aY)))) (az (aN (.int 0))))) (gB b m hd tl f s aj aj aj aj aj aj) C2=aa (aJ,C3)->GG:=λC3 hB3 ht=>by
   obtain⟨w10,w11,w12,e7⟩:=aps (C:=C3) (b:=b) (m:=m) (v7:=aj) (v9:=aj) (v11:=aj) (bT:=aj) (n:=m.toNat) (by lia) f0 f1 hs l1 l2 aj
   refine gg ⟨_,C3,gZ [aa (.ce b),aa (.im (.int m)),aj,aj,aj,aj,aj,aj,aj,aj,aj,aj,aj] rfl rfl ?_ rfl (h.eq hB3),akd (f:=f) (q:=λk=>((k:Int)*k+f)%4) (n:=m.toNat) hs (by lia) l1 l2 c1 c2,by rw[bw,lZ],hB3⟩;unfold Ec;rw[e1];simp only[gB] at e7 ht;simp_arith[gB,e2,hk',↓ht,iT,ju,yw (m:=m) (by lia) (by lia),e7]
  by_cases WK:m<27
  .obtain⟨k6,C3,e3,a3,b3,hB3⟩:=eY (m:=3) hB2 (by decide) (by decide)
   by_cases hk6:k6=0
   .subst hk6;have lc:=akn (C:=C3) (f:=f) (s:=s) hs.1.1 hs.1.2 m.toNat;have q:(m.toNat<=1000000)=True:=eq_true (by lia);refine gg ⟨_,C3,gZ [aa (.ce b),aa (.im (.int m)),aj,aj,aj,aj,aj,aj,aj,aj,aj,aj,aj] rfl rfl ?_ rfl (h.eq hB3),akc (f:=f) (n:=m.toNat) hs (by lia),by rw[bw,lZ],hB3⟩;unfold Ec;rw[e1];simp_arith[gB,e2,hk',WK,e3,ju,yw (m:=m) (by lia) (by lia),lc,lZ,q]
   .have apt:(k6==0)=aJ:=beq_eq_false_iff_ne.mpr hk6;exact fin C3 hB3 (by simp_arith[gB,WK,e3,apt])
  .exact fin C2 hB2.dec (by simp_arith[gB,WK])
theorem ajd{C:Ce}{b L j:Nat}{zs:List Str}(h:Bl L C b (j+16))(h8:zs.length<=8)(hz:Names zs):
  ∃(ps:List (Str×Str))(C':Ce),Jd [.ce b,.im (.list (zs.map .str))] C=aa (.ow (.dict (bu (bY ps))),C')/\iR zs ps/\ps.length=zs.length/\Bl L C' b j:=by
 refine hide λGG gg=>?_
 obtain⟨env',C',e,ps,v3,v4,he,hl,hP,hB⟩:=Bt (g:=Dt 2 (vH (fJ 3) (vH (fJ 4) CP))) (body:=DP) (its:=zR (zs.map .str)) (env:=[aa (.ce b),aa (.im (.list (zs.map .str))),aa (.ow (.dict [])),aj,aj]) (C:=C)
  (λi env C2=>∃(ps:List (Str×Str))(v3 v4:Option Vl),env=[aa (.ce b),aa (.im (.list (zs.map .str))),aa (.ow (.dict (bu (bY ps)))),v3,v4]/\ps.length=i/\iR zs ps/\Bl L C2 b (j+2*(8-i)))
  ⟨[],aj,aj,rfl,rfl,(λi x e=>by simp at e),h⟩ (λi d env C2 hd hI=>by
   obtain⟨ps,v3,v4,rfl,hl,hP,hB⟩:=hI
   obtain⟨x,hx,rfl⟩:=abe hd
   obtain⟨z,hz1,rfl⟩:=anj hx
   refine hide λGG gg=>?_
   have hi:i<zs.length:=(jH.mp hz1).1;rw[Vo j 2 (by lia:i<8)] at hB
   obtain⟨k1,C3,e1,a1,b1,iZ⟩:=eY (m:=4) hB (by decide) (by decide)
   have ct:=U6 (zs:=zs) (m:=(i:Int)) (by lia) (by lia);rw[yP] at ct;have ad:cG (.list [.str (gf "")]) (.list ((zs.take i).map .str))=aa (.ow (.list (eV (gf "")::(zs.take i).map .str))):=add_l (xs:=[.str (gf "")]) (by rw[bw,pJ];show 1+_<=_;lia);have g:((bu (bY ps)).length<1000000)=True:=eq_true (by unfold bu bY;rw[bw,bw];lia);have fin:∀(t:Int)(C4:Ce),0<=t->t<=i->Bl L C4 b (j+2*(8-(i+1)))->(∀y:Str,fY (eV (gf "")::(zs.take i).map .str) t=aa (.str y)->putD (bu (bY ps)) (.str z) (.str y)=aa (bu (bY (ps++[(z,y)])))->
     DP [aa (.ce b),aa (.im (.list (zs.map .str))),aa (.ow (.dict (bu (bY ps)))),aa (.im (.int (i:Int))),aa (.im (.str z))] C2=aa (.nx,[aa (.ce b),aa (.im (.list (zs.map .str))),aa (.ow (.dict (bu (bY (ps++[(z,y)]))))),aa (.im (.int (i:Int))),aa (.im (.str z))],C4))->GG:=λt C4 t0 t1 hB2 run=>by
    obtain⟨y,my,hy1,iy⟩:=uB (zs:=gf ""::zs.take i) (k:=t) t0 (by rw[cZ,pJ];lia)
    have hy2:y=gf ""\/∃j,j<ps.length/\zs[j]?=aa y:=by
     rcases cB.mp my with rfl|my
     .exact .inl rfl
     .obtain⟨jj,hj,e⟩:=wL my
      rw[pJ] at hj;refine .inr ⟨jj,by lia,?_⟩;rw[af1] at e;rw[<-e];exact jJ (by lia)
    have pu:putD (bu (bY ps)) (.str z) (.str y)=aa (bu (bY (ps++[(z,y)]))):=by
     rw[R8 (l:=bY ps) (z:=z) (d:=.str y)]
     .unfold bY;rw[gQ];rfl
     .unfold bY;rw[dW];intro hm
      obtain⟨q,hq,e⟩:=eU.mp hm
      obtain⟨jj,hj,rfl⟩:=wL hq
      have g1:=(hP jj ps[jj] (jJ hj)).1;have e:ps[jj].1=z:=e;rw[e] at g1
      obtain⟨x1,y1⟩:=jH.mp g1
      obtain⟨x2,y2⟩:=jH.mp hz1
      exact HQ.mp hz.1 jj i x1 x2 (by lia) (y1.trans y2.symm)
    rw[cJ] at iy;exact gg ⟨_,.nx,_,C4,rfl,run y iy pu,.inl rfl,ps++[(z,y)],_,_,rfl,by simp[hl],hP.snoc (by rw[hl];exact hz1) hy2,hB2⟩
   by_cases hk:0<k1
   .obtain⟨t,C4,e3,t0,t1,hB2⟩:=eY (m:=(i:Int)+1) iZ (by lia) (by lia)
    exact fin t C4 t0 (by lia) hB2 λy iy pu=>by simp_arith[DP,gF,jl,fO,m7,ct,ad,e1,hk,e3,iy,o9,rB,pu,g]
   .exact fin 0 C3 (by lia) (by lia) iZ.dec λy iy pu=>by simp_arith[DP,gF,jl,fO,m7,ct,ad,e1,hk,iy,o9,rB,pu,g])
 rw[aat,bw] at hl hB;subst he;refine gg ⟨ps,C',gZ [aa (.ce b),aa (.im (.list (zs.map .str))),aj,aj,aj] rfl rfl ?_ rfl (h.eq hB),hP,hl,hB.mono (Ol _ _)⟩;simp_arith[Px,xP,iT,M9,e]
theorem akq{C:Ce}{ps:List (Str×Str)}:∀{z:Str}{os:List Str},Over (jr ps) z os->∀(n:Nat)(acc:List Str),os.length<n->acc.length+os.length<1000->
  ∃z',jU Yg Yh n [aa (.im (.dict (bu (bY ps)))),aa (.im (.str z)),aa (.ow (.list (acc.map .str)))] C=aa (.nx,[aa (.im (.dict (bu (bY ps)))),aa (.im (.str z')),aa (.ow (.list ((acc++os).map .str)))],C):=by
 have hin:∀z,jY (.str z) (.dict (bu (bY ps)))=aa (.im (.bool (jr ps z).isSome)):=λz=>by
  show((nG (bu (bY ps)) (.str z)).map (·.isSome)).map (λb=>Vl.im (.bool b))=_
  rw[Kl];cases jr ps z<;>rfl
 intro z os ho;induction ho with
 |@stop z h=>
  intro n acc hn ha;cases n with
  |zero=>exact absurd hn (yV _)
  |succ n=>
   refine⟨z,?_⟩
   unfold jU;simp_arith[hin,h,XC,lO]
 |@step z y r h _ ih=>
  intro n acc hn ha;cases n with
  |zero=>exact absurd hn (yV _)
  |succ n=>
   rw[cZ] at hn ha
   obtain⟨z',e⟩:=ih n (acc++[z]) (by lia) (by rw[gb];show acc.length+1+_<_;lia)
   refine⟨z',?_⟩
   have g:(acc.length<1000000)=True:=eq_true (by lia);have i:bQ (.dict (bu (bY ps))) (.str z)=aa (.im (.str y)):=by
    unfold bQ tZ;simp only[Kl,h,j6]
   simp only[gQ,cJ,mW,mR,jL,jm] at e⊢;unfold jU;simp_arith[hin,h,Dz,g,lG,oY,i,e]
theorem abq{C:Ce}{zs:List Str}{ps:List (Str×Str)}(hN:Names zs)(hP:iR zs ps)(h8:ps.length<=8)(z:Str):
  Bc [.im (.dict (bu (bY ps))),.im (.str z)] C=aa (.ow (.list ((up ps z).map .str)),C):=by
 have hul:=UL ps z
 obtain⟨z',e⟩:=akq (C:=C) (TQ hN hP z) CQ [] (by show _<100000;lia) (by show 0+_<1000;lia)
 rw[mW,jm] at e;refine gZ [aa (.im (.dict (bu (bY ps)))),aa (.im (.str z)),aj] rfl rfl ?_ rfl rfl;simp_arith[Py,uc,e]
theorem aje{C:Ce}{b L j:Nat}{m:Int}(h:Bl L C b (j+101))(h0:0<=m)(h1:m<=50):
  ∃(ns:List Int)(C':Ce),JZ [.ce b,.im (.int m)] C=aa (.ow (.list (ns.map .int)),C')/\ns.length=m.toNat/\(∀x∈ns,0<=x/\x<=200)/\ns.Pairwise (·<·)/\Bl L C' b j:=by
 refine hide λGG gg=>?_
 obtain⟨k0,C0,e0,a0,b0,hB0⟩:=eY (m:=3) (k:=j+100) h (by decide) (by decide)
 obtain⟨env',C',e,ns,nx,v4,he,hl,hr,hp,hx0,hx1,hB⟩:=Bt (g:=fJ 4) (body:=Qc) (its:=jt 0 m.toNat) (env:=[aa (.ce b),aa (.im (.int m)),aa (.ow (.list [])),aa (.im (.int k0)),aj]) (C:=C0)
  (λi env C1=>∃(ns:List Int)(nx:Int)(v4:Option Vl),env=[aa (.ce b),aa (.im (.int m)),aa (.ow (.list (ns.map .int))),aa (.im (.int nx)),v4]/\ns.length=i/\(∀x∈ns,0<=x/\x<nx)/\ns.Pairwise (·<·)/\0<=nx/\nx<=2+3*i/\Bl L C1 b (j+2*(50-i)))
  ⟨[],k0,aj,rfl,rfl,(λ_ m=>nomatch m),yQ,a0,by lia,hB0⟩ (λi d env C1 hd hI=>by
   obtain⟨ns,nx,v4,rfl,hl,hr,hp,hx0,hx1,hB⟩:=hI
   obtain⟨rfl,hi⟩:=Ff hd
   refine hide λGG gg=>?_
   rw[Vo j 2 (by lia:i<50)] at hB
   obtain⟨k1,C2,e1,a1,b1,iZ⟩:=eY (m:=2) hB (by decide) (by decide)
   obtain⟨k2,C3,e2,a2,b2,hB2⟩:=eY (m:=3) iZ (by decide) (by decide)
   obtain⟨y,hy,y0,y2⟩:∃y,k1*k2=y/\0<=y/\y<=2:=by
    have hk:k1=0\/k1=1:=by lia
    rcases hk with rfl|rfl
    .exact⟨0,by rw[Int.zero_mul],by decide,by decide⟩
    .exact⟨k2,by rw[Int.one_mul],a2,by lia⟩
   have lm:(ns.length<1000000)=True:=eq_true (by lia);refine gg ⟨_,.nx,[aa (.ce b),aa (.im (.int m)),aa (.ow (.list ((ns++[nx]).map .int))),aa (.im (.int (nx+1+y))),aa (.im (.int (0+i)))],C3,rfl,?_,.inl rfl,ns++[nx],nx+1+y,_,rfl,by simp[hl],λx hx=>?_,?_,by lia,by lia,hB2⟩
   .simp_arith[Qc,e1,e2,mul_eq (i:=k1) (j:=k2) (.inl (by lia)),hy,lG,oY,lm,gQ]
   .rcases dB.mp hx with hx|hx
    .have:=hr x hx;lia
    .rw[iY.mp hx];lia
   .rw[HR]
    refine⟨hp,by simp,λx hx z hz=>?_⟩
    rw[iY.mp hz]
    exact(hr x hx).2)
 rw[Kg] at hl hx1 hB;subst he;refine gg ⟨ns,C',gZ [aa (.ce b),aa (.im (.int m)),aj,aj,aj] rfl rfl ?_ rfl (h.eq hB),hl,λx hx=>?_,hp,hB.mono (Ol _ _)⟩
 .simp_arith[Rh,e0,iT,ju,yw (m:=m) (by lia) (by lia),e]
 .have:=hr x hx;lia
theorem abr{C:Ce}:∀(l q:List (Str×Str)),((q++l).map (·.1)).Nodup->(q++l).length<=8->yh (.many 2) jB Ov Ow [] (l.map uT) (bu (bY q)) C=aa (bu (bY (q++l)),C)
 |[],q,_,_=>by rw[lO];rfl
 |x::l,q,nd,h8=>by
  have ih:=abr (C:=C) l (q++[x]) (by rw[mR];exact nd) (by rw[mR];exact h8);have hx:x.1∉(bY q).map (·.1):=by
   unfold bY;rw[dW];show x.1∉q.map (·.1);rw[gQ,kY] at nd;exact λhm=>nd.2.2 _ hm _ dN rfl
  have hl:(bu (bY q)).length<f9:=by
   unfold bu bY;rw[gb] at h8;rw[bw,bw];show _<1000000;lia
  rw[cJ];unfold yh;rw[show yL (.many 2) (uT x)=aa [.str x.1,.str x.2] from rfl]
  show(if(bu (bY q)).length<f9 then yh (.many 2) jB Ov Ow [] (l.map uT) (nR cX (.inr x.1) (.str x.1) (.str x.2) (bu (bY q))) C else aj)=_
  rw[bz hl,aba hx];have e:bY q++[(x.1,.str x.2)]=bY (q++[x]):=by unfold bY;rw[gQ];rfl
  rw[e,ih,mR];rfl
theorem alT{C:Ce}{hs:Option Vl}{q ps:List (Str×Str)}(hl:∀z,jr q z=jr ps z):∀{z:Str}{os:List Str},Over (jr ps) z os->∀(n:Nat)(acc:List Str),os.length<n->acc.length+os.length<1000->
  ∃z',jU Yo Yp n [hs,aa (.im (.str z)),aa (.ow (.dict (bu (bY q)))),aa (.ow (.list (acc.map .str)))] C=aa (.nx,[hs,aa (.im (.str z')),aa (.ow (.dict (bu (bY q)))),aa (.ow (.list ((acc++os).map .str)))],C):=by
 have hin:∀z,jY (.str z) (.dict (bu (bY q)))=aa (.im (.bool (jr ps z).isSome)):=λz=>by
  show((nG (bu (bY q)) (.str z)).map (·.isSome)).map (λb=>Vl.im (.bool b))=_
  rw[Kl,hl];cases jr ps z<;>rfl
 intro z os ho;induction ho with
 |@stop z h=>
  intro n acc hn ha;cases n with
  |zero=>exact absurd hn (yV _)
  |succ n=>
   refine⟨z,?_⟩
   unfold jU;simp_arith[hin,h,XC,lO]
 |@step z y r h _ ih=>
  intro n acc hn ha;cases n with
  |zero=>exact absurd hn (yV _)
  |succ n=>
   rw[cZ] at hn ha
   obtain⟨z',e⟩:=ih n (acc++[z]) (by lia) (by rw[gb];show acc.length+1+_<_;lia)
   refine⟨z',?_⟩
   have g:(acc.length<1000000)=True:=eq_true (by lia);have i:bQ (.dict (bu (bY q))) (.str z)=aa (.im (.str y)):=by
    unfold bQ tZ;simp only[Kl,hl,h,j6]
   simp only[gQ,cJ,mW,mR,jL,jm] at e⊢;unfold jU;simp_arith[hin,h,Dz,g,lG,oY,i,e]
theorem agU{C:Ce}{zs:List Str}{ps:List (Str×Str)}{ht:lB}(hN:Names zs)(hP:iR zs ps)(hG:sr zs ps ht)(z:Str):
  Jm [.im (j9 ht),.im (.str z)] C=aa (.ow (.list ((up ps z).map .str)),C):=by
 have nd:=Eh hN hP;have nd':(ht.ps.map (·.1)).Nodup:=(hG.parts.map (·.1)).nodup_iff.mpr nd;have hL:ht.ps.length<=8:=by rw[hG.parts.length_eq];exact hG.p8
 have t:=abr (C:=C) ht.ps [] nd' hL;rw[show bu (bY [])=[] from rfl,jm] at t;have hul:=UL ps z;have h8:=hG.p8
 obtain⟨z',e⟩:=alT (C:=C) (hs:=aa (.im (j9 ht))) (ah7 hG.parts nd) (TQ hN hP z) CQ [] (by show _<100000;lia) (by show 0+_<1000;lia)
 rw[mW,jm] at e;refine gZ [aa (.im (j9 ht)),aa (.im (.str z)),aj,aj] rfl rfl ?_ rfl rfl;simp_arith[PN,Ho,t,abb,uc,e]
theorem K1{C:Ce}{z a1 b1 p:Str}{n:Int}:xu [.im (.tuple [.str z,.int n,.str a1,.str b1]),.im (.str p)] C=aa (.im (.bool (decide (p=a1\/p=b1))),C):=by
 have ct:lH [eV z,.int n,.str a1,.str b1] (aa 2) (aa 4)=[.str a1,.str b1]:=rfl;have i1:jY (.str p) (.tuple [.str a1,.str b1])=aa (.im (.bool (decide (p=a1\/p=b1)))):=by
  have:inB (.str p) (.tuple [.str a1,.str b1])=aa (inD (.str p) ([a1,b1].map .str)):=bz (c:=(lC (.str p)&&[eV a1,.str b1].all lC)=ao) (e:=aj) rfl;unfold jY;rw[this,Kh];simp
 refine gZ [aa (.im (.tuple [.str z,.int n,.str a1,.str b1])),aa (.im (.str p))] rfl rfl ?_ rfl rfl;simp_arith[Rf,gF,fO,m7,ct,i1]
def qH(os:List Str)(n day:Int)(a1 b1:Str)(r:cI):Bool:=decide (r.2.2.2.1∈os)&&((decide (r.2.2.2.2.1<=day)&&decide (day<=r.2.2.2.2.2.1))&&(decide (n<=r.2.2.2.2.2.2)&&(!decide (r.2.1=a1\/r.2.1=b1)&&!decide (r.2.2.1=a1\/r.2.2.1=b1))))
def Dl(r:cI):au:=.tuple [.int r.1,.str r.2.1,.str r.2.2.1]
abbrev fG(z a1 b1:Str)(n:Int):au:=.tuple [.str z,.int n,.str a1,.str b1]
theorem alU{C:Ce}{zs:List Str}{ps:List (Str×Str)}{ht:lB}(hN:Names zs)(hP:iR zs ps)(hG:sr zs ps ht)(z a1 b1:Str)(n day:Int):
  zp [.im (j9 ht),.im (fG z a1 b1 n),.im (.int day)] C=aa (.ow (.list ((ht.leaves.filter (qH (up ps z) n day a1 b1)).map Dl)),C):=by
 have p:=agU (C:=C) hN hP hG z;have h16:=hG.jR
 obtain⟨l,lE⟩:∃l,l=ht.leaves.filter (qH (up ps z) n day a1 b1):=⟨_,rfl⟩
 have ll:l.length<=16:=by rw[lE];exact j7 (yO _ _) h16
 have t:kj (.many 7) PX P0 [aa (.im (.list ((up ps z).map .str))),aa (.im (.int day)),aa (.im (fG z a1 b1 n))] (ht.leaves.map bD) C=aa (l.map Dl,C):=by
  rw[lE];refine qT (T:=.many 7) (ft:=PX) (fe:=P0) (fs:=[aa (.im (.list ((up ps z).map .str))),aa (.im (.int day)),aa (.im (fG z a1 b1 n))]) (C:=C) bD (qH (up ps z) n day a1 b1) Dl (l:=ht.leaves) λr _=>?_
  refine⟨[.int r.1,.str r.2.1,.str r.2.2.1,.str r.2.2.2.1,.int r.2.2.2.2.1,.int r.2.2.2.2.2.1,.int r.2.2.2.2.2.2],rfl,?_,λ_=>⟨.im (Dl r),[aa (.im (.int r.1)),aa (.im (.str r.2.1)),aa (.im (.str r.2.2.1)),aa (.im (.str r.2.2.2.1)),aa (.im (.int r.2.2.2.2.1)),aa (.im (.int r.2.2.2.2.2.1)),aa (.im (.int r.2.2.2.2.2.2)),aa (.im (.list ((up ps z).map .str))),aa (.im (.int day)),aa (.im (fG z a1 b1 n))],by simp_arith[eN,jL,jm];rfl,rfl⟩⟩
  have c:=adE qG qG (aK 4) (aK 8) (aK 5) (env:=[aa (.im (.int r.1)),aa (.im (.str r.2.1)),aa (.im (.str r.2.2.1)),aa (.im (.str r.2.2.2.1)),aa (.im (.int r.2.2.2.2.1)),aa (.im (.int r.2.2.2.2.2.1)),aa (.im (.int r.2.2.2.2.2.2)),aa (.im (.list ((up ps z).map .str))),aa (.im (.int day)),aa (.im (fG z a1 b1 n))]) (C:=C) (a:=decide (r.2.2.2.2.1<=day)) (b:=decide (day<=r.2.2.2.2.2.1)) rfl rfl rfl rfl rfl;have s1:=K1 (C:=C) (z:=z) (a1:=a1) (b1:=b1) (n:=n) (p:=r.2.1);have s2:=K1 (C:=C) (z:=z) (a1:=a1) (b1:=b1) (n:=n) (p:=r.2.2.1);simp_arith[eN,jL,jm,c,s1,s2];unfold qH;cases decide (r.2.2.2.1∈up ps z)<;>cases decide (r.2.2.2.2.1<=day)<;>cases decide (day<=r.2.2.2.2.2.1)<;>cases decide (n<=r.2.2.2.2.2.2)<;>cases decide (r.2.1=a1\/r.2.1=b1)<;>rfl
 have q:(l.length<=1000000)=True:=eq_true (by lia);have nl:gO (l.map Dl)=ao:=by
  clear t lE ll q;induction l with
  |nil=>rfl
  |cons r l ih=>show(ao&&gO (l.map Dl))=ao;rw[ih];rfl
 refine gZ [aa (.im (j9 ht)),aa (.im (fG z a1 b1 n)),aa (.im (.int day)),aj] rfl rfl ?_ rfl rfl;simp_arith[Rg,p,t,q,nl];rw[lE]
theorem Ge(p a1 b1:Str):jY (.str p) (.tuple [.str a1,.str b1])=aa (.im (.bool (decide (p=a1\/p=b1)))):=by
 have:inB (.str p) (.tuple [.str a1,.str b1])=aa (inD (.str p) ([a1,b1].map .str)):=bz (c:=(lC (.str p)&&[eV a1,.str b1].all lC)=ao) (e:=aj) rfl;unfold jY;rw[this,Kh];simp
theorem Z4(o:Str)(zs:List Str):uD (.str o) (.list (zs.map .str))=aa (.im (.bool (!decide (o∈zs)))):=by
 have:inB (.str o) (.list (zs.map .str))=aa (inD (.str o) (zs.map .str)):=bz (by rw[Ra];rfl);unfold uD;rw[this,Kh,j6]
theorem abt:∀ps:List (Str×Str),GQ (bu (bY ps))=aa (ps.map λp=>(.inr p.1,.inr p.2))
 |[]=>rfl
 |p::ps=>by
  show((aa (jT p.1):Option Key).bind λk=>(aa (jT p.2):Option Key).bind λv=>(GQ (bu (bY ps))).map λt=>(k,v)::t)=_
  rw[abt ps];rfl
theorem ahD(ps:List (Str×Str))(h0:0<ps.length)(h8:ps.length<=8):∃ps':List (Str×Str),ps'.Perm ps/\UT (bu (bY ps))=aa (ps'.map uT):=by
 have em:(bu (bY ps)).map (λp=>rP [p.1,p.2])=ps.map uT:=by
  unfold bu bY;rw[dW,dW];rfl
 obtain⟨ps',p1,p2⟩:=ahc (aiX (ds:=ps.map uT) λd hd=>by obtain⟨p,_,rfl⟩:=eU.mp hd;rfl)
 refine⟨ps',p1,?_⟩
 unfold UT;rw[abt,em];cases ps with
 |nil=>cases h0
 |cons p r=>
  rw[jx,cJ,List.head?_cons,jx,bz,p2]
  refine⟨by rw[cZ,bw];rw[cZ] at h8;lia,λq hq=>?_⟩
  rw[<-cJ (f:=λp:Str×Str=>((jT p.1,jT p.2):Key×Key))] at hq
  obtain⟨x,_,rfl⟩:=eU.mp hq
  exact⟨rfl,rfl⟩
theorem ahE{C:Ce}{ps:List (Str×Str)}(h0:0<ps.length)(h8:ps.length<=8)(lv:List cI):∃ps':List (Str×Str),ps'.Perm ps/\Jv [.im (.dict (bu (bY ps))),.im (.list (lv.map bD))] C=aa (.im (j9 ⟨ps',[],lv,[]⟩),C):=by
 obtain⟨ps',p1,e⟩:=ahD ps h0 h8
 refine⟨ps',p1,gZ [aa (.im (.dict (bu (bY ps)))),aa (.im (.list (lv.map bD)))] rfl rfl ?_ rfl rfl⟩
 simp_arith[Qs,TX,Vp,e,Fe];rfl
theorem same_int{C:Ce}(n:Nat)(x:Int):uE (n+1) [.im (.int x),.im (.int x)] C=aa (.im (.bool ao),C):=by
 refine adF (k:=2) (n:=2) (en:=[aa (.im (.int x)),aa (.im (.int x))]) (e1:=[aa (.im (.int x)),aa (.im (.int x))]) rfl rfl ?_ rfl rfl;simp_arith[KY,pA,Gn,z7,pR,isNone,sZ,Lr]
theorem same_ints{C:Ce}(n:Nat)(xs:List Int)(hl:xs.length<=1000):uE (n+2) [.im (.list (xs.map .int)),.im (.list (xs.map .int))] C=aa (.im (.bool ao),C):=by
 have t:kj (.many 2) jB (Z3 (uE (n+1))) [] (pX (xs.map .int) (xs.map .int)) C=aa (gR xs.length (.bool ao),C):=by
  clear hl;induction xs with
  |nil=>rfl
  |cons x xs ih=>
   rw[cJ,pX];unfold kj;rw[cZ,Xr];simp_arith[yL,jB,eN,lO,same_int n x,ih]
 have b:=ah8 xs.length;have h1:(xs.length<=1000000)=True:=eq_true (by lia);refine adF (k:=2) (n:=2) (en:=[aa (.im (.list (xs.map .int))),aa (.im (.list (xs.map .int)))]) (e1:=[aa (.im (.list (xs.map .int))),aa (.im (.list (xs.map .int)))]) rfl rfl ?_ rfl rfl;simp_arith[KY,pA,Gn,z7,sZ,M6,t,b.1,b.2,Xj,h1]
def stL(st:List (Str×Int)):List (Str×au):=st.map λx=>(x.1,.int x.2)
abbrev wD(w:Int×Str×Str):au:=.tuple [.int w.1,.str w.2.1,.str w.2.2]
theorem Ub(st:List (Str×Int))(z:Str):nG (bu (stL st)) (.str z)=aa ((gA st z).map .int):=by
 rw[Q9];unfold stL gA;rw[YC,DR,DR];rfl
theorem LK(st:List (Str×Int))(z:Str):((gA st z).map lQ).isSome=decide (z∈st.map (·.1)):=by
 by_cases h:z∈st.map (·.1)
 .cases e:gA st z with
  |none=>exact absurd h (qW.mp e)
  |some d=>rw[gk h];rfl
 .rw[qW.mpr h,gM h];rfl
theorem adH(st:List (Str×Int))(z:Str):jY (.str z) (.dict (bu (stL st)))=aa (.im (.bool (decide (z∈st.map (·.1))))):=by
 show((nG (bu (stL st)) (.str z)).map (·.isSome)).map (λb=>Vl.im (.bool b))=_
 rw[Ub,j6,LK];rfl
theorem SN(st:List (Str×Int))(z:Str):uD (.str z) (.dict (bu (stL st)))=aa (.im (.bool (!decide (z∈st.map (·.1))))):=by
 show((nG (bu (stL st)) (.str z)).map (·.isSome)).map (λb=>Vl.im (.bool (!b)))=_
 rw[Ub,j6,LK];rfl
theorem adI{st:List (Str×Int)}{z:Str}{d:Int}(h:gA st z=aa d):bQ (.dict (bu (stL st))) (.str z)=aa (.im (.int d)):=by
 unfold bQ tZ;simp only[Ub,h,j6]
theorem aco{C:Ce}{v0 v1 nw:Option Vl}{k:Int}:∀(new:List Str)(st:List (Str×Int))(v5:Option Vl),(st.map (·.1)++new).Nodup->st.length+new.length<=1000->
  ∃Hu,jf (fJ 5) Y0 (new.map .str) [v0,v1,aa (.ow (.dict (bu (stL st)))),nw,aa (.im (.int k)),v5] C=aa (.nx,[v0,v1,aa (.ow (.dict (bu (stL (st++new.map λg=>(g,k)))))),nw,aa (.im (.int k)),Hu],C)
 |[],st,v5,_,_=>⟨v5,by rw[mW,mW,lO];rfl⟩
 |g::new,st,v5,nd,hl=>by
  rw[cZ] at hl
  obtain⟨Hu,e⟩:=aco (C:=C) (v0:=v0) (v1:=v1) (nw:=nw) (k:=k) new (st++[(g,k)]) (aa (.im (.str g))) (by rw[gQ,mR];exact nd) (by rw[gb];show st.length+1+_<=_;lia)
  refine⟨Hu,?_⟩
  have hn:g∉(stL st).map (·.1):=by
   unfold stL;rw[dW];exact λhm=>(kY.mp nd).2.2 _ hm _ dN rfl
  have pu:putD (bu (stL st)) (.str g) (.int k)=aa (bu (stL (st++[(g,k)]))):=by
   rw[R8 hn];unfold stL;rw[gQ];rfl
  have q:((bu (stL st)).length<1000000)=True:=eq_true (by unfold bu stL;rw[bw,bw];lia);rw[mR] at e;rw[cJ];unfold jf;simp_arith[o9,rB,pu,q];exact e
theorem Z5{C:Ce}{ws:List (Int×Str×Str)}{s:Str}(hl:ws.length<=60):∀(n:Nat)(st:List (Str×Int))(new:List Str)(k:Nat)(nv:Vl)(v5:Option Vl),(nv=.ow (.list (new.map .str))\/nv=.im (.list (new.map .str)))->ue ws s st new k->(new=[]->0<n)->(new≠[]->ws.length+2-st.length<n)->
  ∃(st':List (Str×Int))(e':En),jU Y6 Y7 n [aa (.im (.list (ws.map wD))),aa (.im (.str s)),aa (.ow (.dict (bu (stL st)))),aa nv,aa (.im (.int k)),v5] C=aa (.nx,e',C)/\e'[2]?=aa (aa (.ow (.dict (bu (stL st')))))/\uf ws s st'
 |0,st,new,k,nv,v5,hv,B,h0,h1=>by
  by_cases h:new=[]
  .exact absurd (h0 h) (wW _)
  .exact absurd (h1 h) (yV _)
 |n+1,st,new,k,nv,v5,hv,B,h0,h1=>by
  by_cases hnew:new=[]
  .subst hnew
   refine⟨st,[aa (.im (.list (ws.map wD))),aa (.im (.str s)),aa (.ow (.dict (bu (stL st)))),aa nv,aa (.im (.int k)),v5],?_,rfl,B.done⟩
   unfold jU;rcases hv with rfl|rfl<;>simp_arith[]<;>rfl
  have h1:=h1 hnew;have ht:(new.map eV).isEmpty=aJ:=by cases new with|nil=>exact absurd rfl hnew|cons _ _=>rfl
  have c:=qT (T:=.many 3) (ft:=Y4) (fe:=Y5) (fs:=[aa (.im (.list (new.map .str))),aa (.im (.dict (bu (stL st))))]) (C:=C) wD (λw=>decide (w.2.2∈new)&&!decide (w.2.1∈st.map (·.1))) (λw=>.str w.2.1) (l:=ws) λw _=>by
   refine⟨[.int w.1,.str w.2.1,.str w.2.2],rfl,?_,λ_=>⟨.im (.str w.2.1),_,by simp_arith[eN,jL,jm];rfl,rfl⟩⟩
   simp_arith[eN,jL,jm,SN];cases decide (w.2.2∈new)<;>rfl
  obtain⟨gs,WL⟩:∃gs,gs=(ws.filter λw=>decide (w.2.2∈new)&&!decide (w.2.1∈st.map (·.1))).map (·.2.1):=⟨_,rfl⟩
  have c2:(ws.filter λw=>decide (w.2.2∈new)&&!decide (w.2.1∈st.map (·.1))).map (λw=>eV w.2.1)=gs.map .str:=by rw[WL,dW];rfl
  rw[c2] at c;have gl:gs.length<=60:=by rw[WL,bw];exact j7 (yO _ _) hl
  have sS:Kf (gs.map .str)=aa ((jX strLt (dedup gs)).map .str):=by
   unfold Kf;rw[bz (by rw[bw];lia),QF]
  obtain⟨ns,nsE⟩:∃ns,ns=jX strLt (dedup gs):=⟨_,rfl⟩
  rw[<-nsE] at sS;have hm:∀g,g∈ns↔∃w∈ws,w.2.2∈new/\w.2.1∉st.map (·.1)/\w.2.1=g:=λg=>by
   rw[nsE,(rW _).mem_iff,aiN,WL,eU];constructor
   .rintro⟨w,h1,h2⟩
    obtain⟨h1,h3⟩:=qb.mp h1
    rw[jK,decide_eq_true_eq,XS,decide_eq_false_iff_not] at h3
    exact⟨w,h1,h3.1,h3.2,h2⟩
   .rintro⟨w,h1,h2,h3,h4⟩
    exact⟨w,qb.mpr ⟨h1,by rw[gk h2,gM h3];rfl⟩,h4⟩
  have hn:ns.Nodup:=by rw[nsE];exact(rW _).nodup_iff.mpr (ahy _)
  have B2:=B.step hn hm;have f1:=B.few;have f2:=B2.few;have nd:=B2.nd;rw[gQ,dW,show((λx:Str×Int=>x.1) ∘ λg=>(g,(k:Int)+1))=id from rfl,Jq] at nd;rw[gb,bw] at f2
  obtain⟨Hu,e1⟩:=aco (C:=C) (v0:=aa (.im (.list (ws.map wD)))) (v1:=aa (.im (.str s))) (nw:=aa (.im (.list (ns.map .str)))) (k:=(k:Int)+1) ns st v5 nd (by lia)
  obtain⟨st',e',e2,e3,e4⟩:=Z5 (C:=C) hl n (st++ns.map λg=>(g,(k:Int)+1)) ns (k+1) (.im (.list (ns.map .str))) Hu (.inr rfl) B2 (λz=>by lia) (λz=>by
   rw[gb,bw];have:=NB.mpr z;lia)
  refine⟨st',e',?_,e3,e4⟩
  unfold jU;rcases hv with rfl|rfl<;>simp_arith[ht,Mq,Hq,↓c,sS,iT,e1]<;>exact e2
theorem SQ{C:Ce}{ws:List (Int×Str×Str)}{s:Str}(hl:ws.length<=60):∃st:List (Str×Int),JK [.im (.list (ws.map wD)),.im (.str s)] C=aa (.ow (.dict (bu (stL st))),C)/\uf ws s st:=by
 obtain⟨st,e',e1,e2,e3⟩:=Z5 (C:=C) hl CQ [(s,0)] [s] 0 (.ow (.list [.str s])) aj (.inl rfl) (ue.init ws s) (λz=>nomatch z) (λ_=>by show _+2-1<100000;lia)
 rw[show(((0:Nat):Nat):Int)=0 from rfl] at e1
 refine⟨st,gZ [aa (.im (.list (ws.map wD))),aa (.im (.str s)),aj,aj,aj,aj] rfl rfl ?_ rfl rfl,e3⟩
 simp_arith[QJ,CW,uc,cX];rw[show[(eV s,lQ 0)]=bu (stL [(s,0)]) from rfl];simp only[e1];simp_arith[e2]
def vN(st:List (Str×Int))(d:Int)(p:Str)(w:Int×Str×Str):Bool:=decide (w.2.1=p)&&(decide (w.2.2∈st.map (·.1))&&(gA st w.2.2).any λe=>decide (e<d))
theorem Rj{st:List (Str×Int)}{d:Int}{p:Str}{w:Int×Str×Str}:vN st d p w=ao↔w.2.1=p/\∃e,gA st w.2.2=aa e/\e<d:=by
 unfold vN;rw[jK,jK,decide_eq_true_eq,decide_eq_true_eq];refine and_congr_right λ_=>⟨λh=>?_,λ⟨e,h1,h2⟩=>⟨?_,by rw[h1];exact gk h2⟩⟩
 .cases e:gA st w.2.2 with
  |none=>exact absurd h.1 (qW.mp e)
  |some x=>
   have:=h.2;rw[e] at this
   exact⟨x,rfl,of_decide_eq_true this⟩
 .apply afb;intro n;rw[qW.mpr n] at h1;cases h1
theorem acp(bt:Nat->Nat->Bool)(val:Nat->Int)(h1:∀i j,bt i j=ao->val i<=val j)(h2:∀i j,bt i j=aJ->val j<=val i):∀k,nC bt k<=k/\∀i,i<=k->val (nC bt k)<=val i
 |0=>⟨cg _,λi hi=>by rw[Nat.le_zero.mp hi];exact Bh _⟩
 |k+1=>by
  obtain⟨a,b⟩:=acp bt val h1 h2 k
  unfold nC;cases e:bt (k+1) (nC bt k) with
  |true=>
   rw[bz rfl]
   refine⟨cg _,λi hi=>?_⟩
   rcases afR hi with hi|rfl
   .exact ahp (h1 _ _ e) (b i (af8 hi))
   .exact Bh _
  |false=>
   rw[bH iI]
   refine⟨X3 a,λi hi=>?_⟩
   rcases afR hi with hi|rfl
   .exact b i (af8 hi)
   .exact h2 _ _ e
theorem ajf(cs:List (Int×Str))(h:cs≠[]):∃c∈cs,Lg [.list (cs.map λc=>.tuple [.int c.1,.str c.2])]=aa (.im (.tuple [.int c.1,.str c.2]))/\∀c'∈cs,c.1<=c'.1:=by
 obtain⟨c0,hc0⟩:∃c0,cs.head?=aa c0:=by
  cases cs with
  |nil=>exact absurd rfl h
  |cons c _=>exact⟨c,rfl⟩
 have ek:(cs.map λc=>rP [.int c.1,.str c.2]).map yg=cs.map λc=>[kZ c.1,jT c.2]:=by
  rw[dW];rfl
 have hd:(cs.map λc=>([kZ c.1,jT c.2]:List Key)).headD []=[kZ c0.1,jT c0.2]:=by
  cases cs with
  |nil=>cases hc0
  |cons c _=>cases hc0;rfl
 have gt:∀i,(cs.map λc=>([kZ c.1,jT c.2]:List Key)).getD i [kZ c0.1,jT c0.2]=[kZ (cs.getD i c0).1,jT (cs.getD i c0).2]:=λi=>by
  rw[Nq,Nq,iJ];cases cs[i]?<;>rfl
 obtain⟨b1,b2⟩:=acp (λi j=>fD ((cs.map λc=>([kZ c.1,jT c.2]:List Key)).getD i [kZ c0.1,jT c0.2]) ((cs.map λc=>([kZ c.1,jT c.2]:List Key)).getD j [kZ c0.1,jT c0.2])) (λi=>(cs.getD i c0).1) (λi j e=>by
   simp only[gt,fD] at e;split at e
   .rename_i z;have:=Zo z;lia
   .exact Zk (of_decide_eq_true e)) (λi j e=>by
   simp only[gt,fD] at e;split at e
   .rename_i z;have:=Zo z;lia
   .have:=of_decide_eq_false e;lia) (cs.length-1)
 have pos:0<cs.length:=NB.mpr h
 obtain⟨k,hk⟩:∃k,k=Gs (cs.map λc=>([kZ c.1,jT c.2]:List Key)):=⟨_,rfl⟩
 have hk':=hk;unfold Gs at hk';rw[hd,bw] at hk';rw[<-hk'] at b1 b2;have lt:k<cs.length:=by lia
 refine⟨cs[k],yS lt,?_,λc' hc'=>?_⟩
 .show UW (cs.map λc=>.tuple [.int c.1,.str c.2])=_;unfold UW;rw[List.head?_map,hc0,ek,<-hk,iJ,jJ lt];refine bz λd hd=>?_
  obtain⟨c,_,rfl⟩:=eU.mp hd
  rfl
 .obtain⟨i,hi,rfl⟩:=wL hc'
  have:=b2 i (by lia);rw[Nq,Nq,jJ lt,jJ hi] at this;exact this
theorem ajg{C:Ce}{ws:List (Int×Str×Str)}{st:List (Str×Int)}{p:Str}{d:Int}(hl:ws.length<=60)(hp:gA st p=aa d)(hne:∃w∈ws,vN st d p w=ao):
  ∃(n:Int)(t:Str),Jo [.im (.list (ws.map wD)),.im (.dict (bu (stL st))),.im (.str p)] C=aa (.im (.tuple [.int n,.str t]),C)/\(n,p,t)∈ws/\(∃e,gA st t=aa e/\e<d)/\∀n' q' e,(n',p,q')∈ws->gA st q'=aa e->e<d->n<=n':=by
 have c:=qT (T:=.many 3) (ft:=Yq) (fe:=Yr) (fs:=[aa (.im (.str p)),aa (.im (.dict (bu (stL st))))]) (C:=C) wD (vN st d p) (λw=>.tuple [.int w.1,.str w.2.2]) (l:=ws) λw _=>by
  refine⟨[.int w.1,.str w.2.1,.str w.2.2],rfl,?_,λ_=>⟨.im (.tuple [.int w.1,.str w.2.2]),_,by simp_arith[eN,jL,jm];rfl,rfl⟩⟩
  have ip:=adI hp;unfold vN;cases h1:decide (w.2.1=p) with
  |false=>simp_arith[eN,jL,jm,h1]
  |true=>
   cases e:gA st w.2.2 with
   |none=>
    have h2:=gM (qW.mp e);simp_arith[eN,jL,jm,h1,adH,h2]
   |some x=>
    have h2:decide (w.2.2∈st.map (·.1))=ao:=by rw[<-LK,e];rfl
    have iw:=adI e;simp_arith[eN,jL,jm,h1,adH,h2,ip,iw,Oz]
 obtain⟨cs,Hv⟩:∃cs:List (Int×Str),cs=(ws.filter (vN st d p)).map λw=>(w.1,w.2.2):=⟨_,rfl⟩
 have c2:(ws.filter (vN st d p)).map (λw=>rP [.int w.1,.str w.2.2])=cs.map λc=>.tuple [.int c.1,.str c.2]:=by rw[Hv,dW];rfl
 rw[c2] at c;have cl:(cs.length<=1000000)=True:=eq_true (by rw[Hv,bw];have:=yO (vN st d p) ws;lia);have mem:∀n t,(n,t)∈cs↔(n,p,t)∈ws/\∃e,gA st t=aa e/\e<d:=λn t=>by
  rw[Hv,eU];constructor
  .rintro⟨w,hw,e⟩
   cases e
   obtain⟨h1,h2⟩:=qb.mp hw
   obtain⟨h3,h4⟩:=Rj.mp h2
   rw[<-h3]
   exact⟨h1,h4⟩
  .rintro⟨h1,h2⟩
   exact⟨(n,p,t),qb.mpr ⟨h1,Rj.mpr ⟨rfl,h2⟩⟩,rfl⟩
 have ne:cs≠[]:=λz=>by
  obtain⟨w,hw,h⟩:=hne
  have:(w.1,w.2.2)∈cs:=by rw[Hv];exact eU.mpr ⟨w,qb.mpr ⟨hw,h⟩,rfl⟩
  rw[z] at this;cases this
 have nl:gO (cs.map λc=>rP [.int c.1,.str c.2])=ao:=by
  clear c c2 Hv cl mem ne;induction cs with
  |nil=>rfl
  |cons r l ih=>show(ao&&gO (l.map _))=ao;rw[ih];rfl
 obtain⟨⟨n,t⟩,m,e,hmin⟩:=ajf cs ne
 obtain⟨m1,m2⟩:=(mem n t).mp m
 refine⟨n,t,gZ [aa (.im (.list (ws.map wD))),aa (.im (.dict (bu (stL st)))),aa (.im (.str p))] rfl rfl ?_ rfl rfl,m1,m2,λn' q' e' h1 h2 h3=>hmin (n',q') ((mem n' q').mpr ⟨h1,e',h2,h3⟩)⟩
 simp_arith[Qa,c,cl,nl,e]
theorem akr{C:Ce}{ws:List (Int×Str×Str)}{s:Str}{st:List (Str×Int)}(hl:ws.length<=60)(hU:∀w∈ws,∀w'∈ws,w.1=w'.1->w=w')(B:uf ws s st):∀(m:Nat)(p:Str)(d:Int),gA st p=aa d->d<=m->∀(n:Nat)(acc:List Int)(v5:Option Vl),m<n->acc.length+m<=100000->
  ∃(r:List Int)(e':En),jU YG YH n [aa (.im (.list (ws.map wD))),aa (.im (.str p)),aa (.im (.str s)),aa (.ow (.dict (bu (stL st)))),aa (.ow (.list (acc.map .int))),v5] C=aa (.nx,e',C)/\e'[4]?=aa (aa (.ow (.list ((acc++r).map .int))))/\tH ws p s r:=by
 intro m;induction m with
 |zero=>
  intro p d hp hd n acc v5 hn ha;have:p=s:=by
   obtain⟨r,h1,h2⟩:=B.sound p d hp
   cases h1 with
   |nil=>rfl
   |cons _ _=>rw[cZ] at h2;lia
  subst this;cases n with
  |zero=>exact absurd hn (wW _)
  |succ n=>
   refine⟨[],[aa (.im (.list (ws.map wD))),aa (.im (.str p)),aa (.im (.str p)),aa (.ow (.dict (bu (stL st)))),aa (.ow (.list (acc.map .int))),v5],?_,by rw[lO];rfl,tH.self ws p⟩
   unfold jU;simp_arith[KJ]
 |succ m ih=>
  intro p d hp hd n acc v5 hn ha;cases n with
  |zero=>exact absurd hn (yV _)
  |succ n=>
   by_cases hs:p=s
   .subst hs
    refine⟨[],[aa (.im (.list (ws.map wD))),aa (.im (.str p)),aa (.im (.str p)),aa (.ow (.dict (bu (stL st)))),aa (.ow (.list (acc.map .int))),v5],?_,by rw[lO];rfl,tH.self ws p⟩
    unfold jU;simp_arith[KJ]
   .have hne:∃w∈ws,vN st d p w=ao:=by
     obtain⟨r,h1,h2⟩:=B.sound p d hp
     cases h1 with
     |nil=>exact absurd rfl hs
     |cons hw hr=>
      rename_i n q r
      obtain⟨e,h3,h4⟩:=B.whole q r hr
      rw[cZ] at h2
      exact⟨_,hw,Rj.mpr ⟨rfl,e,h3,by lia⟩⟩
    obtain⟨n1,t,e1,m1,⟨e,m2,m3⟩,hmin⟩:=ajg (C:=C) hl hp hne
    obtain⟨r,e',e2,e3,e4⟩:=ih t e m2 (by lia) n (acc++[n1]) (aa (.im (.int n1))) (by lia) (by rw[gb];show acc.length+1+_<=_;lia)
    have R:=tH.go hU B hp m1 ⟨e,m2,m3⟩ hmin e4;rw[mR] at e3
    refine⟨n1::r,e',?_,e3,R⟩
    have g:(acc.length<1000000)=True:=eq_true (by lia);have q:(p=s)=False:=eq_false hs;rw[gQ] at e2;unfold jU;have rp:∀e e',rst (.im (.tuple [.int n1,.str t])) e e'=e:=λ_ _=>rfl
    simp_arith[KJ,q,e1,lG,oY,g,rp];exact e2
def yx:Option (List Int)->Vl
 |none=>.im .none
 |some r=>.ow (.list (r.map .int))
def LQ(ws:List (Int×Str×Str))(h s:Str):Option (List Int)->Prop
 |none=>∀r,¬iu ws h r s
 |some r=>tH ws h s r
theorem abu{C:Ce}{ws:List (Int×Str×Str)}{h s:Str}(hl:ws.length<=60)(hU:∀w∈ws,∀w'∈ws,w.1=w'.1->w=w'):∃o,Bj [.im (.list (ws.map wD)),.im (.str h),.im (.str s)] C=aa (yx o,C)/\LQ ws h s o:=by
 obtain⟨st,e1,B⟩:=SQ (C:=C) (s:=s) hl
 cases e:gA st h with
 |none=>
  have hn:=qW.mp e
  refine⟨aj,gZ [aa (.im (.list (ws.map wD))),aa (.im (.str h)),aa (.im (.str s)),aj,aj,aj] rfl rfl ?_ rfl rfl,λr p=>hn ((B.iff h).mpr ⟨r,p⟩)⟩
  have q:=gM hn;simp_arith[Jt,e1,SN,q];rfl
 |some d=>
  obtain⟨r0,h1,h2⟩:=B.sound h d e
  have q:decide (h∈st.map (·.1))=ao:=by rw[<-LK,e];rfl
  obtain⟨r,e',e2,e3,e4⟩:=akr (C:=C) hl hU B d.toNat h d e (by lia) CQ [] aj (by have:=B.few h d e;show _<100000;lia) (by have:=B.few h d e;show 0+_<=_;lia)
  refine⟨aa r,gZ [aa (.im (.list (ws.map wD))),aa (.im (.str h)),aa (.im (.str s)),aj,aj,aj] rfl rfl ?_ rfl rfl,e4⟩
  rw[mW] at e2;rw[jm] at e3;simp_arith[Jt,e1,SN,q,uc,e2,e3];rfl
def uV(r:cI):Int×Str×Str:=(r.1,r.2.1,r.2.2.1)
theorem Uc:∀{l:List cI},(l.map (·.1)).Nodup->∀r∈l,∀r'∈l,r.1=r'.1->r=r'
 |[],_,_,h,_,_,_=>nomatch h
 |a::l,hp,r,h,r',h',e=>by
  rw[cJ,jD] at hp;rcases cB.mp h with h1|h1<;>rcases cB.mp h' with h2|h2
  .rw[h1,h2]
  .exact absurd (eU.mpr ⟨r',h2,by rw[<-h1,e]⟩) hp.1
  .exact absurd (eU.mpr ⟨r,h1,by rw[<-h2,e]⟩) hp.1
  .exact Uc hp.2 r h1 r' h2 e
def kE(ht:lB)(os:List Str)(n day:Int)(a1 b1:Str):List (Int×Str×Str):=(ht.leaves.filter (qH os n day a1 b1)).map uV
theorem abv{zs:List Str}{ps:List (Str×Str)}{ht:lB}(hG:sr zs ps ht)(os:List Str)(n day:Int)(a1 b1:Str):(kE ht os n day a1 b1).length<=60:=by
 unfold kE;rw[bw];have:=yO (qH os n day a1 b1) ht.leaves;have:=hG.jR;lia
theorem ZC{zs:List Str}{ps:List (Str×Str)}{ht:lB}(hG:sr zs ps ht)(os:List Str)(n day:Int)(a1 b1:Str):∀w∈kE ht os n day a1 b1,∀w'∈kE ht os n day a1 b1,w.1=w'.1->w=w':=λw h w' h' e=>by
 obtain⟨r,m,rfl⟩:=eU.mp h
 obtain⟨r',m',rfl⟩:=eU.mp h'
 rw[Uc hG.M8 r (qb.mp m).1 r' (qb.mp m').1 e]
theorem ac5{C:Ce}{zs:List Str}{ps:List (Str×Str)}{ht:lB}(hN:Names zs)(hP:iR zs ps)(hG:sr zs ps ht)(z a1 b1:Str)(n day:Int):
  zp [.im (j9 ht),.im (fG z a1 b1 n),.im (.int day)] C=aa (.ow (.list ((kE ht (up ps z) n day a1 b1).map wD)),C):=by
 rw[alU hN hP hG];unfold kE;rw[dW];rfl
theorem aks{C:Ce}{zs:List Str}{ps:List (Str×Str)}{ht:lB}(hN:Names zs)(hP:iR zs ps)(hG:sr zs ps ht)(z a1 b1:Str)(n day:Int)(h s:Str):
  ∃o,Km [.im (j9 ht),.im (fG z a1 b1 n),.im (.str h),.im (.str s),.im (.int day)] C=aa (yx o,C)/\(((h=a1\/h=b1)\/(s=a1\/s=b1))->o=aj)/\(¬((h=a1\/h=b1)\/(s=a1\/s=b1))->LQ (kE ht (up ps z) n day a1 b1) h s o):=by
 have s1:=K1 (C:=C) (z:=z) (a1:=a1) (b1:=b1) (n:=n) (p:=h);have s2:=K1 (C:=C) (z:=z) (a1:=a1) (b1:=b1) (n:=n) (p:=s);have w:=ac5 (C:=C) hN hP hG z a1 b1 n day
 obtain⟨o,e,ho⟩:=abu (C:=C) (h:=h) (s:=s) (abv hG (up ps z) n day a1 b1) (ZC hG (up ps z) n day a1 b1)
 have ok:CT C.length (yx o)=ao:=by cases o<;>rfl
 by_cases h1:h=a1\/h=b1
 .refine⟨aj,gZ [aa (.im (j9 ht)),aa (.im (fG z a1 b1 n)),aa (.im (.str h)),aa (.im (.str s)),aa (.im (.int day))] rfl rfl ?_ rfl rfl,λ_=>rfl,λz=>absurd (.inl h1) z⟩
  rw[gk h1] at s1;simp_arith[Ex,s1];rfl
 .rw[gM h1] at s1;by_cases h2:s=a1\/s=b1
  .refine⟨aj,gZ [aa (.im (j9 ht)),aa (.im (fG z a1 b1 n)),aa (.im (.str h)),aa (.im (.str s)),aa (.im (.int day))] rfl rfl ?_ rfl rfl,λ_=>rfl,λz=>absurd (.inr h2) z⟩
   rw[gk h2] at s2;simp_arith[Ex,s1,s2];rfl
  .rw[gM h2] at s2
   refine⟨o,gZ [aa (.im (j9 ht)),aa (.im (fG z a1 b1 n)),aa (.im (.str h)),aa (.im (.str s)),aa (.im (.int day))] rfl rfl ?_ ok rfl,λz=>absurd z λz=>z.elim h1 h2,λ_=>ho⟩
   have tp:Di (yx o)=aJ:=by cases o<;>rfl
   simp_arith[Ex,s1,s2,w,e,tp]
theorem Gf{α:Type}{f:α->au}(h:∀a,kO (f a)=ao):∀l:List α,gO (l.map f)=ao
 |[]=>rfl
 |a::l=>by
  show(kO (f a)&&gO (l.map f))=ao
  rw[h a,Gf h l];rfl
theorem alV(h:lB)(e f:En):rst (.im (j9 h)) e f=e:=by
 refine bz ?_
 show(gO (h.ps.map uT)&&(gO (h.yj.map uR)&&(gO (h.leaves.map bD)&&(gO (h.rules.map Gr)&&ao))))=ao
 rw[Gf (λ_=>rfl),Gf (λ_=>rfl),Gf (λ_=>rfl),aar];rfl
theorem aaz(ps:List (Str×Str)):lF [.dict (bu (bY ps))]=aa (.im (.int ps.length)):=by
 have:GJ (.dict (bu (bY ps)))=aa ps.length:=by
  show(if(cO cX (bu (bY ps))).isSome then aa (bu (bY ps)).length else aj)=_
  rw[Ew];unfold bu bY;rw[bw,bw];rfl
 unfold lF;simp only[this];rfl
theorem aih{zs:List Str}{m:Nat}{ps:List (Str×Str)}(h:iR (zs.take m) ps):iR zs ps:=λi x e=>by
 have up:∀j z,(zs.take m)[j]?=aa z->zs[j]?=aa z:=λj z e=>by
  rw[Xw] at e;split at e
  .exact e
  .cases e
 obtain⟨h1,h2⟩:=h i x e
 exact⟨up i _ h1,h2.imp_right λ⟨j,a,b⟩=>⟨j,a,up j _ b⟩⟩
theorem akt{f:Str->Option Str}{z:Str}{os:List Str}(h:Over f z os):∀y∈os,∃w,f y=aa w:=by
 induction h with
 |stop _=>exact λy hy=>absurd hy mj
 |step h _ ih=>
  intro y hy;rcases cB.mp hy with rfl|hy
  .exact⟨_,h⟩
  .exact ih y hy
theorem ac6{zs:List Str}{ps:List (Str×Str)}(hN:Names zs)(hP:iR zs ps){z y:Str}(h:y∈up ps z):y∈ps.map (·.1):=by
 obtain⟨w,e⟩:=akt (TQ hN hP z) y h
 exact eU.mpr ⟨(y,w),(vp (Eh hN hP)).mp e,rfl⟩
theorem anB{zs:List Str}{ps ps':List (Str×Str)}{lv:List cI}(p1:ps'.Perm ps)(p8:ps.length<=8)(jR:lv.length<=16)(hl:∀r∈lv,vC zs (ps.map (·.1)) r)(up:(lv.map (·.1)).Nodup):sr zs ps ⟨ps',[],lv,[]⟩ where
 parts:=p1
 p8:=p8
 r20:=m9 _
 jR:=jR
 u10:=m9 _
 yj:=λr h=>absurd h mj
 rup:=yQ
 leaves:=hl
 M8:=up
 rules:=λr h=>absurd h mj
 unlike:=nZ
theorem anC{α:Type}{zs:List α}(h:zs.Nodup){i j:Nat}{x:α}(hi:zs[i]?=aa x)(hj:zs[j]?=aa x):i=j:=by
 obtain⟨x1,y1⟩:=jH.mp hi
 obtain⟨x2,y2⟩:=jH.mp hj
 have hp:=HQ.mp h;rcases af5 i j with l|l|l
 .exact absurd (y1.trans y2.symm) (hp i j x1 x2 l)
 .exact l
 .exact absurd (y2.trans y1.symm) (hp j i x2 x1 l)
theorem Ud{α:Type}(D:α->au){xs:List α}{a b:Nat}(h:a<=b)(hb:b<=xs.length):lH (xs.map D) (aa (a:Int)) (aa (b:Int))=((xs.drop a).take (b-a)).map D:=by
 unfold lH;rw[bw,HT.Ko,HT.Ko,Yt (show a<=xs.length by lia),Yt hb,Y8,agV]
theorem alW{C:Ce}{zs:List Str}{ps:List (Str×Str)}(hN:Names zs)(hP:iR zs ps)(h8:ps.length<=8)(z a1 b1:Str)(n day:Int)(r:cI):
  KZ [.im (.dict (bu (bY ps))),.im (fG z a1 b1 n),.im (.int day),.im (bD r)] C=aa (.im (.bool (qH (up ps z) n day a1 b1 r)),C):=by
 have p:=abq (C:=C) hN hP h8 z;have ct:lH [eV z,.int n,.str a1,.str b1] (aa 2) aj=[.str a1,.str b1]:=rfl;have c:=adE qG qG (az (aO bQ (aK 3) (az (aN (.int 4))))) (aK 2) (az (aO bQ (aK 3) (az (aN (.int 5))))) (env:=[aa (.im (.dict (bu (bY ps)))),aa (.im (fG z a1 b1 n)),aa (.im (.int day)),aa (.im (bD r))]) (e1:=[aa (.im (.dict (bu (bY ps)))),aa (.im (fG z a1 b1 n)),aa (.im (.int day)),aa (.im (bD r))]) (e2:=[aa (.im (.dict (bu (bY ps)))),aa (.im (fG z a1 b1 n)),aa (.im (.int day)),aa (.im (bD r))]) (e3:=[aa (.im (.dict (bu (bY ps)))),aa (.im (fG z a1 b1 n)),aa (.im (.int day)),aa (.im (bD r))]) (C:=C) (C1:=C) (C2:=C) (x:=.int r.2.2.2.2.1) (y:=.int day) (z:=.int r.2.2.2.2.2.1) (a:=decide (r.2.2.2.2.1<=day)) (b:=decide (day<=r.2.2.2.2.2.1)) (by simp_arith[bD]) rfl rfl (by simp_arith[bD]) rfl;refine gZ [aa (.im (.dict (bu (bY ps)))),aa (.im (fG z a1 b1 n)),aa (.im (.int day)),aa (.im (bD r))] rfl rfl ?_ rfl rfl;simp only[bD] at c⊢;unfold qH;cases hA:decide (r.2.1=a1\/r.2.1=b1) with
 |true=>
  simp_arith[BX,gF,fO,jl,m7,ct,Ge,hA]
 |false=>
  cases hB:decide (r.2.2.1=a1\/r.2.2.1=b1) with
  |true=>
   simp_arith[BX,gF,fO,jl,m7,ct,Ge,hA,hB]
  |false=>
   cases hC:decide (r.2.2.2.1∈up ps z) with
   |false=>simp_arith[BX,gF,fO,jl,m7,ct,Ge,hA,hB,p,Z4,hC]
   |true=>
    simp_arith[BX,gF,fO,jl,m7,ct,Ge,hA,hB,p,Z4,hC,sZ,c];cases decide (r.2.2.2.2.1<=day)<;>cases decide (day<=r.2.2.2.2.2.1)<;>rfl
theorem aaA{α:Type}(D:α->au):∀(l:List α)(n:Nat),(l.map D).eraseIdx n=(l.eraseIdx n).map D
 |[],_=>rfl
 |_::_,0=>rfl
 |x::l,n+1=>congrArg (D x::·) (aaA D l n)
theorem Z6{α:Type}:∀{l:List α}{n:Nat}{x:α},l[n]?=aa x->(x::l.eraseIdx n).Perm l
 |[],_,_,h=>by cases h
 |y::l,0,x,h=>by cases h;exact .refl _
 |y::l,n+1,x,h=>(O2 y x _).trans ((Z6 (l:=l) (n:=n) h).cons y)
theorem aaB{α:Type}{D:α->au}(hne:∀l:List α,lV (.list (l.map D)) (.list [])=aa (.im (.bool (!l.isEmpty)))){b L j:Nat}{v1:Option Vl}:∀(n:Nat)(rest found:List α)(C:Ce),rest.length<n->found.length+rest.length<=100->Bl L C b (j+rest.length)->
  ∃(ys:List α)(C':Ce),jU YJ YK n [aa (.ce b),v1,aa (.ow (.list (rest.map D))),aa (.ow (.list (found.map D)))] C=aa (.nx,[aa (.ce b),v1,aa (.ow (.list [])),aa (.ow (.list ((found++ys).map D)))],C')/\ys.Perm rest/\Bl L C' b j
 |0,rest,found,C,h,_,_=>absurd h (yV _)
 |n+1,rest,found,C,hn,hl,hB=>by
  have e0:=hne rest;by_cases hr:rest=[]
  .subst hr
   refine⟨[],C,?_,.refl _,hB⟩
   unfold jU;rw[lO];simp only[mW,Ye] at e0;simp_arith[e0]
  .have hp:0<rest.length:=NB.mpr hr;have e0:lV (.list (rest.map D)) (.list [])=aa (.im (.bool ao)):=by
    rw[e0];cases rest with
    |nil=>exact absurd rfl hr
    |cons _ _=>rfl
   obtain⟨t,C1,e1,t0,t1,iZ⟩:=eY (m:=(rest.length:Int)) (k:=j+(rest.length-1)) (by rw[show j+(rest.length-1)+1=j+rest.length by lia];exact hB) (by lia) (by lia)
   have hk:t.toNat<rest.length:=by lia
   have q1:(rest.map D)[t.toNat]?=aa (D rest[t.toNat]):=by rw[iJ,jJ hk];rfl
   have q2:(rest.map D).eraseIdx t.toNat=(rest.eraseIdx t.toNat).map D:=aaA D _ _;have pm:(rest[t.toNat]::rest.eraseIdx t.toNat).Perm rest:=Z6 (jJ hk);have ll:(rest.eraseIdx t.toNat).length=rest.length-1:=List.length_eraseIdx_of_lt hk
   obtain⟨ys,C',e2,p2,hB2⟩:=aaB hne n (rest.eraseIdx t.toNat) (found++[rest[t.toNat]]) C1 (by lia) (by rw[gb];show found.length+1+_<=_;lia) (by rw[ll];exact iZ)
   refine⟨rest[t.toNat]::ys,C',?_,(p2.cons _).trans pm,hB2⟩
   have g1:(0<=t/\t<((1000000:Nat):Int))=True:=eq_true ⟨t0,by lia⟩;have g2:(found.length<1000000)=True:=eq_true (by lia);rw[mR,gQ (l₁:=found)] at e2;unfold jU;simp_arith[e0,Vq,z9,intD,e1,g1,q1,g2,q2,ne_eq,not_false_eq_true,Nat.reduceEqDiff];exact e2
theorem alX{α:Type}{D:α->au}(hne:∀l:List α,lV (.list (l.map D)) (.list [])=aa (.im (.bool (!l.isEmpty)))){C:Ce}{b L j:Nat}{xs:List α}(hl:xs.length<=100)(hB:Bl L C b (j+xs.length)):
  ∃(ys:List α)(C':Ce),Ej [.ce b,.im (.list (xs.map D))] C=aa (.ow (.list (ys.map D)),C')/\ys.Perm xs/\Bl L C' b j:=by
 obtain⟨ys,C',e,p,hB'⟩:=aaB hne (v1:=aa (.im (.list (xs.map D)))) CQ xs [] C (by show _<100000;lia) (by show 0+_<=_;lia) hB
 rw[mW,jm] at e
 refine⟨ys,C',gZ [aa (.ce b),aa (.im (.list (xs.map D))),aj,aj] rfl rfl ?_ rfl (hB.eq hB'),p,hB'⟩
 simp_arith[Qo,KD,uc,e]
theorem Nf(a b c:au){k:Int}(h0:0<=k)(h1:k<3):∃x,fY [a,b,c] k=aa x/\(x=a\/x=b\/x=c):=by
 have:k=0\/k=1\/k=2:=by lia
 rcases this with rfl|rfl|rfl
 .exact⟨a,V2 _ _,.inl rfl⟩
 .exact⟨b,V3 _ _ _,.inr (.inl rfl)⟩
 .exact⟨c,aee _ _ _ _,.inr (.inr rfl)⟩
theorem Ue(a b:Int):∃v,uK [.int a,.int b]=aa (.im (.int v))/\v<=a/\v<=b/\(v=a\/v=b):=by
 by_cases h:b<a
 .exact⟨b,by simp only[uK,bz h],by lia,by lia,.inr rfl⟩
 .exact⟨a,by simp only[uK,bH h],by lia,by lia,.inl rfl⟩
theorem alY(a b:Int):∃v,Cu [.int a,.int b]=aa (.im (.int v))/\a<=v/\b<=v/\(v=a\/v=b):=by
 by_cases h:b>a
 .exact⟨b,by simp only[Cu,bz h],by lia,by lia,.inr rfl⟩
 .exact⟨a,by simp only[Cu,bH h],by lia,by lia,.inl rfl⟩
theorem acq{C:Ce}{b L j:Nat}(h:Bl L C b (j+6)):∃(f l:Int)(C':Ce),Bm [.ce b] C=aa (.im (.tuple [.int f,.int l]),C')/\0<=f/\f<=l/\l<=99999/\Bl L C' b j:=by
 refine hide λGG gg=>?_
 obtain⟨t1,C1,e1,a1,b1,iZ⟩:=eY (m:=9) (k:=j+5) h (by decide) (by decide)
 obtain⟨t2,C2,e2,a2,b2,hB2⟩:=eY (m:=9) (k:=j+4) iZ (by decide) (by decide)
 obtain⟨t3,C3,e3,a3,b3,hB3⟩:=eY (m:=9) (k:=j+3) hB2 (by decide) (by decide)
 obtain⟨t4,C4,e4,a4,b4,ug⟩:=eY (m:=3) (k:=j+2) hB3 (by decide) (by decide)
 obtain⟨t5,C5,e5,a5,b5,Hw⟩:=eY (m:=12) (k:=j+1) ug (by decide) (by decide)
 obtain⟨t6,C6,e6,a6,b6,Dw⟩:=eY (m:=3) (k:=j) Hw (by decide) (by decide)
 obtain⟨x,i1,hx⟩:=Nf (.int t1) (.int t2) (.int (99990-t3)) a4 b4
 obtain⟨y,i2,hy⟩:=Nf (.int 0) (.int t5) (.int 99999) a6 b6
 obtain⟨f,rfl,f0,f1⟩:∃f,x=.int f/\0<=f/\f<=99990:=by rcases hx with rfl|rfl|rfl<;>exact⟨_,rfl,by lia,by lia⟩
 obtain⟨g,rfl,g0⟩:∃g,y=.int g/\0<=g:=by rcases hy with rfl|rfl|rfl<;>exact⟨_,rfl,by lia⟩
 obtain⟨l,e7,l1,l2,l3⟩:=Ue 99999 (f+g)
 refine gg ⟨f,l,C6,gZ [aa (.ce b),aj] rfl rfl ?_ rfl (h.eq Dw),f0,by lia,l1,Dw⟩;simp_arith[Qp,e1,e2,e3,e4,i1,e5,e6,i2,e7]
theorem ac7{C:Ce}{b L j:Nat}(h:Bl L C b (j+4)):∃(n:Int)(C':Ce),Bo [.ce b] C=aa (.im (.int n),C')/\0<=n/\n<=1000000000/\Bl L C' b j:=by
 refine hide λGG gg=>?_
 obtain⟨t1,C1,e1,a1,b1,iZ⟩:=eY (m:=4) (k:=j+3) h (by decide) (by decide)
 obtain⟨t2,C2,e2,a2,b2,hB2⟩:=eY (m:=4) (k:=j+2) iZ (by decide) (by decide)
 obtain⟨t3,C3,e3,a3,b3,hB3⟩:=eY (m:=3) (k:=j+1) hB2 (by decide) (by decide)
 obtain⟨t4,C4,e4,a4,b4,ug⟩:=eY (m:=3) (k:=j) hB3 (by decide) (by decide)
 obtain⟨x,i1,hx⟩:=Nf (.int t1) (.int (100+t2)) (.int (1000000000-t3)) a4 b4
 obtain⟨f,rfl,f0,f1⟩:∃f,x=.int f/\0<=f/\f<=1000000000:=by rcases hx with rfl|rfl|rfl<;>exact⟨_,rfl,by lia,by lia⟩
 have pw:xY (.int 10) (.int 9)=aa (.im (.int 1000000000)):=rfl;refine gg ⟨f,C4,gZ [aa (.ce b)] rfl rfl ?_ rfl (h.eq ug),f0,f1,ug⟩;simp_arith[Qq,e1,e2,pw,e3,e4,i1]
theorem Zm(ps:List (Str×Str))(h:ps.length<=60):∃qs:List Str,qs.Perm (ps.map (·.1))/\Fg [.dict (bu (bY ps))]=aa (.ow (.list (qs.map .str))):=by
 refine⟨jX strLt (ps.map (·.1)),rW _,?_⟩
 have e:(bu (bY ps)).map (·.1)=(ps.map (·.1)).map eV:=by
  unfold bu bY;rw[dW,dW,dW];rfl
 show((strsOf ((bu (bY ps)).map (·.1))).bind _)=_
 rw[e,QF,jx,gk (by rw[bw];lia)];rfl
theorem alZ{a d m:Int}(a0:0<=a)(a1:a<m)(d0:1<=d)(d1:d<m):0<=(a+d)%m/\(a+d)%m<m/\(a+d)%m≠a:=by
 refine⟨oH _ (by lia),uo _ (by lia),?_⟩
 by_cases h:a+d<m
 .rw[Oa (by lia) h];lia
 .have e:(a+d)%m=a+d-m:=by
   rw[show a+d=m+(a+d-m) by lia,Int.add_emod_left,Oa (by lia) (by lia)];lia
  lia
abbrev u5(b:Nat)(ps:List (Str×Str))(pe:List Str)(many:Int)(pap:au)(day:Int)(lv:List cI)(os:List Str)(v8 v9 v10 v11 bT dU:Option Vl):En:=
 [aa (.ce b),aa (.im (.dict (bu (bY ps)))),aa (.im (.list (pe.map .str))),aa (.im (.int many)),aa (.im pap),aa (.im (.int day)),aa (.ow (.list (lv.map bD))),aa (.ow (.list (os.map .str))),v8,v9,v10,v11,bT,dU]
structure aeh(zs own pe:List Str)(num:Int)(r:cI):Prop where
 num:r.1=num
 ok:vC zs own r
 giver:r.2.1∈pe
 taker:r.2.2.1∈pe
theorem ahF{C:Ce}{b L j:Nat}{zs pe:List Str}{ps:List (Str×Str)}{z a1 b1:Str}{n day num many:Int}{lv:List cI}(hB:Bl L C b (j+19))(hN:Names zs)(hP:iR zs ps)(p0:0<ps.length)(p8:ps.length<=8)(pl:2<=pe.length)(pl2:pe.length<=20)(pn:pe.Nodup)(pz:∀x∈pe,x∈zs)(n0:0<=n)(n1:n<=1000000000)(d0:0<=day)(d1:day<=99999)(nb:0<=num/\num<=2000)(ll:lv.length<=16)(v9 v10 v11 bT dU:Option Vl):
  ∃(r:cI)(C':Ce)(w9 w10 w11 w12 w13:Option Vl),yR (u5 b ps pe many (fG z a1 b1 n) day lv (up ps z) (aa (.im (.int num))) v9 v10 v11 bT dU) C=aa (.nx,u5 b ps pe many (fG z a1 b1 n) day (lv++[r]) (up ps z) (aa (.im (.int num))) w9 w10 w11 w12 w13,C')/\aeh zs (ps.map (·.1)) pe num r/\Bl L C' b j:=by
 refine hide λGG gg=>?_
 obtain⟨t1,C1,e1,a1',Dv,iZ⟩:=eY (m:=(pe.length:Int)) (k:=j+18) hB (by lia) (by lia)
 obtain⟨t2,C2,e2,a2,b2,hB2⟩:=eY (m:=(pe.length:Int)-1) (k:=j+17) iZ (by lia) (by lia)
 obtain⟨t3,C3,e3,a3,b3,hB3⟩:=eY (m:=2) (k:=j+16) hB2 (by decide) (by decide)
 have mu:jV (.int t2) (.int t3)=aa (.im (.int (t2*t3))):=mul_eq (.inl (by lia));have md:=mod_eq (i:=t1+1+t2*t3) (j:=(pe.length:Int)) (by lia)
 obtain⟨d,hd,dl,dh⟩:∃d:Int,t1+1+t2*t3=t1+d/\1<=d/\d<pe.length:=by
  have:t3=0\/t3=1:=by lia
  rcases this with rfl|rfl
  .exact⟨1,by rw[Int.mul_zero];lia,by lia,by lia⟩
  .exact⟨1+t2,by rw[Zr];lia,by lia,by lia⟩
 obtain⟨r0,r1,r2⟩:=alZ a1' Dv dl dh
 rw[<-hd] at r0 r1 r2
 generalize(t1+1+t2*t3)%(pe.length:Int)=to at md r0 r1 r2
 obtain⟨g,mg,ig,xg⟩:=uB (zs:=pe) a1' Dv
 obtain⟨t,mt,it,xt⟩:=uB (zs:=pe) r0 r1
 have hne:g≠t:=λz=>by
  subst z;have:=anC pn ig it;lia
 obtain⟨qs,qp,so⟩:=Zm ps (by lia)
 have ln:=aaz ps
 obtain⟨t4,C4,e4,a4,b4,ug⟩:=eY (m:=(ps.length:Int)) (k:=j+15) hB3 (by lia) (by lia)
 obtain⟨y,my,_,xy⟩:=uB (zs:=qs) a4 (by rw[qp.length_eq,bw];exact b4)
 have oy:y∈ps.map (·.1):=qp.mem_iff.mp my
 obtain⟨f,l,C5,e5,f0,f1,f2,Hw⟩:=acq (j:=j+9) ug
 obtain⟨s,C6,e6,s0,s1,Dw⟩:=ac7 (j:=j+5) Hw
 obtain⟨t7,C7,e7,a7,b7,Hz⟩:=eY (m:=3) (k:=j+4) Dw (by decide) (by decide)
 have q:(lv.length<1000000)=True:=eq_true (by lia);have WM:∀a b c d e f:au,cG (.tuple [a,b,c,d]) (.tuple [e,f])=aa (.im (.tuple [a,b,c,d,e,f])):=λ_ _ _ _ _ _=>Lz (Dy rfl)
 have WN:∀a b c d e f g:au,cG (.tuple [a,b,c,d,e,f]) (.tuple [g])=aa (.im (.tuple [a,b,c,d,e,f,g])):=λ_ _ _ _ _ _ _=>Lz (Dy rfl)
 have pw:xY (.int 10) (.int 9)=aa (.im (.int 1000000000)):=rfl;have nn:=ne_nil (up ps z) λx hx=>QD hN hP (ac6 hN hP hx)
 have gr:∀(y:Str)(f l m:Int)(w9:Option Vl),y∈ps.map (·.1)->(0<=f/\f<=l/\l<=99999)->(0<=m/\m<=1000000000)->aeh zs (ps.map (·.1)) pe num (num,g,t,y,f,l,m):=λy f l m w9 hy hd hm=>⟨rfl,⟨nb,pz _ mg,pz _ mt,hne,hy,hd,hm⟩,mg,mt⟩
 have other:∀C8,Bl L C8 b j->(yR (u5 b ps pe many (fG z a1 b1 n) day lv (up ps z) (aa (.im (.int num))) v9 v10 v11 bT dU) C=aa (.nx,u5 b ps pe many (fG z a1 b1 n) day (lv++[(num,g,t,y,f,l,s)]) (up ps z) (aa (.im (.int num))) (aa (.im (.int t1))) (aa (.im (.int to))) (aa (.im (.str y))) (aa (.im (.tuple [.int f,.int l]))) (aa (.im (.int s))),C8))->GG:=λC8 h8 run=>gg ⟨_,C8,_,_,_,_,_,run,gr y f l s aj oy ⟨f0,f1,f2⟩ ⟨s0,s1⟩,h8⟩
 by_cases h7:0<t7
 .have Ng:=gk h7;by_cases hu:up ps z=[]
  .rw[hu] at nn;refine other C7 (Hz.mono (by lia)) ?_;simp only[u5,hu,mW,Ye] at nn⊢;simp_arith[yR,e1,e2,e3,mu,md,so,ln,e4,xy,e5,e6,e7,Ng,nn,xg,xt,WM,WN,lG,oY,q];simp only[gQ,cJ,mW,bD]
  .have u0:0<(up ps z).length:=NB.mpr hu;have ul:=UL ps z;have nn:lV (.list ((up ps z).map .str)) (.list [])=aa (.im (.bool ao)):=by
    rw[nn];cases hh:up ps z with
    |nil=>exact absurd hh hu
    |cons _ _=>rfl
   obtain⟨t8,C8,e8,a8,b8,hB8⟩:=eY (m:=((up ps z).length:Int)) (k:=j+3) Hz (by lia) (by lia)
   obtain⟨y2,my2,_,xy2⟩:=uB (zs:=up ps z) a8 b8
   obtain⟨t9,C9,e9,a9,b9,hB9⟩:=eY (m:=2) (k:=j+2) hB8 (by decide) (by decide)
   obtain⟨tA,CA,eA,aA,bA,WQ⟩:=eY (m:=2) (k:=j+1) hB9 (by decide) (by decide)
   obtain⟨tB,CB,eB,aB,bB,WR⟩:=eY (m:=2) (k:=j) WQ (by decide) (by decide)
   obtain⟨f',x1,x2,x3,x4⟩:=alY 0 (day-t9)
   obtain⟨l',x5,x6,x7,x8⟩:=Ue 99999 (day+tA)
   obtain⟨m',x9,xA,xB,xC⟩:=Ue 1000000000 (n+tB)
   refine gg ⟨(num,g,t,y2,f',l',m'),CB,aa (.im (.int t1)),aa (.im (.int to)),aa (.im (.str y2)),aa (.im (.tuple [.int f',.int l'])),aa (.im (.int m')),?_,gr y2 f' l' m' aj (ac6 hN hP my2) ⟨x2,by lia,x6⟩ ⟨by lia,xA⟩,WR⟩;simp_arith[yR,e1,e2,e3,mu,md,so,ln,e4,xy,e5,e6,e7,Ng,nn,e8,xy2,e9,x1,eA,x5,pw,eB,x9,xg,xt,WM,WN,lG,oY,q];simp only[u5,gQ,cJ,mW,bD]
 .have Ng:=gM h7;refine other C7 (Hz.mono (by lia)) ?_;simp_arith[yR,e1,e2,e3,mu,md,so,ln,e4,xy,e5,e6,e7,Ng,xg,xt,WM,WN,lG,oY,q];simp only[u5,gQ,cJ,mW,bD]
theorem ajh{C:Ce}{b L j:Nat}{zs pe:List Str}{ps:List (Str×Str)}{z a1 b1:Str}{n day:Int}{many:Int}(hB:Bl L C b (j+405))(hN:Names zs)(hP:iR zs ps)(p0:0<ps.length)(p8:ps.length<=8)(pl:2<=pe.length)(pl2:pe.length<=20)(pn:pe.Nodup)(pz:∀x∈pe,x∈zs)(n0:0<=n)(n1:n<=1000000000)(d0:0<=day)(d1:day<=99999)(m0:0<=many)(m1:many<=16):
  ∃(lv:List cI)(C':Ce),IV [.ce b,.im (.dict (bu (bY ps))),.im (.list (pe.map .str)),.im (.int many),.im (fG z a1 b1 n),.im (.int day)] C=aa (.ow (.list (lv.map bD)),C')/\(lv.length<=16/\(lv.length:Int)<=many)/\(∀r∈lv,vC zs (ps.map (·.1)) r/\r.2.1∈pe/\r.2.2.1∈pe)/\(lv.map (·.1)).Pairwise (·<·)/\(∀r∈lv,r.1<=200)/\Bl L C' b j:=by
 refine hide λGG gg=>?_
 have o1:=abq (C:=C) hN hP p8 z;have ig:decide ((1:Int)<(pe.length:Int))=ao:=gk (by lia);have mu:jV (.int many) (.int 1)=aa (.im (.int (many*1))):=mul_eq (.inl (by lia));rw[Zr] at mu
 obtain⟨ns,C1,e1,nl,hn,rise,iZ⟩:=aje (j:=j+304) (m:=many) hB m0 (by lia)
 obtain⟨env',C',e,lv,w8,w9,w10,w11,w12,w13,he,hm,hr,hB'⟩:=Bt (g:=fJ 8) (body:=yR) (its:=ns.map .int) (env:=u5 b ps pe many (fG z a1 b1 n) day [] (up ps z) aj aj aj aj aj aj) (C:=C1)
  (λi env C2=>∃(lv:List cI)(w8 w9 w10 w11 w12 w13:Option Vl),env=u5 b ps pe many (fG z a1 b1 n) day lv (up ps z) w8 w9 w10 w11 w12 w13/\lv.map (·.1)=ns.take i/\(∀r∈lv,vC zs (ps.map (·.1)) r/\r.2.1∈pe/\r.2.2.1∈pe)/\Bl L C2 b (j+19*(16-i)))
  ⟨[],aj,aj,aj,aj,aj,aj,rfl,rfl,(λ_ h=>nomatch h),iZ⟩ (λi d env C2 hd hI=>by
   obtain⟨lv,w8,w9,w10,w11,w12,w13,rfl,hm,hr,hB⟩:=hI
   obtain⟨x,rfl,hx,mx,hi⟩:=alz hd
   rw[Vo j 19 (by lia:i<16)] at hB;have ll:lv.length<=16:=by
    have:=congrArg mq hm;rw[bw,pJ] at this;lia
   obtain⟨r,C3,w9,w10,w11,w12,w13,e,h1,hB3⟩:=ahF (z:=z) (a1:=a1) (b1:=b1) (many:=many) (lv:=lv) hB hN hP p0 p8 pl pl2 pn pz n0 n1 d0 d1 ⟨(hn x mx).1,ahp (hn x mx).2 (by decide)⟩ ll w9 w10 w11 w12 w13
   refine⟨_,.nx,_,C3,rfl,e,.inl rfl,lv++[r],_,_,_,_,_,_,rfl,?_,λq hq=>?_,hB3⟩
   .rw[gQ,hm,take_snoc hx,cJ,h1.num];rfl
   .rcases dB.mp hq with hq|hq
    .exact hr q hq
    .rw[iY.mp hq]
     exact⟨h1.ok,h1.giver,h1.taker⟩)
 rw[bw] at hm hB';rw[List.take_length] at hm;subst he;have ll:lv.length<=16/\(lv.length:Int)<=many:=by
  have:=congrArg mq hm;rw[bw] at this;lia
 have hB2:Bl L C' b j:=hB'.mono (Ol _ _);refine gg ⟨lv,C',gZ [aa (.ce b),aa (.im (.dict (bu (bY ps)))),aa (.im (.list (pe.map .str))),aa (.im (.int many)),aa (.im (fG z a1 b1 n)),aa (.im (.int day)),aj,aj,aj,aj,aj,aj,aj,aj] rfl rfl ?_ rfl (hB.eq hB2),ll,hr,by rw[hm];exact rise,λr h=>(hn r.1 (hm▸eU.mpr ⟨r,h,rfl⟩)).2,hB2⟩;simp only[u5,mW] at e;simp_arith[O8,o1,ig,yf,mu,e1,iT,e]
structure anD(zs:List Str)(ps:List (Str×Str))(pe:List Str)(lv:List cI)(z a1 b1:Str)(n day:Int):Prop where
 names:Names zs
 len:zs.length=24
 parts:iR zs ps
 p0:0<ps.length
 p8:ps.length<=8
 two:2<=pe.length
 few:pe.length<=17
 arz:pe.Nodup
 aoF:∀x∈pe,x∈zs
 arA:z∈zs
 arB:a1∈zs
 arC:b1∈zs
 n0:0<=n
 n1:n<=1000000000
 d0:0<=day
 d1:day<=99999
 jR:lv.length<=16
 leaves:∀r∈lv,vC zs (ps.map (·.1)) r/\r.2.1∈pe/\r.2.2.1∈pe
 rise:(lv.map (·.1)).Pairwise (·<·)
 num:∀r∈lv,r.1<=200
theorem al0{C:Ce}{b L j:Nat}{most:Int}(hB:Bl L C b (j+460))(m0:0<=most)(m1:most<=16):
  ∃(zs:List Str)(ps:List (Str×Str))(pe:List Str)(lv:List cI)(z a1 b1:Str)(n day:Int)(C':Ce),Fo [.ce b,.im (.int most)] C=aa (.tp [.dict (bu (bY ps)),.list (pe.map .str)] (.list (lv.map bD)) [fG z a1 b1 n,.int day],C')/\anD zs ps pe lv z a1 b1 n day/\(lv.length:Int)<=most/\Bl L C' b j:=by
 refine hide λGG gg=>?_
 obtain⟨zs,C1,e1,hN,WT,iZ⟩:=akp (m:=24) (j:=j+448) hB (by decide) (by decide)
 have WT:zs.length=24:=WT
 obtain⟨t2,C2,e2,a2,b2,hB2⟩:=eY (m:=8) (k:=j+447) iZ (by decide) (by decide)
 have ct:=U6 (zs:=zs) (m:=1+t2) (by lia) (by lia);have tl:(zs.take (1+t2).toNat).length=(1+t2).toNat:=by rw[pJ];lia
 obtain⟨ps,C3,e3,hP,pl,hB3⟩:=ajd (j:=j+431) (zs:=zs.take (1+t2).toNat) hB2 (by lia) ⟨hN.1.sublist (Ii _ _),λz hz=>hN.2 z (wJ hz)⟩
 have hP:=aih hP;have p0:0<ps.length:=by lia
 have p8:ps.length<=8:=by lia
 have ln:=aaz ps
 obtain⟨t4,C4,e4,a4,b4,ug⟩:=eY (m:=3) (k:=j+430) hB3 (by decide) (by decide)
 obtain⟨x4,i4,h4⟩:=Nf (.int 4) (.int 9) (.int 16) a4 b4
 obtain⟨w,rfl,w0,w1⟩:∃w,x4=.int w/\0<w/\w<=16:=by rcases h4 with rfl|rfl|rfl<;>exact⟨_,rfl,by lia,by lia⟩
 obtain⟨t5,C5,e5,a5,b5,Hw⟩:=eY (m:=w) (k:=j+429) ug w0 (by lia)
 obtain⟨k5,hk5⟩:∃k5:Nat,2+2+t5=((2+(2+k5):Nat):Int):=⟨t5.toNat,by lia⟩
 have HB:=Ud eV (xs:=zs) (a:=2) (b:=2+(2+k5)) (by lia) (by lia);rw[<-hk5,show 2+(2+k5)-2=2+k5 by lia] at HB;have HB:lH (zs.map eV) (aa 2) (aa (2+2+t5))=_:=HB
 obtain⟨pe,hpe⟩:∃pe,pe=(zs.drop 2).take (2+k5):=⟨_,rfl⟩
 rw[<-hpe] at HB;have pl1:pe.length=2+k5:=by rw[hpe,pJ,DN];lia
 have pnd:pe.Nodup:=by rw[hpe];exact hN.1.sublist ((Ii _ _).trans (List.drop_sublist _ _))
 have pin:∀x∈pe,x∈zs:=λx hx=>by rw[hpe] at hx;exact HS (wJ hx)
 have Nh:=Ud eV (xs:=zs) (a:=18) (b:=20) (by decide) (by lia);have Nh:lH (zs.map eV) (aa 18) (aa 20)=_:=Nh
 obtain⟨ex,hex⟩:∃ex,ex=(zs.drop 18).take (20-18):=⟨_,rfl⟩
 rw[<-hex] at Nh;have exl:ex.length<=2:=by rw[hex,pJ];lia
 have xin:∀x∈ex,x∈zs:=λx hx=>by rw[hex] at hx;exact HS (wJ hx)
 have ad1:cG (.list (pe.map .str)) (.list (ex.map .str))=aa (.ow (.list ((pe++ex).map .str))):=by
  rw[gQ];exact add_l (by rw[bw,bw];lia)
 obtain⟨sm,hsm⟩:∃sm,sm=pe++ex:=⟨_,rfl⟩
 rw[<-hsm] at ad1;have sl:0<sm.length/\sm.length<=100:=by rw[hsm,gb];lia
 have sin:∀x∈sm,x∈zs:=λx hx=>by
  rw[hsm] at hx;rcases dB.mp hx with hx|hx
  .exact pin x hx
  .exact xin x hx
 obtain⟨t6,C6,e6,a6,b6,Dw⟩:=eY (m:=(sm.length:Int)) (k:=j+428) Hw (by lia) (by lia)
 obtain⟨s1,m1',_,x1⟩:=uB (zs:=sm) a6 b6
 obtain⟨t7,C7,e7,a7,b7,Hz⟩:=eY (m:=(sm.length:Int)) (k:=j+427) Dw (by lia) (by lia)
 obtain⟨s2,m2',_,x2⟩:=uB (zs:=sm) a7 b7
 have fin:∀(C9:Ce)(a1 b1:Str),a1∈zs->b1∈zs->Bl L C9 b (j+425)->(jF (dI (aO vV (az (bM cC (aH (aU 0) (aH (aN (.int 3)) aY)))) (az (aN (.int 0))))) (di 6 (mK (aH (aO bQ (aK 2) (az (aN (.int 20)))) (aH (aO bQ (aK 2) (az (aO cG (az (aN (.int 20))) (az (bM cC (aH (aU 0) (aH (aN (.int 2)) aY))))))) aY)))) jW [aa (.ce b),aa (.im (.int most)),aa (.ow (.list (zs.map .str))),aa (.ow (.dict (bu (bY ps)))),aa (.ow (.list (pe.map .str))),aa (.ow (.list (sm.map .str))),aa (.im (.tuple [.str s1,.str s2])),aj,aj,aj] C7=aa (.nx,[aa (.ce b),aa (.im (.int most)),aa (.ow (.list (zs.map .str))),aa (.ow (.dict (bu (bY ps)))),aa (.ow (.list (pe.map .str))),aa (.ow (.list (sm.map .str))),aa (.im (.tuple [.str a1,.str b1])),aj,aj,aj],C9))->GG:=λC9 a1 b1 ha hb hB9 e9=>by
  obtain⟨qs,qp,so⟩:=Zm ps (by lia)
  have Ni:=Ud eV (xs:=zs) (a:=22) (b:=23) (by decide) (by lia);have Ni:lH (zs.map eV) (aa 22) (aa 23)=_:=Ni
  obtain⟨ey,WW⟩:∃ey,ey=(zs.drop 22).take (23-22):=⟨_,rfl⟩
  rw[<-WW] at Ni;have eyl:ey.length=1:=by rw[WW,pJ,DN];lia
  have yin:∀x∈ey,x∈zs:=λx hx=>by rw[WW] at hx;exact HS (wJ hx)
  have ql:qs.length=ps.length:=by rw[qp.length_eq,bw]
  have ad2:cG (.list (qs.map .str)) (.list (ey.map .str))=aa (.ow (.list ((qs++ey).map .str))):=by
   rw[gQ];exact add_l (by rw[bw,bw];lia)
  obtain⟨qy,WX⟩:∃qy,qy=qs++ey:=⟨_,rfl⟩
  rw[<-WX] at ad2;have qyl:qy.length=ps.length+1:=by rw[WX,gb];lia
  have qin:∀x∈qy,x∈zs:=λx hx=>by
   rw[WX] at hx;rcases dB.mp hx with hx|hx
   .have:=qp.mem_iff.mp hx;rw[QC hP] at this;exact wJ this
   .exact yin x hx
  obtain⟨tA,CA,eA,aA,bA,WQ⟩:=eY (m:=9) (k:=j+424) hB9 (by decide) (by decide)
  obtain⟨u,hu,u0,u1⟩:∃u:Int,(if(tA==0)=ao then(1:Int) else 0)=u/\0<=u/\u<=1:=⟨_,rfl,by split<;>lia,by split<;>lia⟩
  obtain⟨tB,CB,eB,aB,bB,WR⟩:=eY (m:=(ps.length:Int)+u) (k:=j+423) WQ (by lia) (by lia)
  obtain⟨z,mz,_,xz⟩:=uB (zs:=qy) aB (by lia)
  obtain⟨n,CC,eC,n0,n1,hBC⟩:=ac7 (j:=j+419) WR
  obtain⟨f,l,CD,eD,f0,f1,f2,hBD⟩:=acq (j:=j+413) hBC
  obtain⟨tE,CE,eE,aE,bE,hBE⟩:=eY (m:=2) (k:=j+412) hBD (by decide) (by decide)
  obtain⟨day,iE,d0,d1⟩:∃day:Int,fY [lQ f,.int l] tE=aa (.int day)/\0<=day/\day<=99999:=by
   have:tE=0\/tE=1:=by lia
   rcases this with rfl|rfl
   .exact⟨f,V2 _ _,f0,by lia⟩
   .exact⟨l,V3 _ _ _,by lia,f2⟩
  obtain⟨tF,CF,eF,aF,bF,hBF⟩:=eY (m:=most+1) (k:=j+411) hBE (by lia) (by lia)
  obtain⟨lv,CG,eG,jR,hr,rise,num,hBG⟩:=ajh (many:=tF) (j:=j+6) (z:=z) (a1:=a1) (b1:=b1) (n:=n) (day:=day) hBF hN hP p0 p8 (by lia) (by lia) pnd pin n0 n1 d0 d1 aF (by lia)
  refine gg ⟨zs,ps,pe,lv,z,a1,b1,n,day,CG,gZ [aa (.ce b),aa (.im (.int most)),aj,aj,aj,aj,aj,aj,aj,aj] rfl rfl ?_ rfl (hB.eq hBG),⟨hN,WT,hP,p0,p8,by lia,by lia,pnd,pin,qin z mz,ha,hb,n0,n1,d0,d1,jR.1,hr,rise,num⟩,by have:=jR.2;lia,hBG.mono (by lia)⟩;have t22:∀a b c d:au,cG (.tuple [a,b]) (.tuple [c,d])=aa (.im (.tuple [a,b,c,d])):=λ_ _ _ _=>Lz (Dy rfl)
  simp_arith[T7,e1,e2,gF,fO,jl,m7,ct,e3,e4,i4,e5,HB,Nh,ad1,e6,x1,e7,x2,↓e9,so,Ni,ad2,ln,eA,yf,hu,eB,xz,eC,t22,eD,eE,iE,eF,eG,Vr,Lh]
 obtain⟨t8,C8,e8,a8,b8,hB8⟩:=eY (m:=3) (k:=j+426) Hz (by decide) (by decide)
 by_cases h8:0<t8
 .have WY:=gk h8
  obtain⟨t9,C9,e9,a9,b9,hB9⟩:=eY (m:=2) (k:=j+425) hB8 (by decide) (by decide)
  obtain⟨y0,n0,_,z0⟩:=uB (zs:=zs) (k:=20) (by lia) (by lia)
  obtain⟨y1,n1,_,z1⟩:=uB (zs:=zs) (k:=20+t9) (by lia) (by lia)
  exact fin C9 y0 y1 n0 n1 hB9 (by simp_arith[e8,WY,z0,e9,z1])
 .have WY:=gM h8;exact fin C8 s1 s2 (sin _ m1') (sin _ m2') hB8.dec (by simp_arith[e8,WY])
def j4(r q:List Int):Prop:=r.length<q.length\/(r.length=q.length/\lexLe r q)
theorem abw:∀r:List Int,lexLe r r
 |[]=>trivial
 |a::r=>.inr ⟨rfl,abw r⟩
theorem lex_trans:∀{r q s:List Int},lexLe r q->lexLe q s->lexLe r s
 |[],_,_,_,_=>trivial
 |a::r,b::q,c::s,h1,h2=>by
  rcases h1 with h1|⟨h1,k1⟩
  .rcases h2 with h2|⟨h2,k2⟩<;>exact .inl (by lia)
  .rcases h2 with h2|⟨h2,k2⟩
   .exact .inl (by lia)
   .exact .inr ⟨by lia,lex_trans k1 k2⟩
theorem abx(n:Int):∀{r q:List Int},r.length=q.length->lexLe r q->lexLe (r++[n]) (q++[n])
 |[],[],_,_=>.inr ⟨rfl,trivial⟩
 |a::r,b::q,l,h=>h.imp id λh=>⟨h.1,abx n (Jj l) h.2⟩
theorem j4.refl(r:List Int):j4 r r:=.inr ⟨rfl,abw r⟩
theorem j4.trans{r q s:List Int}(h1:j4 r q)(h2:j4 q s):j4 r s:=by
 rcases h1 with h1|⟨h1,k1⟩
 .rcases h2 with h2|⟨h2,k2⟩<;>exact .inl (by lia)
 .rcases h2 with h2|⟨h2,k2⟩
  .exact .inl (by lia)
  .exact .inr ⟨by lia,lex_trans k1 k2⟩
theorem j4.snoc{r q:List Int}(n:Int)(h:j4 r q):j4 (r++[n]) (q++[n]):=by
 unfold j4;rw[gb,gb];rcases h with h|⟨h,k⟩
 .exact .inl (by lia)
 .exact .inr ⟨by lia,abx n h k⟩
def ltB(r q:List Int):Bool:=if(r.length:Int)=q.length then fD (r.map .inl) (q.map .inl) else decide ((r.length:Int)<q.length)
theorem U7:∀{r q:List Int},r.length=q.length->(fD (r.map .inl) (q.map .inl)=ao->lexLe r q)/\(fD (r.map .inl) (q.map .inl)=aJ->lexLe q r)
 |[],[],_=>⟨λ_=>trivial,λ_=>trivial⟩
 |a::r,b::q,l=>by
  rw[cJ,cJ,fD];have ih:=U7 (Jj l);by_cases e:a=b
  .rw[bz (congrArg kZ e)]
   exact⟨λh=>.inr ⟨e,ih.1 h⟩,λh=>.inr ⟨e.symm,ih.2 h⟩⟩
  .rw[bH λh=>e (by injection h)]
   refine⟨λh=>.inl (of_decide_eq_true h),λh=>.inl ?_⟩
   have:=of_decide_eq_false h;lia
theorem ac8(r q:List Int):(ltB r q=ao->j4 r q)/\(ltB r q=aJ->j4 q r):=by
 unfold ltB;by_cases e:(r.length:Int)=q.length
 .rw[bz e];have e:r.length=q.length:=by lia
  exact⟨λh=>.inr ⟨e,(U7 e).1 h⟩,λh=>.inr ⟨e.symm,(U7 e).2 h⟩⟩
 .rw[bH e]
  refine⟨λh=>.inl ?_,λh=>.inl ?_⟩
  .have:=of_decide_eq_true h;lia
  .have:=of_decide_eq_false h;lia
theorem aaC:∀r:List Int,keysOf (r.map .int)=aa (r.map .inl)
 |[]=>rfl
 |a::r=>by
  rw[cJ,keysOf,aaC r];rfl
theorem aku(r q:List Int):Gv (.tuple [.int r.length,.list (r.map .int)]) (.tuple [.int q.length,.list (q.map .int)])=aa (.im (.bool (ltB r q))):=by
 unfold Gv;simp only[aaC,jx];refine bz λh=>?_
 have:r.length=q.length:=by lia
 rw[dW,dW,show(bV ∘ kZ:Int->Bool)=λ_=>ao from rfl,agz,agz,this]
abbrev Tb:=List (Str×List Int)
def iz(f:Tb):List (Str×au):=f.map λx=>(x.1,.list (x.2.map .int))
def cY(f:Tb)(p:Str):Option (List Int):=(f.find? λx=>decide (x.1=p)).map (·.2)
theorem xG(x:Str×List Int)(l:Tb)(p:Str):cY (x::l) p=if x.1=p then aa x.2 else cY l p:=by
 unfold cY;rw[pK];by_cases h:x.1=p
 .rw[gk h,bz h];rfl
 .rw[gM h,bH h]
def uW(f:Tb)(z:Str)(v:List Int):Tb:=if(cY f z).isSome then f.map (λx=>if x.1=z then(z,v) else x) else f++[(z,v)]
theorem K3(z p:Str)(v:List Int)(f:Tb):cY (uW f z v) p=if z=p then aa v else cY f p:=by
 have set:∀f:Tb,cY (f.map λx=>if x.1=z then(z,v) else x) p=if z=p then(cY f p).map λ_=>v else cY f p:=λf=>by
  induction f with
  |nil=>split<;>rfl
  |cons x f ih=>
   rw[cJ,xG,xG,ih];by_cases h2:z=p
   .subst h2;by_cases h:x.1=z
    .simp[h]
    .simp[h]
   .by_cases h:x.1=z
    .simp[h,h2]
    .simp[h,h2]
 have app:∀f:Tb,cY (f++[(z,v)]) p=(cY f p).or (if z=p then aa v else aj):=λf=>by
  induction f with
  |nil=>exact xG _ _ _
  |cons x f ih=>
   rw[jL,xG,xG,ih];by_cases h:x.1=p
   .rw[bz h,bz h];rfl
   .rw[bH h,bH h]
 unfold uW;split
 .rename_i h;rw[set];by_cases e:z=p
  .subst e
   obtain⟨w,hw⟩:=wG.mp h
   rw[bz rfl,bz rfl,hw];rfl
  .rw[bH e,bH e]
 .rename_i h;rw[app];by_cases e:z=p
  .subst e;rw[Option.not_isSome_iff_eq_none.mp h,bz rfl];rfl
  .rw[bH e,bH e,Option.or_none]
theorem akv(f:Tb)(z:Str)(v:List Int):(uW f z v).length<=f.length+1:=by
 unfold uW;split
 .rw[bw];exact uw _
 .rw[gb];exact cg _
theorem K4(f:Tb)(z:Str):nG (bu (iz f)) (.str z)=aa ((cY f z).map λv=>.list (v.map .int)):=by
 rw[Q9];unfold iz cY;rw[YC,DR,DR];rfl
theorem adJ(f:Tb)(z:Str):jY (.str z) (.dict (bu (iz f)))=aa (.im (.bool (cY f z).isSome)):=by
 show((nG (bu (iz f)) (.str z)).map (·.isSome)).map (λb=>Vl.im (.bool b))=_
 rw[K4,j6,Am];rfl
theorem aoG{f:Tb}{z:Str}{v:List Int}(h:cY f z=aa v):bQ (.dict (bu (iz f))) (.str z)=aa (.im (.list (v.map .int))):=by
 unfold bQ tZ;simp only[K4,h,j6]
theorem anE(f:Tb)(z:Str)(v:List Int):putD (bu (iz f)) (.str z) (.list (v.map .int))=aa (bu (iz (uW f z v))):=by
 have ks:(cY f z).isSome=ao↔z∈(iz f).map (·.1):=by
  unfold cY iz;rw[Am,dW,af9];simp only[eU,decide_eq_true_eq];rfl
 unfold uW;by_cases h:(cY f z).isSome=ao
 .rw[bz h]
  show(if(cO cX (bu (iz f))).isSome then aa (nR cX (.inr z) (.str z) (.list (v.map .int)) (bu (iz f))) else aj)=_
  rw[Ew];refine congrArg aa ?_;unfold nR;rw[bz]
  .unfold bu iz;rw[dW,dW,dW,dW];refine u9 λx _=>?_
   by_cases e:x.1=z
   .simp[BW,e]
   .simp[BW,e]
  .obtain⟨x,hx,e⟩:=eU.mp (ks.mp h)
   exact Yd.mpr ⟨(.str x.1,x.2),eU.mpr ⟨x,hx,rfl⟩,gk ((BW _ _).mpr e)⟩
 .rw[bH h,R8 λm=>h (ks.mpr m)];unfold iz;rw[gQ];rfl
theorem al1(f:Tb)(z:Str):(cY f z).isSome=ao↔z∈f.map (·.1):=by
 unfold cY;rw[Am,af9];simp only[eU,decide_eq_true_eq]
theorem anF{f:Tb}(h:(f.map (·.1)).Nodup)(z:Str)(v:List Int):((uW f z v).map (·.1)).Nodup:=by
 unfold uW;split
 .rw[dW,show f.map ((·.1) ∘ λx=>if x.1=z then(z,v) else x)=f.map (·.1) from u9 λx _=>by
   by_cases e:x.1=z
   .simp[e]
   .simp[e]]
  exact h
 .rename_i k;rw[gQ];exact kY.mpr ⟨h,jD.mpr ⟨mj,nZ⟩,λa ha c hc e=>k ((al1 f z).mpr (by rw[e,iY.mp hc] at ha;exact ha))⟩
def GR(v:List Int):Option (List Int)->Bool
 |none=>ao
 |some o=>ltB v o
def kJ(f:Tb)(r:cI):Tb:=match cY f r.2.1 with
 |none=>f
 |some v=>if GR (v++[r.1]) (cY f r.2.2.1) then uW f r.2.2.1 (v++[r.1]) else f
def qI(lv:List cI):Nat->Tb->Tb
 |0,f=>f
 |n+1,f=>qI lv n (lv.foldl kJ f)
def qO(f g:Tb):Prop:=∀x v,cY f x=aa v->∃w,cY g x=aa w/\j4 w v
theorem qO.refl(f:Tb):qO f f:=λx v h=>⟨v,h,j4.refl _⟩
theorem qO.trans{f g h:Tb}(a:qO f g)(b:qO g h):qO f h:=λx v e=>by
 obtain⟨w,e1,l1⟩:=a x v e
 obtain⟨u,e2,l2⟩:=b x w e1
 exact⟨u,e2,l2.trans l1⟩
theorem ac9(f:Tb)(r:cI):qO f (kJ f r):=by
 unfold kJ;split
 .exact qO.refl f
 .rename_i v hv;split
  .rename_i b;intro x w hx;rw[K3];by_cases e:r.2.2.1=x
   .rw[bz e];rw[e,hx] at b
    exact⟨_,rfl,(ac8 _ _).1 b⟩
   .rw[bH e]
    exact⟨w,hx,j4.refl _⟩
  .exact qO.refl f
theorem al2{f:Tb}{r:cI}{v:List Int}(h:cY f r.2.1=aa v):∃w,cY (kJ f r) r.2.2.1=aa w/\j4 w (v++[r.1]):=by
 unfold kJ;rw[h];show ∃w,cY (if GR (v++[r.1]) (cY f r.2.2.1) then uW f r.2.2.1 (v++[r.1]) else f) r.2.2.1=aa w/\_;split
 .rw[K3,bz rfl]
  exact⟨_,rfl,j4.refl _⟩
 .rename_i b;cases o:cY f r.2.2.1 with
  |none=>rw[o] at b;exact absurd rfl b
  |some w=>
   rw[o] at b
   exact⟨w,rfl,(ac8 _ _).2 (X6 _▸b)⟩
theorem U8:∀(lv:List cI)(f:Tb),qO f (lv.foldl kJ f)
 |[],f=>qO.refl f
 |r::lv,f=>(ac9 f r).trans (U8 lv (kJ f r))
theorem ada(lv:List cI):∀(n:Nat)(f:Tb),qO f (qI lv n f)
 |0,f=>qO.refl f
 |n+1,f=>(U8 lv f).trans (ada lv n _)
theorem acr{r:cI}:∀{lv:List cI}{f:Tb}{v:List Int},r∈lv->cY f r.2.1=aa v->∃w,cY (lv.foldl kJ f) r.2.2.1=aa w/\j4 w (v++[r.1])
 |q::lv,f,v,hm,hg=>by
  rw[Io];rcases cB.mp hm with c|hm
  .subst c
   obtain⟨w,e,l⟩:=al2 hg
   obtain⟨u,e2,l2⟩:=U8 lv _ _ _ e
   exact⟨u,e2,l2.trans l⟩
  .obtain⟨w,e,l⟩:=ac9 f q _ _ hg
   obtain⟨u,e2,l2⟩:=acr hm e
   exact⟨u,e2,l2.trans (l.snoc _)⟩
theorem acs{lv:List cI}{a x:Str}{p:List Int}(hp:iu (lv.map uV) a p x):∀{k:Nat}{f:Tb}{v p0:List Int},cY f a=aa v->j4 v p0->p.length<=k->∃w,cY (qI lv k f) x=aa w/\j4 w (p0++p):=by
 induction hp with
 |nil _=>
  intro k f v p0 h l _
  obtain⟨w,e,l2⟩:=ada lv k f _ _ h
  exact⟨w,e,by rw[lO];exact l2.trans l⟩
 |cons h1 _ ih=>
  intro k f v p0 h l hl;cases k with
  |zero=>exact absurd hl (afC _)
  |succ k=>
   obtain⟨c,hr,e⟩:=eU.mp h1
   injection e with e1 e2
   injection e2 with e2 e3
   obtain⟨w,e4,l4⟩:=acr (f:=f) hr (by rw[e2];exact h)
   rw[e3] at e4;rw[e1] at l4
   obtain⟨u,e5,l5⟩:=ih (k:=k) e4 (l4.trans (l.snoc _)) (Nat.le_of_succ_le_succ hl)
   rw[mR] at l5
   exact⟨u,e5,l5⟩
def Ah(ws:List (Int×Str×Str))(h:Str)(f:Tb):Prop:=∀x v,cY f x=aa v->iu ws h v x
theorem anG{ws:List (Int×Str×Str)}{h:Str}{f:Tb}{r:cI}(hr:uV r∈ws)(H:Ah ws h f):Ah ws h (kJ f r):=by
 unfold kJ;split
 .exact H
 .rename_i v hv;split
  .intro x w hx;rw[K3] at hx;by_cases e:r.2.2.1=x
   .rw[bz e] at hx;cases hx;rw[<-e]
    exact(H _ _ hv).snoc hr
   .rw[bH e] at hx;exact H x w hx
  .exact H
theorem adb{ws:List (Int×Str×Str)}{h:Str}:∀{lv:List cI}{f:Tb},(∀r∈lv,uV r∈ws)->Ah ws h f->Ah ws h (lv.foldl kJ f)
 |[],_,_,H=>H
 |r::lv,f,hr,H=>adb (lv:=lv) (λq hq=>hr q (fP _ hq)) (anG (hr r dN) H)
theorem ade{ws:List (Int×Str×Str)}{h:Str}{lv:List cI}(hr:∀r∈lv,uV r∈ws):∀{n:Nat}{f:Tb},Ah ws h f->Ah ws h (qI lv n f)
 |0,_,H=>H
 |n+1,_,H=>ade hr (n:=n) (adb hr H)
def wC(f:Tb)(M:Nat):Prop:=f.length<=M+1/\∀x v,cY f x=aa v->v.length<=M
theorem adf{f:Tb}{M:Nat}(r:cI)(h:wC f M):wC (kJ f r) (M+1):=by
 have h':wC f (M+1):=⟨X3 h.1,λx v e=>X3 (h.2 x v e)⟩
 unfold kJ;split
 .exact h'
 .rename_i v hv;split
  .have:=akv f r.2.2.1 (v++[r.1]);have:=h.1
   refine⟨by lia,λx w hx=>?_⟩
   rw[K3] at hx;by_cases e:r.2.2.1=x
   .rw[bz e] at hx;cases hx;rw[gb];exact Oc (h.2 _ _ hv)
   .rw[bH e] at hx;exact h'.2 x w hx
  .exact h'
theorem adg:∀{lv:List cI}{f:Tb}{M:Nat},wC f M->wC (lv.foldl kJ f) (M+lv.length)
 |[],_,_,h=>h
 |r::lv,f,M,h=>by
  have:=adg (lv:=lv) (adf r h);rw[Nat.add_right_comm] at this;exact this
theorem anH{f:Tb}(h:(f.map (·.1)).Nodup)(r:cI):((kJ f r).map (·.1)).Nodup:=by
 unfold kJ;split
 .exact h
 .split
  .exact anF h _ _
  .exact h
theorem adh:∀{lv:List cI}{f:Tb},(f.map (·.1)).Nodup->((lv.foldl kJ f).map (·.1)).Nodup
 |[],_,h=>h
 |r::lv,f,h=>adh (lv:=lv) (anH h r)
theorem adi{lv:List cI}:∀{n:Nat}{f:Tb},(f.map (·.1)).Nodup->((qI lv n f).map (·.1)).Nodup
 |0,_,h=>h
 |n+1,_,h=>adi (n:=n) (adh h)
theorem aji{C:Ce}{lv:List cI}{h:Str}(jR:lv.length<=16)(s:Str):LQ (lv.map uV) h s (cY (qI lv lv.length [(h,[])]) s)/\∀v,cY (qI lv lv.length [(h,[])]) s=aa v->v.length<=16:=by
 have T0:Ah (lv.map uV) h [(h,[])]:=λx v e=>by
  rw[xG] at e;split at e
  .rename_i k;cases e;rw[<-k];exact .nil _
  .cases e
 have T:=ade (lv:=lv) (λr hr=>eU.mpr ⟨r,hr,rfl⟩) (n:=lv.length) T0;have few:∀r,iu (lv.map uV) h r s->∃w,cY (qI lv lv.length [(h,[])]) s=aa w/\w.length<=lv.length/\(r.length<=lv.length->j4 w r):=λr hr=>by
  obtain⟨st,_,B⟩:=SQ (C:=C) (ws:=(lv.map uV).map CZ) (s:=h) (by rw[bw,bw];lia)
  obtain⟨p,hp,pl⟩:=B.abj ⟨r,hr⟩
  rw[bw] at pl;have f0:cY [(h,[])] h=aa []:=by rw[xG,bz rfl]
  obtain⟨w,e,l⟩:=acs hp f0 (j4.refl []) pl
  refine⟨w,e,?_,λrl=>?_⟩
  .rw[jm] at l;rcases l with l|l<;>lia
  .obtain⟨w',e',l'⟩:=acs hr f0 (j4.refl []) rl
   rw[e] at e';cases e';exact l'
 cases e:cY (qI lv lv.length [(h,[])]) s with
 |none=>
  refine⟨λr hr=>?_,λv k=>nomatch k⟩
  obtain⟨w,e2,_⟩:=few r hr
  rw[e] at e2;cases e2
 |some v=>
  refine⟨⟨T s v e,λr hr=>?_⟩,λv' k=>by
   obtain⟨w,e2,l2,_⟩:=few v (T s v e)
   rw[e] at e2;cases e2;cases k;lia⟩
  obtain⟨w,e2,l2,k⟩:=few r hr
  rw[e] at e2;cases e2;by_cases c:r.length<=lv.length
  .exact k c
  .exact .inl (by lia)
theorem uL{f g:FS}{env e1:En}{C C1:Ce}(h:f env C=aa (.nx,e1,C1)):bK f g env C=g e1 C1:=by
 unfold bK;rw[h]
theorem Cw{fi:FI}{g:FG}{b:FS}{env e1:En}{C C1:Ce}{its:List au}(h:fi env C=aa (its,e1,C1)):iT fi g b env C=jf g b its e1 C1:=by
 unfold iT;rw[h]
theorem adk{C:Ce}{f:FB}{env:En}{k:Int}(h:f env C=aa (.int k,env,C))(k1:0<=k)(k2:k<=1000):ju f env C=aa (jt 0 k.toNat,env,C):=by
 unfold ju;rw[h];exact yw (by lia) (by lia) _ _
theorem akx(r:cI)(l:List au):gO (bD r::l)=gO l:=by
 unfold bD;simp only[gO,kO,agW,agX]
theorem Rk:∀l:List cI,gO (l.map bD)=ao
 |[]=>rfl
 |r::l=>by rw[cJ,akx];exact Rk l
abbrev rM(v0 v1 v2 v3 v4 v5:Option Vl)(f:Tb)(v7 v8 v9 v10:Option Vl):En:=[v0,v1,v2,v3,v4,v5,aa (.ow (.dict (bu (iz f)))),v7,v8,v9,v10]
section
variable{C:Ce}{v0 v1 v2 v3 v4 v5 v7:Option Vl}
theorem aky{f:Tb}{M:Nat}(r:cI)(hz:wC f M)(hM:M<=1000)(v9 v10:Option Vl):∃w9 w10,O9 (rM v0 v1 v2 v3 v4 v5 f v7 (aa (.im (bD r))) v9 v10) C=aa (.nx,rM v0 v1 v2 v3 v4 v5 (kJ f r) v7 (aa (.im (bD r))) w9 w10,C):=by
 have q:((bu (iz f)).length<1000000)=True:=eq_true (by have:=hz.1;unfold bu iz;rw[bw,bw];lia);have i1:=adJ f r.2.1;have g1:=K4 f r.2.2.1;unfold kJ;simp only[rM,bD];cases hv:cY f r.2.1 with
 |none=>
  rw[hv] at i1
  refine⟨v9,v10,?_⟩
  simp_arith[i1,XC]
 |some v=>
  rw[hv] at i1;have x1:=aoG hv;have ad:cG (.list (v.map .int)) (.list [.int r.1])=aa (.ow (.list ((v++[r.1]).map .int))):=by
   rw[gQ];exact add_l (by have:=hz.2 _ _ hv;rw[bw];show _+1<=_;lia)
  have p1:=anE f r.2.2.1 (v++[r.1])
  obtain⟨row,hrow⟩:∃row,v++[r.1]=row:=⟨_,rfl⟩
  rw[hrow] at ad p1;cases ho:cY f r.2.2.1 with
  |none=>
   rw[ho] at g1
   refine⟨aa (.im (.list (row.map .int))),aa (.im .none),?_⟩
   simp_arith[i1,Dz,hrow,x1,ad,Dk,g1,Option.map_none,pR,isNone,GR,o9,rB,p1,q]
  |some o=>
   rw[ho] at g1;have l1:=aku row o;cases hb:ltB row o with
   |true=>
    rw[hb] at l1
    refine⟨aa (.im (.list (row.map .int))),aa (.im (.list (o.map .int))),?_⟩
    simp_arith[i1,Dz,hrow,x1,ad,Dk,g1,j6,pR,isNone,GR,hb,bw,l1,o9,rB,p1,q]
   |false=>
    rw[hb] at l1
    refine⟨aa (.ow (.list (row.map .int))),aa (.im (.list (o.map .int))),?_⟩
    simp_arith[i1,Dz,hrow,x1,ad,Dk,g1,j6,pR,isNone,GR,hb,bw,l1,pH]
theorem adl:∀(lv:List cI)(f:Tb)(M:Nat)(v8 v9 v10:Option Vl),wC f M->M+lv.length<=1000->∃w8 w9 w10,jf (fJ 8) O9 (lv.map bD) (rM v0 v1 v2 v3 v4 v5 f v7 v8 v9 v10) C=aa (.nx,rM v0 v1 v2 v3 v4 v5 (lv.foldl kJ f) v7 w8 w9 w10,C)
 |[],f,M,v8,v9,v10,_,_=>⟨v8,v9,v10,rfl⟩
 |r::lv,f,M,v8,v9,v10,hz,hl=>by
  rw[cZ] at hl
  obtain⟨x9,x10,e1⟩:=aky (C:=C) (v0:=v0) (v1:=v1) (v2:=v2) (v3:=v3) (v4:=v4) (v5:=v5) (v7:=v7) r hz (by lia) v9 v10
  obtain⟨w8,w9,w10,e⟩:=adl lv (kJ f r) (M+1) (aa (.im (bD r))) x9 x10 (adf r hz) (by lia)
  refine⟨w8,w9,w10,?_⟩
  rw[Io,<-e,cJ,jf];simp only[rM,fJ,Ie,Ig] at e1⊢;simp only[e1]
end
theorem Z7{C:Ce}{v0 v1 v2 v3 v4:Option Vl}{lv:List cI}(jR:lv.length<=16):∀(its:List au)(f:Tb)(M:Nat)(sv:Vl)(v7 v8 v9 v10:Option Vl),sv=.ow (.list (lv.map bD))\/sv=.im (.list (lv.map bD))->wC f M->M+16*its.length<=900->∃w5 w7 w8 w9 w10,jf (fJ 7) YL its (rM v0 v1 v2 v3 v4 (aa sv) f v7 v8 v9 v10) C=aa (.nx,rM v0 v1 v2 v3 v4 w5 (qI lv its.length f) w7 w8 w9 w10,C)
 |[],f,M,sv,v7,v8,v9,v10,_,_,_=>⟨aa sv,v7,v8,v9,v10,rfl⟩
 |d::its,f,M,sv,v7,v8,v9,v10,hv,hz,hl=>by
  rw[cZ] at hl
  obtain⟨x8,x9,x10,e1⟩:=adl (C:=C) (v0:=v0) (v1:=v1) (v2:=v2) (v3:=v3) (v4:=v4) (v5:=aa (.im (.list (lv.map bD)))) (v7:=aa (.im d)) lv f M v8 v9 v10 hz (by lia)
  obtain⟨w5,w7,w8,w9,w10,e2⟩:=Z7 jR its (lv.foldl kJ f) (M+lv.length) (.im (.list (lv.map bD))) (aa (.im d)) x8 x9 x10 (.inr rfl) (adg hz) (by lia)
  refine⟨w5,w7,w8,w9,w10,?_⟩
  rw[cZ,qI,<-e2,jf];simp only[rM] at e1⊢;rcases hv with rfl|rfl
  .simp_arith[iT,e1]
  .simp_arith[iT,e1]
theorem aii{C:Ce}{zs:List Str}{ps:List (Str×Str)}(hN:Names zs)(hP:iR zs ps)(p8:ps.length<=8)(z a1 b1:Str)(n day:Int)(lv:List cI):kj .one Pa Pb [aa (.im (.dict (bu (bY ps)))),aa (.im (fG z a1 b1 n)),aa (.im (.int day))] (lv.map bD) C=aa ((lv.filter (qH (up ps z) n day a1 b1)).map bD,C):=by
 refine qT (T:=.one) (ft:=Pa) (fe:=Pb) (fs:=[aa (.im (.dict (bu (bY ps)))),aa (.im (fG z a1 b1 n)),aa (.im (.int day))]) (C:=C) bD (qH (up ps z) n day a1 b1) bD (l:=lv) λr _=>⟨[bD r],rfl,?_,λ_=>⟨.im (bD r),_,rfl,rfl⟩⟩
 have q:=alW (C:=C) hN hP p8 z a1 b1 n day r;simp_arith[eN,jL,jm,q]
theorem ajj{os:List Str}{n day:Int}{a1 b1:Str}{r:cI}(h:qH os n day a1 b1 r=ao):¬(r.2.2.1=a1\/r.2.2.1=b1):=by
 unfold qH at h;simp only[jK,XS] at h;exact of_decide_eq_false h.2.2.2.2
theorem akz{ht:lB}{os:List Str}{n day:Int}{a1 b1 h s:Str}{p:List Int}(hs:¬(h=a1\/h=b1))(hp:iu (kE ht os n day a1 b1) h p s):¬(s=a1\/s=b1):=by
 have:=hp.ac1;generalize p.reverse=p' at this;cases this with
 |nil=>exact hs
 |cons hw _=>
  obtain⟨r,hr,e⟩:=eU.mp (Sg.mp hw)
  injection e with e1 e2
  injection e2 with e2 e3
  rw[<-e3];exact ajj (qb.mp hr).2
def Dm(ht:lB)(os:List Str)(n day:Int)(a1 b1 h s:Str)(o:Option (List Int)):Prop:=(((h=a1\/h=b1)\/(s=a1\/s=b1))->o=aj)/\(¬((h=a1\/h=b1)\/(s=a1\/s=b1))->LQ (kE ht os n day a1 b1) h s o)
theorem aij{C:Ce}{zs:List Str}{ps ps':List (Str×Str)}{lv:List cI}(hN:Names zs)(hP:iR zs ps)(p8:ps.length<=8)(jR:lv.length<=16)(z a1 b1:Str)(n day:Int)(h:Str):
  ∃f:Tb,Bp [.im (.dict (bu (bY ps))),.im (.list (lv.map bD)),.im (fG z a1 b1 n),.im (.str h),.im (.int day)] C=aa (.ow (.dict (bu (iz f))),C)/\(∀s,Dm ⟨ps',[],lv,[]⟩ (up ps z) n day a1 b1 h s (cY f s)/\∀v,cY f s=aa v->v.length<=16)/\(f.map (·.1)).Nodup:=by
 refine hide λGG gg=>?_
 have ct:lH [eV z,.int n,.str a1,.str b1] (aa 2) aj=[.str a1,.str b1]:=rfl;have ni:=Ge h a1 b1;by_cases h1:h=a1\/h=b1
 .rw[gk h1] at ni;refine gg ⟨[],gZ [aa (.im (.dict (bu (bY ps)))),aa (.im (.list (lv.map bD))),aa (.im (fG z a1 b1 n)),aa (.im (.str h)),aa (.im (.int day)),aj,aj,aj,aj,aj,aj] rfl rfl ?_ rfl rfl,λs=>⟨⟨λ_=>rfl,λk=>absurd (.inl h1) k⟩,λv k=>nomatch k⟩,nZ⟩;simp_arith[Jw,gF,fO,jl,m7,ct,ni,xP];rfl
 rw[gM h1] at ni
 obtain⟨l,lE⟩:∃l,l=lv.filter (qH (up ps z) n day a1 b1):=⟨_,rfl⟩
 have ll:l.length<=16:=by rw[lE];exact j7 (yO _ _) jR
 have c:=aii (C:=C) hN hP p8 z a1 b1 n day lv;rw[<-lE] at c;have q:(l.length<=1000000)=True:=eq_true (by lia);have nl:=Rk l;have kd:cX (.str h)=aa (.inr h):=rfl;have fm:=λs=>aji (C:=C) (h:=h) ll s
 have rl:(jt 0 l.length).length=l.length:=by simp[jt]
 have z0:wC [(h,[])] 0:=⟨cg _,λx v e=>by
  rw[xG] at e;split at e
  .cases e;exact cg _
  .cases e⟩
 obtain⟨w5,w7,w8,w9,w10,e1⟩:=Z7 (C:=C) (v0:=aa (.im (.dict (bu (bY ps))))) (v1:=aa (.im (.list (lv.map bD)))) (v2:=aa (.im (fG z a1 b1 n))) (v3:=aa (.im (.str h))) (v4:=aa (.im (.int day))) ll (jt 0 l.length) [(h,[])] 0 (.ow (.list (l.map bD))) aj aj aj aj (.inl rfl) z0 (by rw[rl];lia)
 rw[rl] at e1;have nd:((qI l l.length [(h,[])]).map (·.1)).Nodup:=adi (jD.mpr ⟨mj,nZ⟩);generalize qI l l.length [(h,[])]=f at fm e1 nd;refine gg ⟨f,gZ [aa (.im (.dict (bu (bY ps)))),aa (.im (.list (lv.map bD))),aa (.im (fG z a1 b1 n)),aa (.im (.str h)),aa (.im (.int day)),aj,aj,aj,aj,aj,aj] rfl rfl ?_ rfl rfl,λs=>⟨⟨λk=>?_,λ_=>by have:=(fm s).1;rw[lE] at this;exact this⟩,(fm s).2⟩,nd⟩
 .refine(congrArg (ZX λp=>(p.1,p.2.2)) (?_:Jw _ C=aa (.rt (.ow (.dict (bu (iz f)))),rM (aa (.im (.dict (bu (bY ps))))) (aa (.im (.list (lv.map bD)))) (aa (.im (fG z a1 b1 n))) (aa (.im (.str h))) (aa (.im (.int day))) w5 f w7 w8 w9 w10,C))).trans rfl
  refine(uL (e1:=[aa (.im (.dict (bu (bY ps)))),aa (.im (.list (lv.map bD))),aa (.im (fG z a1 b1 n)),aa (.im (.str h)),aa (.im (.int day)),aj,aj,aj,aj,aj,aj]) (C1:=C) ?_).trans ?_
  .simp_arith[gF,fO,jl,m7,ct,ni]
  refine(uL (e1:=rM (aa (.im (.dict (bu (bY ps))))) (aa (.im (.list (lv.map bD)))) (aa (.im (fG z a1 b1 n))) (aa (.im (.str h))) (aa (.im (.int day))) (aa (.ow (.list (l.map bD)))) [(h,[])] aj aj aj aj) (C1:=C) ?_).trans ?_
  .have k0:bu (iz [(h,[])])=[(.str h,.list [])]:=rfl;simp only[rM,k0];simp_arith[c,q,nl,CW,kd]
  refine(uL ((Cw (adk (k:=(l.length:Int)) ?_ (by lia) (by lia))).trans e1)).trans ?_
  .show aa (lQ ((l.map bD).length:Int),_,C)=_;rw[bw];rfl
  .rfl
 .cases e:cY f s with
  |none=>rfl
  |some v=>
   have:=(fm s).1;rw[e,lE] at this;exact absurd (k.resolve_left h1) (akz (ht:=⟨ps',[],lv,[]⟩) h1 this.1)
theorem Z8{C:Ce}{zs:List Str}{ps ps':List (Str×Str)}{lv:List cI}(hN:Names zs)(hP:iR zs ps)(p8:ps.length<=8)(jR:lv.length<=16)(z a1 b1:Str)(n day:Int)(h:Str):
  ∃f:Tb,Bp [.im (.dict (bu (bY ps))),.im (.list (lv.map bD)),.im (fG z a1 b1 n),.im (.str h),.im (.int day)] C=aa (.ow (.dict (bu (iz f))),C)/\∀s,Dm ⟨ps',[],lv,[]⟩ (up ps z) n day a1 b1 h s (cY f s)/\∀v,cY f s=aa v->v.length<=16:=by
 obtain⟨f,e,M,_⟩:=aij (C:=C) (ps':=ps') hN hP p8 jR z a1 b1 n day h
 exact⟨f,e,M⟩
theorem acu{α:Type}{P:α->Prop}:∀{l:List α},(∀x∈l,P x)->∃xs:List {x:α // P x},xs.map (·.1)=l
 |[],_=>⟨[],rfl⟩
 |x::l,h=>by
  obtain⟨xs,e⟩:=acu λy hy=>h y (fP _ hy)
  exact⟨⟨x,h x dN⟩::xs,congrArg (x::·) e⟩
theorem ajk{C:Ce}{b L j:Nat}{pe:List Str}(hn:∀z∈pe,nameB z=ao)(hl:pe.length<=100)(hB:Bl L C b (j+pe.length)):∃(ys:List Str)(C':Ce),Ej [.ce b,.im (.list (pe.map .str))] C=aa (.ow (.list (ys.map .str)),C')/\ys.Perm pe/\Bl L C' b j:=by
 obtain⟨xs,rfl⟩:=acu hn
 rw[bw] at hl hB
 obtain⟨ys,C',e,pm,hB'⟩:=alX (D:=λx:{z:Str // nameB z=ao}=>eV x.1) (λl=>by
  have:=ne_nil (l.map (·.1)) (λz hz=>by obtain⟨x,_,rfl⟩:=eU.mp hz;exact x.2);rw[dW,List.isEmpty_map] at this;exact this) hl hB
 refine⟨ys.map (·.1),C',?_,pm.map _,hB'⟩
 rw[dW,dW];exact e
def gW{α:Type}(D:α->au)(l:List (Int×α)):List (au×au):=l.map λx=>(.int x.1,D x.2)
def wF{α:Type}(l:List (Int×α))(n:Int):Option α:=(l.find? λx=>decide (x.1=n)).map (·.2)
theorem aby{α:Type}(x:Int×α)(l:List (Int×α))(n:Int):wF (x::l) n=if x.1=n then aa x.2 else wF l n:=by
 unfold wF;rw[pK];by_cases h:x.1=n
 .rw[gk h,bz h];rfl
 .rw[gM h,bH h]
theorem U9{α:Type}(D:α->au):∀l:List (Int×α),cO cX (gW D l)=aa (l.map λx=>.inl x.1)
 |[]=>rfl
 |x::l=>by
  unfold gW;rw[cJ,cO];have:=U9 D l;unfold gW at this;rw[this];rfl
theorem al3{α:Type}(D:α->au)(l:List (Int×α))(n:Int):nG (gW D l) (.int n)=aa ((wF l n).map D):=by
 have e:∀l:List (Int×α),oW cX (.inl n) (gW D l)=(wF l n).map D:=λl=>by
  induction l with
  |nil=>rfl
  |cons x l ih=>
   show(if cX (.int x.1)=aa (.inl n) then aa (D x.2) else oW cX (.inl n) (gW D l))=_
   rw[ih,aby];by_cases h:x.1=n
   .rw[bz (by rw[h];rfl),bz h];rfl
   .rw[bH (λk=>h (by injection k with k;injection k)),bH h]
 show(if(cO cX (gW D l)).isSome then aa (oW cX (.inl n) (gW D l)) else aj)=_
 rw[U9,e];rfl
theorem aoH{α:Type}(D:α->au){l:List (Int×α)}{n:Int}{x:α}(h:wF l n=aa x):bQ (.dict (gW D l)) (.int n)=aa (.im (D x)):=by
 unfold bQ tZ;simp only[al3,h,j6]
theorem ajl(l:List Int)(h:l.length<64):KH [.list (l.map .int)]=aa (.ow (.list ((jX ltI l).map .int))):=by
 have hs:Gp (l.map .int)=aa ((jX ltI l).map .int):=by
  unfold Gp;rw[bz (by rw[bw];exact h)];simp only[QG]
 unfold KH Kd;simp only[hs,j6]
abbrev Wy:=Int×Str×Str
def nU(ws:List Wy)(k:Int):List Wy:=ws.filter λw=>!(w.1==k)
theorem Ug{ws:List Wy}{k:Int}{w:Wy}:w∈nU ws k↔w∈ws/\w.1≠k:=by
 unfold nU;rw[qb];simp
theorem acv{ws:List Wy}{k:Int}{a b:Str}{r:List Int}(h:iu ws a r b):k∉r->iu (nU ws k) a r b:=by
 induction h with
 |nil p=>exact λ_=>.nil p
 |cons hw _ ih=>exact λm=>.cons (Ug.mpr ⟨hw,λe=>m (by rw[<-e];exact dN)⟩) (ih λz=>m (fP _ z))
theorem al4{ws:List Wy}{a b:Str}{r:List Int}(h:iu ws a r b):∀k∈r,k∈ws.map (·.1):=by
 induction h with
 |nil _=>exact λ_ m=>nomatch m
 |cons hw _ ih=>
  intro k m;rcases cB.mp m with rfl|m
  .exact eU.mpr ⟨_,hw,rfl⟩
  .exact ih k m
theorem aaD{ws:List Wy}{n:Int}{b:Str}{l2:List Int}:∀{l1:List Int}{a:Str},iu ws a (l1++n::l2) b->∃x y,(n,x,y)∈ws/\iu ws y l2 b
 |[],a,h=>by
  cases h with
  |cons hw hr=>exact⟨_,_,hw,hr⟩
 |k::l1,a,h=>by
  cases h with
  |cons hw hr=>exact aaD hr
theorem ajm{ws:List Wy}(hU:∀w∈ws,∀w'∈ws,w.1=w'.1->w=w'){a b:Str}{r:List Int}(h:iu ws a r b):∃r',iu ws a r' b/\r'.Nodup/\r'.length<=r.length/\(r'.length=r.length->r'=r):=by
 induction h with
 |nil p=>exact⟨[],.nil p,nZ,cg _,λ_=>rfl⟩
 |cons hw _ ih=>
  rename_i n p q s r _
  obtain⟨r0,h0,nd,le,eq⟩:=ih
  by_cases m:n∈r0
  .obtain⟨l1,l2,rfl⟩:=List.append_of_mem m
   obtain⟨x,y,hxy,h2⟩:=aaD h0
   have e:=hU _ hw _ hxy rfl;injection e with _ e
   injection e with e1 e2
   subst e1 e2
   refine⟨n::l2,.cons hw h2,(kY.mp nd).2.1,?_,λk=>?_⟩
   .rw[gb,cZ] at le;rw[cZ,cZ];lia
   .rw[gb,cZ] at le;rw[cZ,cZ] at k;lia
  .refine⟨n::r0,.cons hw h0,jD.mpr ⟨m,nd⟩,Oc le,λk=>?_⟩
   rw[eq (Jj k)]
theorem al5{C:Ce}{ws:List Wy}{h s:Str}{r:List Int}(hl:ws.length<=60)(hU:∀w∈ws,∀w'∈ws,w.1=w'.1->w=w')(R:tH ws h s r):r.length<=60/\r.Nodup:=by
 obtain⟨st,_,B⟩:=SQ (C:=C) (ws:=ws.map CZ) (s:=h) (by rw[bw];exact hl)
 obtain⟨p,hp,pl⟩:=B.abj ⟨r,R.1⟩
 obtain⟨r',h1,h2,h3,h4⟩:=ajm hU R.1
 have:r.length<=r'.length:=by rcases R.2 r' h1 with k|k<;>lia
 refine⟨by rcases R.2 p hp with k|k<;>lia,?_⟩
 rw[<-h4 (by lia)];exact h2
theorem aaE{l:List Int}(nd:l.Nodup):(jX ltI l).Pairwise (·<·):=by
 have h1:=RQ aec (l:=l) λ_ _=>trivial
 have h2:(jX ltI l).Nodup:=(rW l).nodup_iff.mpr nd
 refine(h1.and h2).imp λ{a b} h=>?_
 have:=h.1;unfold ltI at this;have:=of_decide_eq_false this;have:=h.2;lia
theorem anI{l m:List Int}(h1:l.Pairwise (·<·))(h2:m.Pairwise (·<·))(h:∀k,k∈l↔k∈m):l=m:=by
 have p:=aav (h1.imp λh=>Zn h) (h2.imp λh=>Zn h) h
 exact(sortI p (h1.imp λh=>Zk h)).trans (sortI (yW m) (h2.imp λh=>Zk h)).symm
theorem al6{C:Ce}{ws:List Wy}(hl:ws.length<=60)(hU:∀w∈ws,∀w'∈ws,w.1=w'.1->w=w')(h s:Str)(k:Int):∃b,Ei [.im (.list (ws.map wD)),.im (.int k),.im (.str h),.im (.str s)] C=aa (.im (.bool b),C)/\(b=ao↔¬wB (nU ws k) h s):=by
 have c:=qT (T:=.one) (ft:=O6) (fe:=O7) (fs:=[aa (.im (.int k))]) (C:=C) wD (λw=>!(w.1==k)) wD (l:=ws) λw _=>⟨[wD w],rfl,by simp only[wD];simp_arith[eN,jL,jm],λ_=>⟨.im (wD w),_,rfl,rfl⟩⟩
 have c:kj .one O6 O7 [aa (.im (.int k))] (ws.map wD) C=aa ((nU ws k).map wD,C):=c;have bl:(nU ws k).length<=60:=j7 (yO _ _) hl
 obtain⟨o,e,R⟩:=abu (C:=C) (ws:=nU ws k) (h:=h) (s:=s) bl λw m w' m'=>hU w (Ug.mp m).1 w' (Ug.mp m').1
 have q:((nU ws k).length<=1000000)=True:=eq_true (by lia);have nl:gO ((nU ws k).map wD)=ao:=Gf (λ_=>rfl) _;generalize nU ws k=us at c e R q nl;cases o with
 |none=>
  refine⟨ao,gZ [aa (.im (.list (ws.map wD))),aa (.im (.int k)),aa (.im (.str h)),aa (.im (.str s)),aj] rfl rfl ?_ rfl rfl,iff_of_true rfl λ⟨r,p⟩=>R r p⟩
  simp only[yx] at e;simp_arith[Ju,c,q,nl,e,pR,isNone]
 |some r=>
  refine⟨aJ,gZ [aa (.im (.list (ws.map wD))),aa (.im (.int k)),aa (.im (.str h)),aa (.im (.str s)),aj] rfl rfl ?_ rfl rfl,iff_of_false iI λn=>n ⟨r,R.1⟩⟩
  simp only[yx] at e;simp_arith[Ju,c,q,nl,e,pR,isNone]
def Cut(ws:List Wy)(a1 b1 h s:Str)(k:Int):Prop:=¬((h=a1\/h=b1)\/(s=a1\/s=b1))/\wB ws h s/\¬wB (nU ws k) h s
theorem Cut.num{ws:List Wy}{a1 b1 h s:Str}{k:Int}(c:Cut ws a1 b1 h s k):k∈ws.map (·.1):=by
 obtain⟨_,⟨r,hr⟩,n⟩:=c
 by_cases m:k∈r
 .exact al4 hr k m
 .exact absurd ⟨r,acv hr m⟩ n
open Classical in
theorem akA{C:Ce}{zs:List Str}{ps:List (Str×Str)}{ht:lB}(hN:Names zs)(hP:iR zs ps)(hG:sr zs ps ht)(z a1 b1:Str)(n day:Int)(h s:Str):
  ∃xs:List Int,DQ [.im (j9 ht),.im (fG z a1 b1 n),.im (.str h),.im (.str s),.im (.int day)] C=aa (.ow (.list (xs.map .int)),C)/\xs.length<=60/\xs.Pairwise (·<·)/\∀k,k∈xs↔Cut (kE ht (up ps z) n day a1 b1) a1 b1 h s k:=by
 obtain⟨o,e1,r1,r2⟩:=aks (C:=C) hN hP hG z a1 b1 n day h s
 have w:=ac5 (C:=C) hN hP hG z a1 b1 n day;have wl:=abv hG (up ps z) n day a1 b1;have hU:=ZC hG (up ps z) n day a1 b1;generalize kE ht (up ps z) n day a1 b1=ws at r2 w wl hU;cases o with
 |none=>
  refine⟨[],gZ [aa (.im (j9 ht)),aa (.im (fG z a1 b1 n)),aa (.im (.str h)),aa (.im (.str s)),aa (.im (.int day)),aj,aj] rfl rfl ?_ rfl rfl,m9 _,yQ,λk=>iff_of_false mj λc=>?_⟩
  .simp only[yx] at e1;simp_arith[Iu,e1,pR,isNone]
  .obtain⟨r,hr⟩:=c.2.1
   exact r2 c.1 r hr
 |some r=>
  have ns:¬((h=a1\/h=b1)\/(s=a1\/s=b1)):=λk=>nomatch r1 k
  have R:=r2 ns
  obtain⟨rl,rn⟩:=al5 (C:=C) wl hU R
  have so:=ajl r (by lia);have hp:∀k,Ei [.im (.list (ws.map wD)),.im (.int k),.im (.str h),.im (.str s)] C=aa (.im (.bool (decide (¬wB (nU ws k) h s))),C):=λk=>by
   obtain⟨b,e,i⟩:=al6 (C:=C) wl hU h s k
   rw[e];cases b with
   |true=>rw[gk (i.mp rfl)]
   |false=>rw[gM λz=>iI (i.mpr z)]
  have c:=qT (T:=.one) (ft:=Xy) (fe:=Xz) (fs:=[aa (.im (.list (ws.map wD))),aa (.im (.str h)),aa (.im (.str s))]) (C:=C) lQ (λk=>decide (¬wB (nU ws k) h s)) lQ (l:=jX ltI r) λk _=>⟨[.int k],rfl,by have:=hp k;simp_arith[eN,jL,jm,this],λ_=>⟨.im (.int k),_,rfl,rfl⟩⟩
  obtain⟨xs,hxs⟩:∃xs,xs=(jX ltI r).filter λk=>decide (¬wB (nU ws k) h s):=⟨_,rfl⟩
  rw[<-hxs] at c;have xl:xs.length<=60:=by rw[hxs];exact j7 (yO _ _) (by rw[(rW r).length_eq];exact rl)
  have q:(xs.length<=1000000)=True:=eq_true (by lia)
  refine⟨xs,gZ [aa (.im (j9 ht)),aa (.im (fG z a1 b1 n)),aa (.im (.str h)),aa (.im (.str s)),aa (.im (.int day)),aj,aj] rfl rfl ?_ rfl rfl,xl,?_,λk=>?_⟩
  .simp only[yx] at e1;simp_arith[Iu,e1,pR,isNone,w,so,c,q]
  .rw[hxs]
   exact(aaE rn).filter _
  .rw[hxs,qb,(rW r).mem_iff,decide_eq_true_iff]
   refine⟨λ⟨_,k2⟩=>⟨ns,⟨r,R.1⟩,k2⟩,λc=>⟨?_,c.2.2⟩⟩
   by_cases m:k∈r
   .exact m
   .exact absurd ⟨r,acv R.1 m⟩ c.2.2
def HD(lv:List cI):Prop:=∀r∈lv,nameB r.2.1=ao/\nameB r.2.2.1=ao/\nameB r.2.2.2.1=ao
theorem aaF{r:cI}(h:nameB r.2.1=ao/\nameB r.2.2.1=ao/\nameB r.2.2.2.1=ao):lN (bD r)=ao:=by
 have s1:=El h.1;have s2:=El h.2.1;have s3:=El h.2.2;unfold lN;simp only[bD,YB,N8,s1,s2,s3,agX,agW];exact gk (by show 0+1<=64;decide)
theorem aoI{q r:cI}(hq:nameB q.2.1=ao/\nameB q.2.2.1=ao/\nameB q.2.2.2.1=ao)(hr:nameB r.2.1=ao/\nameB r.2.2.1=ao/\nameB r.2.2.2.1=ao)(hu:q.1=r.1->q=r):lV (bD q) (bD r)=aa (.im (.bool (!(q.1==r.1)))):=by
 have e:yK (bD q) (bD r)=aa (xq (bD q) (bD r)):=by
  show(if qM (bD q)&&qM (bD r)&&(lN (bD q)&&lN (bD r)) then aa (xq (bD q) (bD r)) else aj)=_
  rw[aaF hq,aaF hr];rfl
 have f:xq (bD q) (bD r)=(q.1==r.1):=by
  show((q.1==r.1)&&_)=_
  by_cases c:q.1=r.1
  .cases hu c;simp[xq,PyData.eqvAll]
  .rw[show(q.1==r.1)=aJ from beq_eq_false_iff_ne.mpr c];rfl
 unfold lV;rw[e,f];rfl
def yz(lv:List cI)(k:Int):List cI:=lv.filter λq=>!(q.1==k)
theorem akB{C:Ce}{lv:List cI}(nm:HD lv)(nd:(lv.map (·.1)).Nodup){r:cI}(hr:r∈lv):kj .one Su Sv [aa (.im (bD r))] (lv.map bD) C=aa ((yz lv r.1).map bD,C):=
 qT (T:=.one) (ft:=Su) (fe:=Sv) (fs:=[aa (.im (bD r))]) (C:=C) bD (λq=>!(q.1==r.1)) bD (l:=lv) λq hq=>⟨[bD q],rfl,by
  have e:=aoI (nm q hq) (nm r hr) (Uc nd q hq r hr);simp_arith[eN,jL,jm,e],λ_=>⟨.im (bD q),_,rfl,rfl⟩⟩
theorem akC(ps':List (Str×Str))(lv:List cI)(os:List Str)(n day:Int)(a1 b1:Str)(k:Int):kE ⟨ps',[],yz lv k,[]⟩ os n day a1 b1=nU (kE ⟨ps',[],lv,[]⟩ os n day a1 b1) k:=by
 unfold kE nU yz;rw[List.filter_map,afS,afS];refine congrArg (List.map uV) (List.filter_congr λq _=>?_);rw[Bool.and_comm];rfl
theorem abz{ht:lB}{os:List Str}{n day:Int}{a1 b1 h s:Str}{o:Option (List Int)}(M:Dm ht os n day a1 b1 h s o):o.isSome=ao↔¬((h=a1\/h=b1)\/(s=a1\/s=b1))/\wB (kE ht os n day a1 b1) h s:=by
 by_cases c:(h=a1\/h=b1)\/(s=a1\/s=b1)
 .rw[M.1 c];exact iff_of_false iI λz=>z.1 c
 .have R:=M.2 c;cases o with
  |none=>exact iff_of_false iI λz=>let ⟨r,p⟩:=z.2;R r p
  |some r=>exact iff_of_true rfl ⟨c,r,R.1⟩
abbrev mO(f:Tb):au:=.dict (bu (iz f))
theorem anJ{α:Type}(D:α->au){l:List (Int×α)}{k:Int}(x:α)(h:k∉l.map (·.1)):putD (gW D l) (.int k) (D x)=aa (gW D (l++[(k,x)])):=by
 show(if(cO cX (gW D l)).isSome then aa (nR cX (.inl k) (.int k) (D x) (gW D l)) else aj)=_
 rw[U9];refine congrArg aa ?_;unfold nR;rw[bH]
 .unfold gW;rw[gQ];rfl
 .intro a
  obtain⟨y,hy,e⟩:=Yd.mp a
  obtain⟨w,hw,rfl⟩:=eU.mp hy
  have e:=of_decide_eq_true e;injection e with e
  injection e with e
  exact h (eU.mpr ⟨w,hw,e⟩)
theorem al7{α:Type}(D:α->au){l:List (Int×α)}(hl:l.length<64):Fi [.dict (gW D l)]=aa (.ow (.list ((jX ltI (l.map (·.1))).map .int))):=by
 have e:intsOf ((gW D l).map (·.1))=aa (l.map (·.1)):=by
  unfold gW;rw[dW,<-QG,dW];rfl
 unfold Fi;simp only[e,jx];rw[gk (by rw[bw];exact hl)];rfl
theorem Lj{α:Type}{k:Int}:∀{l:List (Int×α)},k∈l.map (·.1)->∃f,wF l k=aa f/\(k,f)∈l
 |x::l,h=>by
  rw[aby];by_cases e:x.1=k
  .rw[bz e]
   exact⟨x.2,rfl,by rw[<-e];exact dN⟩
  .rw[bH e];rcases cB.mp h with c|h
   .exact absurd c.symm e
   .obtain⟨f,h1,h2⟩:=Lj h
    exact⟨f,h1,fP _ h2⟩
theorem akD(f:Tb)(z:Str):uD (.str z) (.dict (bu (iz f)))=aa (.im (.bool (!(cY f z).isSome))):=by
 show((nG (bu (iz f)) (.str z)).map (·.isSome)).map (λb=>Vl.im (.bool (!b)))=_
 rw[K4,j6,Am];rfl
abbrev lM(v0 v1 v2:Option Vl)(ps:List (Str×Str))(v4:Option Vl)(nv:Vl)(z a1 b1:Str)(n day:Int)(v8:Option Vl)(ht:lB)(v10:Option Vl)(h:Str)(bT dU cP dz c7 cQ cR:Option Vl):En:=
 [v0,v1,v2,aa (.im (.dict (bu (bY ps)))),v4,aa nv,aa (.im (fG z a1 b1 n)),aa (.im (.int day)),v8,aa (.im (j9 ht)),v10,aa (.im (.str h)),bT,dU,cP,dz,c7,cQ,cR]
def Cy(ws:List Wy)(a1 b1 h:Str)(x:Int×Tb):Prop:=∀s,(cY x.2 s).isSome=ao↔¬((h=a1\/h=b1)\/(s=a1\/s=b1))/\wB (nU ws x.1) h s
section
variable{C:Ce}{v0 v1 v2 v4 v9 v10:Option Vl}{zs:List Str}{ps ps':List (Str×Str)}{lv:List cI}(hN:Names zs)(hP:iR zs ps)(p8:ps.length<=8)(jR:lv.length<=16)(nm:HD lv)(nd:(lv.map (·.1)).Nodup){z a1 b1 h:Str}{n day:Int}{bT dz c7 cQ cR:Option Vl}
include hN hP p8 jR nm nd
theorem ajn{l:List (Int×Tb)}{r:cI}(hr:r∈lv)(hl:l.length<=16)(hn:r.1∉l.map (·.1))(cP:Option Vl):∃f w14,Sw (lM v0 v1 v2 ps v4 (.im (.list (lv.map bD))) z a1 b1 n day (aa (.im (bD r))) ⟨ps',[],lv,[]⟩ v10 h bT (aa (.ow (.dict (gW mO l)))) cP dz c7 cQ cR) C=aa (.nx,lM v0 v1 v2 ps v4 (.im (.list (lv.map bD))) z a1 b1 n day (aa (.im (bD r))) ⟨ps',[],lv,[]⟩ v10 h bT (aa (.ow (.dict (gW mO (l++[(r.1,f)]))))) w14 dz c7 cQ cR,C)/\Cy (kE ⟨ps',[],lv,[]⟩ (up ps z) n day a1 b1) a1 b1 h (r.1,f):=by
 have c:=akB (C:=C) nm nd hr;have bl:(yz lv r.1).length<=16:=j7 (yO _ _) jR;have q:((yz lv r.1).length<=1000000)=True:=eq_true (by lia);have nl:=Rk (yz lv r.1)
 obtain⟨f,e1,M⟩:=Z8 (C:=C) (ps':=ps') hN hP p8 bl z a1 b1 n day h
 have p1:=anJ mO f hn;have q2:((gW mO l).length<1000000)=True:=eq_true (by unfold gW;rw[bw];lia)
 refine⟨f,aa (.im (.list ((yz lv r.1).map bD))),?_,λs=>?_⟩
 .generalize yz lv r.1=bs at c q nl e1;generalize gW mO (l++[(r.1,f)])=l2 at p1⊢;have i0:bQ (bD r) (.int 0)=aa (.im (.int r.1)):=rfl;simp only[lM];simp_arith[c,q,nl,e1,i0,o9,rB,p1,q2]
 .have:=abz (M s).1;rw[akC] at this;exact this
theorem aaG:∀(rs ds:List cI)(l:List (Int×Tb))(v8 cP:Option Vl),ds++rs=lv->l.map (·.1)=ds.map (·.1)->(∀x∈l,Cy (kE ⟨ps',[],lv,[]⟩ (up ps z) n day a1 b1) a1 b1 h x)->∃l' w8 w14,jf (fJ 8) Sw (rs.map bD) (lM v0 v1 v2 ps v4 (.im (.list (lv.map bD))) z a1 b1 n day v8 ⟨ps',[],lv,[]⟩ v10 h bT (aa (.ow (.dict (gW mO l)))) cP dz c7 cQ cR) C=aa (.nx,lM v0 v1 v2 ps v4 (.im (.list (lv.map bD))) z a1 b1 n day w8 ⟨ps',[],lv,[]⟩ v10 h bT (aa (.ow (.dict (gW mO l')))) w14 dz c7 cQ cR,C)/\l'.map (·.1)=lv.map (·.1)/\∀x∈l',Cy (kE ⟨ps',[],lv,[]⟩ (up ps z) n day a1 b1) a1 b1 h x
 |[],ds,l,v8,cP,hd,hk,ho=>⟨l,v8,cP,rfl,by rw[hk,<-hd,lO],ho⟩
 |r::rs,ds,l,v8,cP,hd,hk,ho=>by
  have hr:r∈lv:=by rw[<-hd];exact fK _ dN
  have ll:l.length<=16:=by
   have h1:=congrArg mq hk;have h2:=congrArg mq hd;rw[bw,bw] at h1;rw[gb] at h2;lia
  have hn:r.1∉l.map (·.1):=by
   rw[hk];have:=nd;rw[<-hd,gQ,cJ] at this;exact λm=>(kY.mp this).2.2 _ m _ dN rfl
  obtain⟨f,W0,e1,o1⟩:=ajn (C:=C) (v0:=v0) (v1:=v1) (v2:=v2) (v4:=v4) (v10:=v10) (ps':=ps') (bT:=bT) (dz:=dz) (c7:=c7) (cQ:=cQ) (cR:=cR) hN hP p8 jR nm nd (z:=z) (a1:=a1) (b1:=b1) (h:=h) (n:=n) (day:=day) hr ll hn cP
  obtain⟨l',w8,w14,e2,k2,o2⟩:=aaG rs (ds++[r]) (l++[(r.1,f)]) (aa (.im (bD r))) W0 (by rw[mR];exact hd) (by rw[gQ,gQ,hk];rfl) (λx hx=>by
   rcases dB.mp hx with hx|hx
   .exact ho x hx
   .rw[iY.mp hx];exact o1)
  refine⟨l',w8,w14,?_,k2,o2⟩
  rw[cJ,jf];simp only[lM,fJ,Ie,Ig] at e1 e2⊢;simp only[e1,e2]
end
theorem akE{C:Ce}{v0 v1 v2 v4 v8 v10 bT dU cP:Option Vl}{nv:Vl}{ps:List (Str×Str)}{ht:lB}{z a1 b1 h s:Str}{n day:Int}{xs:List Int}(e1:DQ [.im (j9 ht),.im (fG z a1 b1 n),.im (.str h),.im (.str s),.im (.int day)] C=aa (.ow (.list (xs.map .int)),C))(xl:xs.length<=60)(its:List au)(cQ cR:Option Vl):∃w17 w18,jf (fJ 17) abn its (lM v0 v1 v2 ps v4 nv z a1 b1 n day v8 ht v10 h bT dU cP (aa (.im (.str s))) (aa (.ow (.list (xs.map .int)))) cQ cR) C=aa (.nx,lM v0 v1 v2 ps v4 nv z a1 b1 n day v8 ht v10 h bT dU cP (aa (.im (.str s))) (aa (.ow (.list (xs.map .int)))) w17 w18,C):=by
 induction its generalizing cQ cR with
 |nil=>exact⟨cQ,cR,rfl⟩
 |cons d its ih=>
  have sm:=same_ints (C:=C) 1 xs (by lia);have q:(xs.length<1000000)=True:=eq_true (by lia)
  obtain⟨w17,w18,e2⟩:=ih (aa (.im d)) (aa (.ow (.list (xs.map .int++[.int 99]))))
  refine⟨w17,w18,?_⟩
  rw[jf,<-e2];simp only[lM];simp_arith[e1,sm,xZ,lG,oY,bw,q]
section
variable{C:Ce}{v0 v1 v2 v4 v10:Option Vl}{zs:List Str}{ps ps':List (Str×Str)}{lv:List cI}(hN:Names zs)(hP:iR zs ps)(hG:sr zs ps ⟨ps',[],lv,[]⟩){z a1 b1 h:Str}{n day:Int}
include hN hP hG
theorem anK{fr:Tb}{l:List (Int×Tb)}{s:Str}{xs:List Int}(M:Dm ⟨ps',[],lv,[]⟩ (up ps z) n day a1 b1 h s (cY fr s))(hk:l.map (·.1)=lv.map (·.1))(ho:∀x∈l,Cy (kE ⟨ps',[],lv,[]⟩ (up ps z) n day a1 b1) a1 b1 h x)(xp:xs.Pairwise (·<·))(xm:∀k,k∈xs↔Cut (kE ⟨ps',[],lv,[]⟩ (up ps z) n day a1 b1) a1 b1 h s k):
  (jX ltI (l.map (·.1))).filter (λk=>(cY fr s).isSome&&!((wF l k).any λf=>(cY f s).isSome))=xs:=by
 have nd:(l.map (·.1)).Nodup:=by rw[hk];exact hG.M8
 refine anI ((aaE nd).filter _) xp λk=>?_
 rw[qb,(rW _).mem_iff,xm,jK,abz M];constructor
 .rintro⟨m,⟨c1,c2⟩,c3⟩
  obtain⟨f,e,mf⟩:=Lj m
  rw[e] at c3
  refine⟨c1,c2,λc4=>?_⟩
  have:=(ho _ mf s).mpr ⟨c1,c4⟩;rw[Oz,this] at c3;cases c3
 .intro c;have m:k∈l.map (·.1):=by
   rw[hk]
   obtain⟨w,hw,e⟩:=eU.mp c.num
   obtain⟨r,hr,rfl⟩:=eU.mp hw
   exact eU.mpr ⟨r,(qb.mp hr).1,e⟩
  refine⟨m,⟨c.1,c.2.1⟩,?_⟩
  obtain⟨f,e,mf⟩:=Lj m
  rw[e,Oz];cases b:(cY f s).isSome with
  |false=>rfl
  |true=>exact absurd ((ho _ mf s).mp b).2 c.2.2
theorem al8{fr:Tb}{l:List (Int×Tb)}{v8 cP:Option Vl}{nv:Vl}(s:Str)(M:Dm ⟨ps',[],lv,[]⟩ (up ps z) n day a1 b1 h s (cY fr s))(hk:l.map (·.1)=lv.map (·.1))(ho:∀x∈l,Cy (kE ⟨ps',[],lv,[]⟩ (up ps z) n day a1 b1) a1 b1 h x)(c7 cQ cR:Option Vl):
  ∃w16 w17 w18,Ss (lM v0 v1 v2 ps v4 nv z a1 b1 n day v8 ⟨ps',[],lv,[]⟩ v10 h (aa (.ow (.dict (bu (iz fr))))) (aa (.ow (.dict (gW mO l)))) cP (aa (.im (.str s))) c7 cQ cR) C=aa (.nx,lM v0 v1 v2 ps v4 nv z a1 b1 n day v8 ⟨ps',[],lv,[]⟩ v10 h (aa (.ow (.dict (bu (iz fr))))) (aa (.ow (.dict (gW mO l)))) cP (aa (.im (.str s))) w16 w17 w18,C):=by
 obtain⟨xs,e1,xl,xp,xm⟩:=akA (C:=C) hN hP hG z a1 b1 n day h s
 have ll:l.length<=16:=by
  have h1:=congrArg mq hk;rw[bw,bw] at h1;have:lv.length<=16:=hG.jR;lia
 have so:=al7 mO (l:=l) (by lia);have c:=qT (T:=.one) (ft:=abo) (fe:=abp) (fs:=[aa (.im (.str s)),aa (.im (.dict (bu (iz fr)))),aa (.im (.dict (gW mO l)))]) (C:=C) lQ (λk=>(cY fr s).isSome&&!((wF l k).any λf=>(cY f s).isSome)) lQ (l:=jX ltI (l.map (·.1))) λk hm=>⟨[.int k],rfl,by
  obtain⟨f,hf,_⟩:=Lj ((rW _).mem_iff.mp hm)
  have i1:=adJ fr s;have i2:bQ (.dict (gW mO l)) (.int k)=aa (.im (.dict (bu (iz f)))):=aoH mO hf;have i3:=akD f s;rw[hf,Oz];cases b:(cY fr s).isSome with
  |false=>
   rw[b] at i1;simp_arith[eN,jL,jm,i1]
  |true=>
   rw[b] at i1;simp_arith[eN,jL,jm,i1,i2,i3],λ_=>⟨.im (.int k),_,rfl,rfl⟩⟩
 rw[anK hN hP hG M hk ho xp xm] at c;have q:(xs.length<=1000000)=True:=eq_true (by lia)
 obtain⟨w17,w18,e2⟩:=akE (v0:=v0) (v1:=v1) (v2:=v2) (v4:=v4) (v8:=v8) (v10:=v10) (bT:=aa (.ow (.dict (bu (iz fr))))) (dU:=aa (.ow (.dict (gW mO l)))) (cP:=cP) (nv:=nv) (ps:=ps) e1 xl (jt 0 (2:Int).toNat) cQ cR
 refine⟨_,w17,w18,(uL (e1:=lM v0 v1 v2 ps v4 nv z a1 b1 n day v8 ⟨ps',[],lv,[]⟩ v10 h (aa (.ow (.dict (bu (iz fr))))) (aa (.ow (.dict (gW mO l)))) cP (aa (.im (.str s))) (aa (.ow (.list (xs.map .int)))) cQ cR) (C1:=C) ?_).trans ((Cw (adk (k:=2) rfl (by decide) (by decide))).trans e2)⟩
 simp only[lM];simp_arith[so,c,q]
theorem aik{fr:Tb}{l:List (Int×Tb)}{v8 cP:Option Vl}{nv:Vl}(M:∀s,Dm ⟨ps',[],lv,[]⟩ (up ps z) n day a1 b1 h s (cY fr s))(hk:l.map (·.1)=lv.map (·.1))(ho:∀x∈l,Cy (kE ⟨ps',[],lv,[]⟩ (up ps z) n day a1 b1) a1 b1 h x)(ss:List Str)(dz c7 cQ cR:Option Vl):
  ∃w15 w16 w17 w18,jf (fJ 15) Ss (ss.map .str) (lM v0 v1 v2 ps v4 nv z a1 b1 n day v8 ⟨ps',[],lv,[]⟩ v10 h (aa (.ow (.dict (bu (iz fr))))) (aa (.ow (.dict (gW mO l)))) cP dz c7 cQ cR) C=aa (.nx,lM v0 v1 v2 ps v4 nv z a1 b1 n day v8 ⟨ps',[],lv,[]⟩ v10 h (aa (.ow (.dict (bu (iz fr))))) (aa (.ow (.dict (gW mO l)))) cP w15 w16 w17 w18,C):=by
 induction ss generalizing dz c7 cQ cR with
 |nil=>exact⟨dz,c7,cQ,cR,rfl⟩
 |cons s ss ih=>
  obtain⟨W2,x17,W3,e1⟩:=al8 (C:=C) (v0:=v0) (v1:=v1) (v2:=v2) (v4:=v4) (v8:=v8) (v10:=v10) (cP:=cP) (nv:=nv) hN hP hG s (M s) hk ho c7 cQ cR
  obtain⟨w15,w16,w17,w18,e2⟩:=ih (aa (.im (.str s))) W2 x17 W3
  refine⟨w15,w16,w17,w18,?_⟩
  rw[cJ,jf];simp only[lM,fJ,Ie,Ig] at e1 e2⊢;simp only[e1,e2]
theorem al9{nv:Vl}{so:List Str}(nm:HD lv)(hv:nv=.ow (.list (lv.map bD))\/nv=.im (.list (lv.map bD)))(v8 bT dU cP dz c7 cQ cR:Option Vl):
  ∃w8 w12 w13 w14 w15 w16 w17 w18,Sx (lM v0 v1 v2 ps v4 nv z a1 b1 n day v8 ⟨ps',[],lv,[]⟩ (aa (.im (.list (so.map .str)))) h bT dU cP dz c7 cQ cR) C=aa (.nx,lM v0 v1 v2 ps v4 (.im (.list (lv.map bD))) z a1 b1 n day w8 ⟨ps',[],lv,[]⟩ (aa (.im (.list (so.map .str)))) h w12 w13 w14 w15 w16 w17 w18,C):=by
 obtain⟨fr,e1,M⟩:=Z8 (C:=C) (ps':=ps') hN hP hG.p8 (show lv.length<=16 from hG.jR) z a1 b1 n day h
 obtain⟨l,w8,w14,e2,hk,ho⟩:=aaG (C:=C) (v0:=v0) (v1:=v1) (v2:=v2) (v4:=v4) (v10:=aa (.im (.list (so.map .str)))) (ps':=ps') (bT:=aa (.ow (.dict (bu (iz fr))))) (dz:=dz) (c7:=c7) (cQ:=cQ) (cR:=cR) hN hP hG.p8 (show lv.length<=16 from hG.jR) nm hG.M8 (z:=z) (a1:=a1) (b1:=b1) (h:=h) (n:=n) (day:=day) lv [] [] v8 cP rfl rfl (λ_ m=>nomatch m)
 obtain⟨w15,w16,w17,w18,e3⟩:=aik (C:=C) (v0:=v0) (v1:=v1) (v2:=v2) (v4:=v4) (v8:=w8) (v10:=aa (.im (.list (so.map .str)))) (cP:=w14) (nv:=.im (.list (lv.map bD))) hN hP hG (λs=>(M s).1) hk ho so dz c7 cQ cR
 refine⟨w8,_,_,w14,w15,w16,w17,w18,(uL (e1:=lM v0 v1 v2 ps v4 (.im (.list (lv.map bD))) z a1 b1 n day v8 ⟨ps',[],lv,[]⟩ (aa (.im (.list (so.map .str)))) h (aa (.ow (.dict (bu (iz fr))))) (aa (.ow (.dict (gW mO [])))) cP dz c7 cQ cR) (C1:=C) ?_).trans ((uL ((Cw ?_).trans e2)).trans ((Cw ?_).trans e3))⟩
 .have k0:gW mO []=[]:=rfl;simp only[lM,k0];rcases hv with rfl|rfl
  .simp_arith[e1,xP]
  .simp_arith[e1,xP]
 .rfl
 .rfl
end
abbrev HF(v0 v1 v2:Option Vl)(ps:List (Str×Str))(v4:Option Vl)(nv:Vl)(z a1 b1:Str)(n day:Int)(v8:Option Vl)(ht:lB)(v10 v11 bT dU cP dz c7 cQ cR:Option Vl):En:=
 [v0,v1,v2,aa (.im (.dict (bu (bY ps)))),v4,aa nv,aa (.im (fG z a1 b1 n)),aa (.im (.int day)),v8,aa (.im (j9 ht)),v10,v11,bT,dU,cP,dz,c7,cQ,cR]
theorem ail{C:Ce}{v0 v1 v2 v4:Option Vl}{zs:List Str}{ps ps':List (Str×Str)}{lv:List cI}(hN:Names zs)(hP:iR zs ps)(hG:sr zs ps ⟨ps',[],lv,[]⟩){z a1 b1:Str}{n day:Int}{so:List Str}(nm:HD lv)(hs:List Str):∀(nv:Vl)(v8 v11 bT dU cP dz c7 cQ cR:Option Vl),nv=.ow (.list (lv.map bD))\/nv=.im (.list (lv.map bD))->
  ∃W4 w8 w11 w12 w13 w14 w15 w16 w17 w18,jf (fJ 11) Sx (hs.map .str) (HF v0 v1 v2 ps v4 nv z a1 b1 n day v8 ⟨ps',[],lv,[]⟩ (aa (.im (.list (so.map .str)))) v11 bT dU cP dz c7 cQ cR) C=aa (.nx,HF v0 v1 v2 ps v4 W4 z a1 b1 n day w8 ⟨ps',[],lv,[]⟩ (aa (.im (.list (so.map .str)))) w11 w12 w13 w14 w15 w16 w17 w18,C):=by
 induction hs with
 |nil=>exact λnv v8 v11 bT dU cP dz c7 cQ cR _=>⟨nv,v8,v11,bT,dU,cP,dz,c7,cQ,cR,rfl⟩
 |cons h hs ih=>
  intro nv v8 v11 bT dU cP dz c7 cQ cR hv
  obtain⟨x8,x12,x13,W0,x15,W2,x17,W3,e1⟩:=al9 (C:=C) (v0:=v0) (v1:=v1) (v2:=v2) (v4:=v4) hN hP hG (z:=z) (a1:=a1) (b1:=b1) (h:=h) (n:=n) (day:=day) (so:=so) nm hv v8 bT dU cP dz c7 cQ cR
  obtain⟨W4,w8,w11,w12,w13,w14,w15,w16,w17,w18,e2⟩:=ih (.im (.list (lv.map bD))) x8 (aa (.im (.str h))) x12 x13 W0 x15 W2 x17 W3 (.inr rfl)
  refine⟨W4,w8,w11,w12,w13,w14,w15,w16,w17,w18,?_⟩
  rw[cJ,jf];simp only[lM,HF,fJ,Ie,Ig] at e1 e2⊢;simp only[e1,e2]
structure HH(zs own:List Str)(lv:List cI)(m:Int):Prop where
 ok:∀r∈lv,vC zs own r
 rise:(lv.map (·.1)).Pairwise (·<·)
 num:∀r∈lv,r.1<=m
theorem ama(xs:List au)(x:au):fY (xs++[x]) (-1)=aa x:=by
 unfold fY oE;rw[bH (by decide),gb,bz (by show -(((xs.length+1:Nat):Int))<=-1;lia),show((-1:Int)+((xs.length+[x].length:Nat):Int)).toNat=xs.length by show((-1:Int)+((xs.length+1:Nat):Int)).toNat=_;lia]
 show(xs++[x])[xs.length]?=_
 rw[pF (cg _),PK];rfl
abbrev u6(ns:List Int)(v1:Option Vl)(b:Nat)(ps:List (Str×Str))(v4:Option Vl)(lv:List cI)(z a1 b1:Str)(n day:Int)(v8 v9 v10 v11 bT dU cP dz c7 cQ cR:Option Vl):En:=
 [aa (.sc ns),v1,aa (.ce b),aa (.im (.dict (bu (bY ps)))),v4,aa (.ow (.list (lv.map bD))),aa (.im (fG z a1 b1 n)),aa (.im (.int day)),v8,v9,v10,v11,bT,dU,cP,dz,c7,cQ,cR]
section
variable{C:Ce}{ns:List Int}{v1 v4 v9 v10 v11 bT dU cP dz c7 cQ cR:Option Vl}{b L j:Nat}{zs own:List Str}{ps:List (Str×Str)}{z a1 b1:Str}{n day:Int}
theorem amb{lv:List cI}{r:cI}{m:Int}(hB:Bl L C b (j+2))(hr:vC zs own r)(hne:lv≠[])(G:HH zs own lv m)(hm:m<=1000)(ll:lv.length<=100):
  ∃lv' C',Sy (u6 ns v1 b ps v4 lv z a1 b1 n day (aa (.im (bD r))) v9 v10 v11 bT dU cP dz c7 cQ cR) C=aa (.nx,u6 ns v1 b ps v4 lv' z a1 b1 n day (aa (.im (bD r))) v9 v10 v11 bT dU cP dz c7 cQ cR,C')/\lv'≠[]/\HH zs own lv' (m+3)/\lv'.length<=lv.length+1/\Bl L C' b j:=by
 refine hide λGG gg=>?_
 obtain⟨t,C1,e1,a1',Dv,iZ⟩:=eY (m:=2) (k:=j+1) hB (by decide) (by decide)
 by_cases h:t=0
 .subst h
  obtain⟨l0,q,rfl⟩:∃l0 q,lv=l0++[q]:=by
   rcases List.eq_nil_or_concat lv with h|⟨l0,q,h⟩
   .exact absurd h hne
   .exact⟨l0,q,by rw[h,List.concat_eq_append]⟩
  obtain⟨t2,C2,e2,a2,b2,hB2⟩:=eY (m:=3) (k:=j) iZ (by decide) (by decide)
  have ia:=ama (l0.map bD) (bD q);have ql:=G.num q (fK _ dN);have q0:=(G.ok q (fK _ dN)).num.1;have t16:∀a b c d e f g:au,cG (.tuple [a]) (.tuple [b,c,d,e,f,g])=aa (.im (.tuple [a,b,c,d,e,f,g])):=λ_ _ _ _ _ _ _=>Lz (Dy rfl)
  have ct:lH [lQ r.1,.str r.2.1,.str r.2.2.1,.str r.2.2.2.1,.int r.2.2.2.2.1,.int r.2.2.2.2.2.1,.int r.2.2.2.2.2.2] (aa 1) aj=[.str r.2.1,.str r.2.2.1,.str r.2.2.2.1,.int r.2.2.2.2.1,.int r.2.2.2.2.2.1,.int r.2.2.2.2.2.2]:=rfl;have lq:((l0.map bD++[bD q]).length<1000000)=True:=eq_true (by rw[gb] at ll⊢;rw[bw];exact Nat.lt_of_le_of_lt ll (by decide));refine gg ⟨l0++[q]++[(q.1+1+t2,r.2)],C2,?_,λk=>(nomatch(List.append_eq_nil_iff.mp k).2),⟨λx hx=>?_,?_,λx hx=>?_⟩,ag5 gb,hB2⟩
  .have d1:(l0++[q]).map bD=l0.map bD++[bD q]:=gQ;have d2:(l0++[q]++[(q.1+1+t2,r.2)]).map bD=l0.map bD++[bD q]++[bD (q.1+1+t2,r.2)]:=by rw[gQ,d1];rfl
   have i0:bQ (bD q) (.int 0)=aa (.im (.int q.1)):=rfl;simp only[u6,d1,d2];generalize l0.map bD++[bD q]=dl at ia lq;simp only[bD] at ia⊢;simp_arith[e1,ia,e2,gF,fO,jl,m7,ct,t16,lG,oY,lq]
  .rcases dB.mp hx with hx|hx
   .exact G.ok x hx
   .rw[iY.mp hx]
    exact⟨⟨by show 0<=q.1+1+t2;lia,by show q.1+1+t2<=2000;lia⟩,hr.giver,hr.taker,hr.ne,hr.part,hr.days,hr.most⟩
  .rw[gQ,HR]
   refine⟨G.rise,List.pairwise_singleton _ _,λx hx y hy=>?_⟩
   rw[iY.mp (show y∈[q.1+1+t2] from hy)];have g:=G.rise;rw[gQ] at hx g;rcases dB.mp hx with hx|hx
   .have:=(HR.mp g).2.2 x hx q.1 dN;lia
   .rw[iY.mp (show x∈[q.1] from hx)];lia
  .rcases dB.mp hx with hx|hx
   .have:=G.num x hx;lia
   .rw[iY.mp hx];show q.1+1+t2<=_;lia
 .have h':(t==0)=aJ:=beq_eq_false_iff_ne.mpr h;refine gg ⟨lv,C1,?_,hne,⟨G.ok,G.rise,λx hx=>by have:=G.num x hx;lia⟩,uw _,iZ.dec⟩;simp only[u6];simp_arith[e1,h']
theorem Z9:∀(ts lv:List cI)(m:Int)(C:Ce)(v8:Option Vl),(∀r∈ts,vC zs own r)->(lv≠[]\/ts=[])->HH zs own lv m->m+3*ts.length<=1000->lv.length+ts.length<=100->Bl L C b (j+2*ts.length)->
  ∃lv' C' w8,jf (fJ 8) Sy (ts.map bD) (u6 ns v1 b ps v4 lv z a1 b1 n day v8 v9 v10 v11 bT dU cP dz c7 cQ cR) C=aa (.nx,u6 ns v1 b ps v4 lv' z a1 b1 n day w8 v9 v10 v11 bT dU cP dz c7 cQ cR,C')/\HH zs own lv' (m+3*ts.length)/\lv'.length<=lv.length+ts.length/\Bl L C' b j
 |[],lv,m,C,v8,_,_,G,_,_,hB=>⟨lv,C,v8,rfl,by rw[Ax];exact⟨G.ok,G.rise,λr h=>by have:=G.num r h;lia⟩,cg _,hB⟩
 |r::ts,lv,m,C,v8,hr,hn,G,hm,hl,hB=>by
  rw[cZ] at hm hl hB;have hne:lv≠[]:=hn.resolve_right λk=>nomatch k
  obtain⟨l1,C1,e1,n1,G1,k1,iZ⟩:=amb (C:=C) (ns:=ns) (v1:=v1) (v4:=v4) (v9:=v9) (v10:=v10) (v11:=v11) (bT:=bT) (dU:=dU) (cP:=cP) (dz:=dz) (c7:=c7) (cQ:=cQ) (cR:=cR) (ps:=ps) (z:=z) (a1:=a1) (b1:=b1) (n:=n) (day:=day) (j:=j+2*ts.length) (hB.mono (by lia)) (hr r dN) hne G (by lia) (by lia)
  obtain⟨l2,C2,w8,e2,G2,k2,hB2⟩:=Z9 ts l1 (m+3) C1 (aa (.im (bD r))) (λq hq=>hr q (fP _ hq)) (.inl n1) G1 (by lia) (by lia) iZ
  refine⟨l2,C2,w8,?_,⟨G2.ok,G2.rise,λq hq=>by have:=G2.num q hq;rw[cZ];lia⟩,by rw[cZ];lia,hB2⟩
  rw[cJ,jf];simp only[u6,fJ,Ie,Ig] at e1 e2⊢;simp only[e1,e2]
end
theorem adK{α:Type}(D:α->au)(ys:List α)(k:Nat):∃so:List α,lH (ys.map D) aj (aa (k:Int))=so.map D/\so.length<=k/\∀x∈so,x∈ys:=by
 refine⟨lH ys aj (aa (k:Int)),by unfold lH;rw[bw,Y8,agV],?_,λx h=>HS (wJ h)⟩
 unfold lH;rw[pJ];show min (HT.cH ys.length ys.length (aa (k:Int))-_) _<=k;rw[HT.Ko];lia
theorem amc{C1:Ce}{ns:List Int}{i:Nat}(hi:i<6)(v2 v3 v4 v5 v6 v7 v8 v9 v10 v11 bT dU cP dz c7 cQ cR:Option Vl):∃w2 w3 w4 w5 w6 w7 w8 w9 w10 w11 w12 w13 w14 w15 w16 w17 w18 C2,SJ [aa (.sc ns),aa (.im (.int (0+(i:Int)))),v2,v3,v4,v5,v6,v7,v8,v9,v10,v11,bT,dU,cP,dz,c7,cQ,cR] C1=aa (.nx,[aa (.sc ns),aa (.im (.int (0+(i:Int)))),w2,w3,w4,w5,w6,w7,w8,w9,w10,w11,w12,w13,w14,w15,w16,w17,w18],C2):=by
 refine hide λGG gg=>?_
 obtain⟨x,y,hb,x0⟩:=akm (C:=C1) (ns:=ns) (k:=0+(i:Int)) (by lia) (by lia)
 have hB:=ano (y:=y) C1 x0
 obtain⟨zs,ps,pe,lv,z,a1,b1,n,day,C2,e2,K,l12,hB2⟩:=al0 (most:=12) (j:=799540) hB (by decide) (by decide)
 obtain⟨ts,ct,tl,tin⟩:=adK bD lv 4
 have ct:lH (lv.map bD) aj (aa 4)=ts.map bD:=ct;have G0:HH zs (ps.map (·.1)) lv 200:=⟨λr h=>(K.leaves r h).1,K.rise,K.num⟩
 obtain⟨l2,C3,w8,e3,G,k2,hB3⟩:=Z9 (ns:=ns) (v1:=aa (.im (.int (0+(i:Int))))) (v4:=aa (.im (.list (pe.map .str)))) (v9:=v9) (v10:=v10) (v11:=v11) (bT:=bT) (dU:=dU) (cP:=cP) (dz:=dz) (c7:=c7) (cQ:=cQ) (cR:=cR) (ps:=ps) (z:=z) (a1:=a1) (b1:=b1) (n:=n) (day:=day) (j:=799500) ts lv 200 C2 v8 (λr h=>G0.ok r (tin r h)) (by
  cases lv with
  |nil=>exact .inr (List.eq_nil_iff_forall_not_mem.mpr λr h=>nomatch tin r h)
  |cons _ _=>exact .inl λk=>nomatch k) G0 (by lia) (by have:=K.jR;lia) (hB2.mono (by lia))
 obtain⟨ps',p1,e4⟩:=ahE (C:=C3) K.p0 K.p8 l2
 have hG:sr zs ps ⟨ps',[],l2,[]⟩:=anB p1 K.p8 (by lia) G.ok (G.rise.imp λh=>Zn h);have nm:HD l2:=λr h=>⟨K.names.2 _ (G.ok r h).giver,K.names.2 _ (G.ok r h).taker,QD K.names K.parts (G.ok r h).part⟩
 have kf:=K.few
 obtain⟨ys,C4,e5,_,ug⟩:=ajk (C:=C3) (b:=C1.length) (L:=C1.length+1) (j:=799000) (pe:=pe) (λz hz=>K.names.2 z (K.aoF z hz)) (by lia) (hB3.mono (by lia))
 obtain⟨so,c6,_,_⟩:=adK eV ys 6
 have c6:lH (ys.map eV) aj (aa 6)=so.map .str:=c6
 obtain⟨nv,w8',w11,w12,w13,w14,w15,w16,w17,w18,e6⟩:=ail (C:=C4) (v0:=aa (.sc ns)) (v1:=aa (.im (.int (0+(i:Int))))) (v2:=aa (.ce C1.length)) (v4:=aa (.im (.list (pe.map .str)))) K.names K.parts hG (z:=z) (a1:=a1) (b1:=b1) (n:=n) (day:=day) (so:=so) nm so (.ow (.list (l2.map bD))) w8 v11 bT dU cP dz c7 cQ cR (.inl rfl)
 refine gg ⟨_,_,_,_,_,_,_,_,_,_,_,_,_,_,_,_,_,C4,(uL (e1:=[aa (.sc ns),aa (.im (.int (0+(i:Int)))),aa (.ce C1.length),v3,v4,v5,v6,v7,v8,v9,v10,v11,bT,dU,cP,dz,c7,cQ,cR]) (C1:=C1++[[x,y,0]]) ?_).trans ((uL (e1:=u6 ns (aa (.im (.int (0+(i:Int))))) C1.length ps (aa (.im (.list (pe.map .str)))) lv z a1 b1 n day v8 v9 v10 v11 bT dU cP dz c7 cQ cR) (C1:=C2) ?_).trans ((uL ((Cw (its:=ts.map bD) ?_).trans e3)).trans ((uL (e1:=HF (aa (.sc ns)) (aa (.im (.int (0+(i:Int))))) (aa (.ce C1.length)) ps (aa (.im (.list (pe.map .str)))) (.ow (.list (l2.map bD))) z a1 b1 n day w8 ⟨ps',[],l2,[]⟩ (aa (.ow (.list (so.map .str)))) v11 bT dU cP dz c7 cQ cR) (C1:=C4) ?_).trans ((Cw ?_).trans e6))))⟩
 .simp_arith[GC,hb,intsOf]
 .have a:aH (aU 2) (aH (aN (.int 12)) aY) [aa (.sc ns),aa (.im (.int (0+(i:Int)))),aa (.ce C1.length),v3,v4,v5,v6,v7,v8,v9,v10,v11,bT,dU,cP,dz,c7,cQ,cR] (C1++[[x,y,0]])=aa ([.ce C1.length,.im (.int 12)],[aa (.sc ns),aa (.im (.int (0+(i:Int)))),aa (.ce C1.length),v3,v4,v5,v6,v7,v8,v9,v10,v11,bT,dU,cP,dz,c7,cQ,cR],C1++[[x,y,0]]):=rfl;unfold Vs;rw[a]
  show(Fo [.ce C1.length,.im (.int 12)] (C1++[[x,y,0]])).bind _=_
  rw[e2];rfl
 .simp only[u6];simp_arith[gF,fO,jl,m7,ct]
 .simp only[u6,HF];simp_arith[e4,alV,e5,gF,fO,jl,m7,c6]
 .rfl
theorem akF(ns:List Int)(h:ns.length<=63):∃C',De [.sc ns] []=aa (.im (.bool ao),C'):=by
 obtain⟨m,hm,m1,m2⟩:∃m:Int,(1+if(ns.length:Int)<4 then(ns.length:Int) else 4)=m/\0<=m/\m<=5:=⟨_,rfl,by split<;>lia,by split<;>lia⟩
 obtain⟨env',C',e,he⟩:=Bt (g:=fJ 1) (body:=SJ) (its:=jt 0 m.toNat) (env:=[aa (.sc ns),aj,aj,aj,aj,aj,aj,aj,aj,aj,aj,aj,aj,aj,aj,aj,aj,aj,aj]) (C:=[])
  (λi env C1=>∃v1 v2 v3 v4 v5 v6 v7 v8 v9 v10 v11 bT dU cP dz c7 cQ cR,env=[aa (.sc ns),v1,v2,v3,v4,v5,v6,v7,v8,v9,v10,v11,bT,dU,cP,dz,c7,cQ,cR]) ⟨_,_,_,_,_,_,_,_,_,_,_,_,_,_,_,_,_,_,rfl⟩ (λi d env C1 hd hI=>by
   obtain⟨v1,v2,v3,v4,v5,v6,v7,v8,v9,v10,v11,bT,dU,cP,dz,c7,cQ,cR,rfl⟩:=hI
   obtain⟨rfl,hi⟩:=Ff hd
   obtain⟨w2,w3,w4,w5,w6,w7,w8,w9,w10,w11,w12,w13,w14,w15,w16,w17,w18,C2,e⟩:=amc (C1:=C1) (ns:=ns) (i:=i) (by lia) v2 v3 v4 v5 v6 v7 v8 v9 v10 v11 bT dU cP dz c7 cQ cR
   exact⟨_,.nx,_,C2,rfl,e,.inl rfl,_,_,_,_,_,_,_,_,_,_,_,_,_,_,_,_,_,_,rfl⟩)
 refine⟨C'.take 0,?_⟩
 unfold De fN;rw[bz (show[Vl.sc ns].length=1 from rfl),show([Vl.sc ns].map aa++gR (19-[Vl.sc ns].length) aj)=[aa (.sc ns),aj,aj,aj,aj,aj,aj,aj,aj,aj,aj,aj,aj,aj,aj,aj,aj,aj,aj] from rfl];simp_arith[Vw,iT,ju,ye,uK,hm,yw (m:=m) (by lia) (by lia),e,CT]
theorem all_mk{l:Yj}{w:bI}{K:aM}{h:bC}{mg:Str->Option Value}{fa:aq}(X:K.In h)(G:h.Ns iM mg)(hfa:mg "law"=aa (.ref fa))
  (d0:ir K "parts_over" Jk)
  (d1:ir K "row_of" Sq)
  (d2:ir K "leaves_in_all" Ir)
  (d3:ir K "is_needed" Jr)
  (d4:ir K "is_side" Rb)
  (d5:ir K "ways_on" JX)
  (d6:ir K "first_row" Qi)
  (d7:ir K "nearer_way" Jl)
  (d8:ir K "steps_to" JG)
  (d9:ir K "_law_mix" U4)
  (d10:ir K "_law_drawn_from" Pn)
  (d11:ir K "_law_pick" T3)
  (d12:ir K "_law_same" Fj)
  (d13:ir K "_law_some_names" wZ)
  (d14:ir K "_law_shuffled" Qj)
  (d15:ir K "_law_two_days" Qk)
  (d16:ir K "_law_some_sum" Ql)
  (d17:ir K "_law_some_parts" Pq)
  (d18:ir K "_law_parts_over" Pr)
  (d19:ir K "_law_rising" Rc)
  (d20:ir K "_law_some_leaves" O5)
  (d21:ir K "_law_house_of" Qm)
  (d22:ir K "_law_case" T4)
  (d23:ir K "_law_lets" T5)
  (d24:ir K "_law_all_rows" Js)
  (d25:ir K "law" Gw)
  (LC:oJ K iM "abs"=aa aj)
  (Vt:oJ K iM "all"=aa aj)
  (Gb:oJ K iM "bool"=aa aj)
  (Qn:oJ K iM "enumerate"=aa aj)
  (Dd:oJ K iM "int"=aa aj)
  (pL:oJ K iM "isinstance"=aa aj)
  (mH:oJ K iM "len"=aa aj)
  (Cv:oJ K iM "list"=aa aj)
  (Vu:oJ K iM "max"=aa aj)
  (zT:oJ K iM "min"=aa aj)
  (qt:oJ K iM "range"=aa aj)
  (xF:oJ K iM "sorted"=aa aj)
  (Gx:oJ K iM "str"=aa aj)
  (zE:oJ K iM "tuple"=aa aj)
  (Vv:oJ K iM "zip"=aa aj)
  :∃fd:dZ,(∀(s:aD)(v:Value),zu s fd ⟨[v],[]⟩ [("_law_script",v)])/\∀base:bC,K.In base->base.Ns iM mg->dX l.prog w K mg base fZ 6 fa fd ["_law_script"] (spT K De):=by
 have T:Txt K mg:=⟨pI X G LC,pI X G Vt,pI X G Gb,pI X G Qn,pI X G Dd,pI X G pL,pI X G mH,pI X G Cv,pI X G Vu,pI X G zT,pI X G qt,pI X G xF,pI X G Gx,pI X G zE,pI X G Vv⟩
 refine d25.law X G hfa (λbase f fd F=>?_) (λ_ _ _ _ _ _=>(cD λ_=>(jC rfl)));have Qd:=d0.has X G (λf fd F=>agS (P:=l.prog) (w:=w) (base:=base) F T) (λ_ _ _ _ _ _=>(cD λ_=>(cD λ_=>(jC rfl))));have xx:=d4.has X G (λf fd F=>aid (P:=l.prog) (w:=w) (base:=base) F T) (λ_ _ _ _ _ _=>(cD λ_=>(cD λ_=>(jC rfl))));have Bu:=d5.has X G (λf fd F=>aie (P:=l.prog) (w:=w) (base:=base) F T Qd xx) (λ_ _ _ _ _ _=>(cD λ_=>(cD λ_=>(cD λ_=>(jC rfl)))));have QK:=d8.has X G (λf fd F=>ahC (P:=l.prog) (w:=w) (base:=base) F T) (λ_ _ _ _ _ _=>(cD λ_=>(cD λ_=>(jC rfl))));have Qe:=d7.has X G (λf fd F=>agT (P:=l.prog) (w:=w) (base:=base) F T) (λ_ _ _ _ _ _=>(cD λ_=>(cD λ_=>(cD λ_=>(jC rfl)))));have Bq:=d6.has X G (λf fd F=>ahh (P:=l.prog) (w:=w) (base:=base) F T QK Qe) (λ_ _ _ _ _ _=>(cD λ_=>(cD λ_=>(cD λ_=>(jC rfl)))));have SM:=d1.has X G (λf fd F=>ajb (P:=l.prog) (w:=w) (base:=base) F T xx Bu Bq) (λ_ _ _ _ _ _=>(cD λ_=>(cD λ_=>(cD λ_=>(cD λ_=>(cD λ_=>(jC rfl)))))));have Qt:=d3.has X G (λf fd F=>ahi (P:=l.prog) (w:=w) (base:=base) F T Bq) (λ_ _ _ _ _ _=>(cD λ_=>(cD λ_=>(cD λ_=>(cD λ_=>(jC rfl))))));have Ox:=d2.has X G (λf fd F=>agp (P:=l.prog) (w:=w) (base:=base) F T Bu SM Qt) (λ_ _ _ _ _ _=>(cD λ_=>(cD λ_=>(cD λ_=>(cD λ_=>(cD λ_=>(jC rfl)))))));have Li:=d9.has X G (λf fd F=>alR (P:=l.prog) (w:=w) (base:=base) F T) (λ_ _ _ _ _ _=>(cD λ_=>(cD λ_=>(jC rfl))));have PJ:=d10.has X G (λf fd F=>agF (P:=l.prog) (w:=w) (base:=base) F T) (λ_ _ _ _ _ _=>(cD λ_=>(cD λ_=>(jC rfl))));have cL:=d11.has X G (λf fd F=>aki (P:=l.prog) (w:=w) (base:=base) F T Li) (λ_ _ _ _ _ _=>(cD λ_=>(cD λ_=>(jC rfl))));have Fp:=d12.apq X G (λf fd hm hk hb F=>aay (P:=l.prog) (w:=w) (base:=base) hm hk hb F T 3) (λ_ _ _ _ _ _=>(cD λ_=>(cD λ_=>(jC rfl))));have Pz:=d13.has X G (λf fd F=>agG (P:=l.prog) (w:=w) (base:=base) F T cL) (λ_ _ _ _ _ _=>(cD λ_=>(cD λ_=>(jC rfl))));have Qu:=d14.has X G (λf fd F=>ahj (P:=l.prog) (w:=w) (base:=base) F T cL) (λ_ _ _ _ _ _=>(cD λ_=>(cD λ_=>(jC rfl))));have Br:=d15.has X G (λf fd F=>ahk (P:=l.prog) (w:=w) (base:=base) F T cL) (λ_ _ _ _ _ _=>(cD λ_=>(jC rfl)));have Bs:=d16.has X G (λf fd F=>ahl (P:=l.prog) (w:=w) (base:=base) F T cL) (λ_ _ _ _ _ _=>(cD λ_=>(jC rfl)));have PB:=d17.has X G (λf fd F=>agH (P:=l.prog) (w:=w) (base:=base) F T cL) (λ_ _ _ _ _ _=>(cD λ_=>(cD λ_=>(jC rfl))));have Bd:=d18.has X G (λf fd F=>agI (P:=l.prog) (w:=w) (base:=base) F T) (λ_ _ _ _ _ _=>(cD λ_=>(cD λ_=>(jC rfl))));have Ri:=d19.has X G (λf fd F=>aif (P:=l.prog) (w:=w) (base:=base) F T cL) (λ_ _ _ _ _ _=>(cD λ_=>(cD λ_=>(jC rfl))));have Pg:=d20.has X G (λf fd F=>agx (P:=l.prog) (w:=w) (base:=base) F T cL Br Bs Bd Ri) (λ_ _ _ _ _ _=>(cD λ_=>(cD λ_=>(cD λ_=>(cD λ_=>(cD λ_=>(cD λ_=>(jC rfl))))))));have Qv:=d21.has X G (λf fd F=>ahm (P:=l.prog) (w:=w) (base:=base) F T) (λ_ _ _ _ _ _=>(cD λ_=>(cD λ_=>(jC rfl))));have T9:=d22.has X G (λf fd F=>akk (P:=l.prog) (w:=w) (base:=base) F T cL Pz Br Bs PB Pg) (λ_ _ _ _ _ _=>(cD λ_=>(cD λ_=>(jC rfl))));have T8:=d23.has X G (λf fd F=>akl (P:=l.prog) (w:=w) (base:=base) F T Bd) (λ_ _ _ _ _ _=>(cD λ_=>(cD λ_=>(cD λ_=>(cD λ_=>(jC rfl))))));have Jx:=d24.has X G (λf fd F=>ahn (P:=l.prog) (w:=w) (base:=base) F T T8) (λ_ _ _ _ _ _=>(cD λ_=>(cD λ_=>(cD λ_=>(cD λ_=>(cD λ_=>(jC rfl)))))));exact anv F T Ox PJ cL Fp Qu Qv T9 Jx
theorem walk{l:Yj}{q:bL}{loose:List Str}{XP:(Str->Option Value)->bC->Prop}{YP:bI->bC->Prop}{d:DefRec}{K:Params->aM}(hn:l.most=aa 63)(hdf:d.params.defaults=[])
  (hY:∀(w:bI)(h:bC),YP w h->(K w.params).In h)
  (F:∀(w:bI)(mg:Str->Option Value)(fa:aq)(h:bC),(K w.params).In h->h.Ns iM mg->mg d.name=aa (.ref fa)->
   ∃fd:dZ,(∀(s:aD)(u:Value),zu s fd ⟨[u],[]⟩ [("_law_script",u)])/\∀base:bC,(K w.params).In base->base.Ns iM mg->dX l.prog w (K w.params) mg base fZ 6 fa fd ["_law_script"] (spT (K w.params) De)):
  agK q loose XP YP l.row.toRowW d [] (λf vs=>ZM f vs):=
 L2.akY (n:=63) (k:=6) (x:="_law_script") (CX:=λ_=>fZ) (sp:=λw=>spT (K w.params) De) hn (by decide) hdf ⟨rfl,by decide,by decide,rfl⟩ hY F (λ_ _ a ns hl _ hS=>let ⟨_,h⟩:=akF ns hl;am4 hS h) λ_ _ _ _ _ z=>z
end WD
namespace PySem.W.Fast
def tw10302268927126276982:=0
def tw10381812974834029057:=0
def tw10558979185102109925:=0
def tw10563027309819135272:=0
def tw10916635539959698111:=0
def tw11270801394235681695:=0
def tw11587150020080283372:=0
def tw11687633795328571640:=0
def tw11693547805404831529:=0
def tw1178937842298648556:=0
def tw12144738893484728824:=0
def tw12363559172184617163:=0
def tw1276866885377519189:=0
def tw12932550621261113830:=0
def tw13499944686110625442:=0
def tw13552457371576270183:=0
def tw13811019939696838674:=0
def tw15202238220649043446:=0
def tw1527826174141554910:=0
def tw15353974883791326411:=0
def tw15371681536346398640:=0
def tw15596745578034483467:=0
def tw15774002519104622138:=0
def tw15884504977471231466:=0
def tw16045531790368458985:=0
def tw16207394574960320653:=0
def tw16393349673677599877:=0
def tw16502591815070263467:=0
def tw16795878998349990074:=0
def tw16891729679666613281:=0
def tw17058861818387936751:=0
def tw17124056607237177207:=0
def tw17870774583559549487:=0
def tw18326626788912409465:=0
def tw18338111973274272958:=0
def tw2497848130704087070:=0
def tw2678280496175461595:=0
def tw2798262129319966722:=0
def tw3295386058556969874:=0
def tw4688750829837945990:=0
def tw5000831247454655731:=0
def tw5096430365015839337:=0
def tw5449903889365002562:=0
def tw6272498870189834532:=0
def tw6382871711292797775:=0
def tw6439309797580046550:=0
def tw7531384873662936649:=0
def tw7706373284871733994:=0
def tw8050714702329183429:=0
def tw8214181701847220089:=0
def tw8243579989463906284:=0
def tw8384432886934630670:=0
def tw8967406794398490010:=0
def tw9323445059351695591:=0
def tw9732543154414018757:=0
end PySem.W.Fast
open PySem PySem.W PyProof.Rows
set_option maxRecDepth 100000 in
set_option maxHeartbeats 0 in
theorem PySem.Challenge.cw_rankseals_k20_leaves_in_all_rows_holds : PySem.Challenge.rw_rankseals_k20_leaves_in_all_rows.Holds := by
 w_on;o_law;k_head;(case hw=>w_witness2)
 k_fill
 refine WD.walk (l:=PySem.Challenge.rw_rankseals_k20_leaves_in_all_rows) rfl rfl (λw h Y=>PySem.W.kIn_of Y) ?F
 case F=>
  intro w mg fa h KX G hmg
  refine' WD.all_mk KX G hmg ?_ ?_ ?_ ?_ ?_ ?_ ?_ ?_ ?_ ?_ ?_ ?_ ?_ ?_ ?_ ?_ ?_ ?_ ?_ ?_ ?_ ?_ ?_ ?_ ?_ ?_ ?_ ?_ ?_ ?_ ?_ ?_ ?_ ?_ ?_ ?_ ?_ ?_ ?_ ?_ ?_
  all_goals try first|exact .mk (by k_is) (by k_is) (by k_is) (by k_is)|k_is
