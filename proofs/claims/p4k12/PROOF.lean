import PyProof.Rows.All
import Wide.All
import OpenK.AllK
import Wide.FinOn
import Lean
import PyProof.EqAt
import PyProof.EqKinds
import PyProof.TupleCall
import PyProof.Rows.IntBool
import PySem.Challenge.RW_rankseals_k12_known_houses
set_option Elab.async false
set_option linter.all false
set_option maxRecDepth 100000
set_option maxHeartbeats 4000000
set_option autoImplicit true
open PySem.Value renaming isInt->agr,isStrOf->W4,int->wD,str->Jf,isStrOf_shape->aeb,none->jw,bool->rm,float->Xq,ref->cY,type->Eo,notImplemented->ad4
open PySem renaming World->bA,Program->bB,KeyKind->yh,Addr->az,Heap->bh,sizeLine->bU,sysModules->rB,tupleKind->Ew,Within->afQ,mainGlobals->fW,bootBuiltins->tK,Around->bV,Shared->aG,Scope->jG,Drawn->yQ,wpAny->aL,spliced->JM,backTo->iM,starEach->bG,Stmt->dw,wpAny_mono->oN,wpAny_Name->XM,wpAny_truthy_bool->sY,wpAny_execs_nil->M6,wpAny_execs_cons->aeM,swapsWith->wF,assignInOrder->Ab,assignEach->rD,wpAny_assign_Name->Hv,holding->pL,standAt->tW,wpAny_bind->aB,wpAny_holding->jL,wpAny_standAt->tG,swapsWithSole->Ac,swappedStores->Ad,wpAny_pure->aW,wpAny_newObj_type->j0,unpackItems->Xr,bindName->u0,wpAny_rule->qp,wpAny_bindName->HH,PassesOwn->PN,wpAny_passesOwn->zW,pyNext->jn,letOwnedTupleGo->xY,pyIter->Bt,wpAny_load->Ja,rawInt->iC,wpAny_pyNext_list_item->adR,wpAny_pyNext_list_end->adW,wpAny_pyIter_list->Hw,wpAny_pyIter_tuple->VF,foldedSetIterable->qZ,binaryOp->nG,compareOp->fj,behindInMarks->Eb,lastMarks->PX,sizeLine_eq->jR,cLine->gJ,Result->qD,FuncData->dH,BindsTo->yE,codeAny->jT,codeAny_mono->Ih,wpAny_Call_Name_kw->Ht,Keyword->tX,NameKind->Aw,bindL->yS,bindC->yU,mem_of_lookup->vU,concat_meets->Xg,noFill_tuple_add->Wa,seq_tuple_add->W5,IsPart->t7,wpAny_field->oM,getItem->wK,wpAny_sequenceKey->aey,wpAny_callSpecial?_slot->qW,wpAny_call_entry->lQ,wpAny_typeOf->Ii,seqIndex_of->Xv,seqIndex_neg->Xh,subscripted->Xw,typeIs_str->XR,sliceBounds->Ag,typeIs_int->XS,attributeBase->HY,backToKw->Js,keywordEach->Im,call_meets->X3,valueAt->Be,atKey->wW,tupleKind_room_in1->Mp,callerA->Bh,call->X4,compEnvC->Qu,compTurn->Fb,newFunctionEnv->Wx,wpAny_newFunctionEnv->Vx,lookup_relabel_local->Vy,wpAny_comprehension_free->Hq,compPost->Jv,exec_Assign_Name_used->adX,comprehension->NQ,Walks->vh,PyData->aA,ZipApart->Qw,IsZip->qH,IsPair->mR,wpAny_pyIter_zip->MJ,Builtin->lW,wpAny_newList->W6,wpAny_pyIter_slot->VR,wpAny_dictEntries->VV,wpAny_dictEpoch->Wi,wpAny_attempt->yj,wpAny_typeNameOfWhole_keyiter->LC,wpAny_fieldsOf->ye,wpAny_typeNameOf_keyiter->Mi,wpAny_isOneOf_keyiter->Vu,wpAny_setField->uN,newExc->FW,newTuple->Qy,firstArgMember->DY,wpAny_of_eq->Io,raiseNew->Qz,wpAny_handled->W8,wpAny_throw->Xy,wpAny_isInstance->MK,isSubtype_stop->Wy,codeAny_builtin->uL,plainId_quiet->q9,richCompare->yp,wpAny_loadPart'->M8,wpAny_forIn_list->aeW,richCompare_meets_room->adT,SetTable->u5,relayAll->HJ,scanBound->qt,wpAny_setState_of->DK,wpAny_storeSet_of->aeB,fits_of_scanBound->V3,builtinLookup_eq_fast->ad0,isSubtype_type->WK,entryFor->QF,argsOk->yJ,setNext->Fo,wpAny_setEntries_of->Hr,setsByText->Yc,wpAny_askSetting->MN,wpAny_ite_split->Nb,pickOrder->yt,wpAny_seqItems->oJ,wpAny_setEpoch_of->aeD,wpAny_specialOf->Wl,updateSeq->Ey,wpAny_updateSeq->xZ,strKind->H9,argBest->gh,seqItems?->yu,wpAny_tryCatch->wz,wpAny_letGo->uU,wpAny_setField_rec->Hu,wpAny_onRaise->Xa,wpAny_updateSeq_pair->ad9
open Sum renaming inl->Bd,inr->tV
open Sum.inl renaming inj->ags
open Sum.inr renaming inj->Il
open PySem.SeqAt.EqAt renaming int_str->aef,str_int->aeg,int_int->aek
open Option.some renaming inj->jb,injEq->Mu
open PySem.W renaming instObj->Wf,methodObj->VL,Frag->aJ,lookIn->Ww,plainGet->aeN,findIn->zY,takerIn->ae6,specialIn->aet,isFn->afS,keepIn->wu,kitOne->zZ,kia_one->sZ,kitx_none->aeu,kitx_bool->aev,kitx_int->aeO,kitx_str->aeP,kitx_float->aei,kitx_list->Ms,kitx_tuple->aej,kitx_dict->Mt,kitx_own->aeQ,cellsFrom_some->adS,fnOf->yo,codeIn->Np,OpenLaw->Wg,WalkO->afx,kitAny->Nq,kia_tup->tB,nsIn->jQ,mg_of->tH,mg_none_of->pC
open PySem.Heap renaming lt_size->bN,SameBut->uO,get?_push_of_some->bR,get?_push_size->fV,get?_update_self->sW,get?_update_other->nj,size_push->tD,ExtBut->Ei,size_update->aeX,get?_update_ne->aec,IsTuple->af6
open Nat renaming lt_of_lt_of_le->nq,lt_irrefl->Aa,ne_of_lt->dX,le_trans->ju,le_of_lt->Af,ne_of_gt->tL,le_refl->bT,lt_trans->Og,zero_le->lz,le_of_eq->afX,sub_self->Xk,lt_succ_of_lt->vX,not_lt->Er,le_succ->Ej,not_lt_zero->M9,add_sub_cancel->aen,lt_succ_self->MP,lt_trichotomy->aeG,zero_add->Oh,le_add_right->M5
open Array renaming append_assoc->aeh,length_toList->kZ,toList->afR,getD->ag0,getElem?_eq_getElem->kY,getElem?_eq_none->Vs,getD_eq_getD_getElem?->sV,getElem?_toList->Vw,toList_push->V2,mem_of_getElem?->ad2,size_append->aeH,getElem_toList->aea
open List renaming range->gC,mem_filter->xX,mem_range->ql,filterMap_cons->VD,mem_cons_self->dj,mem_cons_of_mem->dB,mem_cons->bJ,mem_append->dF,mem_append_left->iY,getElem?_eq_some_iff->kj,getElem?_set_self->adQ,getElem?_set_ne->zQ,set_comm->NK,mem_filterMap->Mm,mem_append_right->fP,size_toArray->gB,any_eq_false->aes,append_nil->lq,nodup_cons->kI,of_mem_zip->M7,replicate->cA,length->wA,length_take->MF,getElem?_append_right->o7,getElem?_replicate->Vp,getElem?_append_left->o8,getElem?_map->jr,take_sublist->aew,mem_of_getElem?->pA,length_append->lO,length_map->bC,length_replicate->qX,length_drop->Wc,map_nil->pI,map_cons->cV,length_set->vZ,all_cons->HS,any_cons->HW,reverse_cons->VN,replicate_succ->sX,flatten_cons->Dz,foldl->XX,append_assoc->qg,foldl_cons->DR,nil_append->iJ,find?_cons->wg,length_cons->dD,length_nil->DW,filter_cons->eF,forIn_cons->Wh,lookup_cons->zV,map_map->iK,all_eq_true->jK,getElem_of_mem->Dw,getElem?_eq_getElem->iI,getElem_mem->vY,mem_singleton->jB,not_mem_nil->iZ,getD->nF,toArray->afZ,ext_getElem->DP,length_range->pD,map_congr_left->uK,zip_cons_cons->VH,mem_map->ji,ext_getElem?->aeA,getElem?_eq_none->Dv,getElem?_set->DG,pairwise_iff_getElem->zK,pairwise_lt_range->adU,pairwise_append->ad5,pairwise_cons->qY,foldl_append->aeC,nodup_append->lD,length_eq_zero_iff->adP,length_eraseIdx->ad6,map_append->yc,take_zero->afh,Sublist->Xn,nodup_nil->oK,any_map->af1,length_zip->Nf,getElem?_range->aee,getElem?_eq_none_iff->Vj,drop_length->aeZ,drop_eq_getElem_cons->Vk,getElem?_mapIdx->ad7,sublist_nil->ae0,eq_of_mem_replicate->adN,getElem?_take->aeo,nil_perm->afE,map_id->Ip,perm_nil->W9,take_of_length_le->Vt,mem_erase_of_ne->ad8,length_erase_of_mem->adO,length_pos_of_mem->Ml,pairwise_map->xW,isEmpty_nil->MT,zipIdx_cons->ae2,zipIdx_nil->afb,forIn_nil->afl,find?_eq_none->aep,getElem_map->DQ,getD_eq_getElem?_getD->vR,cons_append->jt,filter_eq_self->vW,isEmpty_cons->V9,length_filter_le->zP,cons_lt_cons_iff->ad3,lt_irrefl->W3,filter_nil->zX,foldl_nil->aft
open Ne renaming symm->fQ
open PySem.Calls renaming Name_function_global->adH,spliced_nil->VM,spliced_cons->VG,call_function_entry->adK
open False renaming elim->rC
open PySem.Flow renaming next->PL
open Bool renaming false_ne_true->iw,false_and->Wv,eq_iff_iff->pF,and_eq_true->jl,not_eq_true->aeS,false_eq_true->kE,not_true->afD,not_false->afe,noConfusion->ae3,true->au,false->aD
open PySem.Builtin.Range renaming rangeSize->apo
open PyProof.Rows renaming callWith_type1->LQ,callWith_builtin1->adz,slot_tuple_getitem->Lz,boot_zip->adY
open PySem.EqNone renaming eq_none_none->aoX,eq_none_bool->aoY,eq_none_int->ao9,eq_none_str->apa,eq_bool_none->aoZ,eq_int_none->apb,eq_str_none->apd,ne_none_none->ao2,ne_none_bool->ao3,ne_none_int->apf,ne_none_str->apg,ne_bool_none->ao4,ne_int_none->aph,ne_str_none->apj
open PySem.EqMixed renaming eq_bool_str->ao0,eq_int_str->apc,eq_str_bool->ao1,eq_str_int->ape,ne_bool_str->ao5,ne_int_str->api,ne_str_bool->ao6,ne_str_int->apk
open True renaming intro->nC
open Option renaming isSome_iff_exists->zN,getD_none->aeR,isSome_some->aem,isSome_map->VP,map_eq_some_iff->zO,none->nA,map_some->lR,getD_some->DN,bind_some->j4,some_ne_none->vV,map->ahe,map_map->afk,bind_eq_some_iff->xV,map_eq_none_iff->adV,isSome_none->aeq,some->aj,none->ao
open PySem.SeqAt renaming EqAt->Pb,shaped->lg
open PySem.F renaming slot_tuple_add->Vr,entry_tuple_add->Vq,args_tuple_add_2->Vm,slot_list_append->ael,slot_int_rmul->ae7,slot_dict_iter->aeT,slot_dict_keyiterator_next->LK,entry_dict_keyiterator_next->adB,args_dict_keyiterator_next_1->adA,plain_proto_collect->adE,plain_list_iadd->Mj,slot_set_iter->afa,plain_extend_loop->adL,entry_max_loop->Du,plain_max_loop->o9,kind_max->aeY,plain_max->aeE,entry_max->aeF,slot_tuple_iterator_next->Mf,entry_tuple_iterator_next->adG,args_tuple_iterator_next_1->adD,slot_zip_next->Ng,entry_zip_next->ae1,args_zip_next_1->aeI
open Int renaming toNat_natCast->zR,ediv_one->afT,le_refl->yq,emod_nonneg->Nm,emod_lt_of_pos->Mr
open PySem.Builtin.Slice renaming sliceAdjust->Vi,slicePlaces->Mg,slicePartIndex->aoU,sliceApplied->adI,sliceFields->ao7
open PySem.Str renaming ofString->bZ
open PySem.Builtin.Tuple renaming tupleItemsOf->adJ,tupleExact->Mh,tupleCompareSizes->aoT,tupleIsExact->aoV
open PySem.Heap.IsSliceOf renaming new->apu
open PySem.Obj renaming mapSeq->lU,mapFields->W7,isFreed_of_fields->Vv,data_mapFields->Dy,cls_mapFields->V0,putSet->Pj
open PySem.Builtin.List renaming listTooLong->Vn,listExtendWith->LR,listLengthHint->adF,listSameRef->Vo
open List.Pairwise renaming nil->zT,filterMap->apq,imp->apv,of_map->apt,and_mem->aps,map->apx
open Or renaming inl->cR,inr->t8
open PySem.NameKind renaming free->pG,cell->NP
open ForInStep renaming yield->ae9
open PySem.Code renaming compLoop->Ec
open PySem.Walks renaming list->X6
open PySem.WalksT renaming zip2->agy
open List.Perm renaming refl->uM,of_eq->Wj,swap->WL,append_left->ad1
open List.cons renaming inj->pH,injEq->Wn
open PySem.Heap.SameBut renaming update->pB,refl->Mv
open PySem.Builtin.Dict renaming dictSlotNone->ao8,showsAll->adZ
open PySem.Builtin.Dict_items renaming ownsTuple->adC
open PySem.Around renaming under_plainId->uJ
open PySem.AutoSeq1 renaming sub_tuple_tuple->adM
open PySem.SetTable.below renaming go->Hz
open PySem.SetTable renaming below->jC,has->af0,slot->afB,grown->z9
open PySem.SetTable.probe renaming go->V1
open PySem.SetTable.Met.empty renaming injEq->apl
open Prod.mk renaming injEq->afC
open PySem.pickOrder renaming go->Xl
open PySem.Builtin.Frozenset renaming slot0->apr,sizeOf->apm,oneOther->aoW,addrOf->apn
open PySem.Bind renaming checkArgs->afg
open PySem.Builtin.Builtins renaming bindParams->Ma
open PySem.PyData renaming int->uV,str->gM,eqv->yr,tuple->Ed,strOk->Oi,canLayAll0->V4,depthAll->Wm,canLay0->afj,depth->af2,eqvAll->Xf
open List.Sublist renaming refl->zU,append->Hs
open PySem.Builtin.Str renaming strSliceIndices->Dt,reprChar->Vz
open PySem.Builtin.SmallTypes renaming nextOf->zM,ownedTupleIsFree->Ly,ownedTupleHandOut->ady
open PySem.Shared renaming heap->agD
open PySem.Heap.IsTuple renaming push->apw
open PySem.PassesOwn renaming never->DX
theorem aZ{c:Prop}[i:Decidable c](h:c){α:Sort _}{t e:α}:ite c t e=t:=if_pos h
theorem aY{c:Prop}[i:Decidable c](h:¬c){α:Sort _}{t e:α}:ite c t e=e:=if_neg h
theorem dZ{p:Prop}[i:Decidable p](h:p):decide p=true:=decide_eq_true h
theorem iU{p:Prop}[i:Decidable p](h:¬p):decide p=false:=decide_eq_false h
noncomputable section
namespace L2
open PySem PySem.Spec PyProof.Rows
abbrev Key:=Sum Int Str
def Ca:Key->Value->Bool
 |.inl k,v=>agr k v
 |.inr x,v=>W4 x v
def amV(w:bA):Key->Int
 |.inl k=>hashInt k
 |.inr x=>hashStr w x
theorem uT:∀{k:Key}{v:Value},Ca k v=au->(∃i t,k=Bd i/\v=wD i t)\/(∃x t,k=tV x/\v=Jf x t)
 |.inl i,v,h=>by
  obtain⟨t,e⟩:=Value.isInt_shape (k:=i) (v:=v) h
  exact .inl ⟨i,t,rfl,e⟩
 |.inr x,v,h=>by
  obtain⟨t,e⟩:=aeb (x:=x) (v:=v) h
  exact .inr ⟨x,t,rfl,e⟩
theorem ahr(i:Int)(t:Tok):Ca (.inl i) (.int i t)=au:=by simp[Ca,agr]
theorem ahs(x:Str)(t:Tok):Ca (.inr x) (.str x t)=au:=by simp[Ca,W4]
theorem akL(a b:Int):decide ((Bd a:Key)=Bd b)=(a==b):=by
 by_cases e:a=b
 .subst e;simp
 .have h:¬(Bd a:Key)=Bd b:=λq=>e (ags q)
  rw[iU h]
  exact(beq_eq_false_iff_ne.mpr e).symm
theorem akM(a b:Str):decide ((tV a:Key)=tV b)=decide (a=b):=by
 by_cases e:a=b
 .subst e;simp
 .have h:¬(tV a:Key)=tV b:=λq=>e (Il q)
  rw[iU h,iU e]
theorem akN(a:Int)(b:Str):decide ((Bd a:Key)=tV b)=aD:=iU (λq=>nomatch q)
theorem akO(a:Str)(b:Int):decide ((tV a:Key)=Bd b)=aD:=iU (λq=>nomatch q)
def nH(prog:bB)(w:bA):yh prog w Key where
 is:=Ca
 hash:=amV w
 inj:=λv a b ha hb=>by
  rcases uT ha with⟨i,t,rfl,rfl⟩|⟨x,t,rfl,rfl⟩
  .rcases uT hb with⟨j,u,rfl,e⟩|⟨y,u,rfl,e⟩
   .injection e with e1 _;rw[e1]
   .exact nomatch e
  .rcases uT hb with⟨j,u,rfl,e⟩|⟨y,u,rfl,e⟩
   .exact nomatch e
   .injection e with e1 _;rw[e1]
 byValue:=λk v h=>by
  rcases uT h with⟨i,t,rfl,rfl⟩|⟨x,t,rfl,rfl⟩<;>rfl
 pyHash:=λhv h=>by
  rcases uT hv with⟨i,t,rfl,rfl⟩|⟨x,t,rfl,rfl⟩
  .exact wpAny_pyHash_int h
  .exact wpAny_pyHash_str h
 eqBool:=λhu hv h=>by
  rcases uT hu with⟨i,t,rfl,rfl⟩|⟨x,t,rfl,rfl⟩
  .rcases uT hv with⟨j,u,rfl,rfl⟩|⟨y,u,rfl,rfl⟩
   .rw[akL] at h;exact wpAny_eqBool_int h
   .rw[akN] at h;exact aef i t y u _ _ _ _ h
  .rcases uT hv with⟨j,u,rfl,rfl⟩|⟨y,u,rfl,rfl⟩
   .rw[akO] at h;exact aeg x t j u _ _ _ _ h
   .rw[akM] at h;exact wpAny_eqBool_str h
 «strs»:=λk x t v h=>by
  rcases uT h with⟨i,u,rfl,e⟩|⟨y,u,rfl,e⟩
  .exact nomatch e
  .injection e with e1 _
   subst e1;cases v<;>rfl
theorem agt(prog:bB)(w:bA)(i:Int)(t:Tok):(nH prog w).is (.inl i) (.int i t)=au:=ahr i t
theorem agu(prog:bB)(w:bA)(x:Str)(t:Tok):(nH prog w).is (.inr x) (.str x t)=au:=ahs x t
inductive V where
 |non|bl (b:Bool)|int (i:Int)|str (x:Str)|pZ (b:Array UInt8)|flt (b:UInt64)|ref (a:az)|ty (n:String)
 deriving DecidableEq
def RelV:V->Value->Prop
 |.non,u=>u=jw
 |.bl b,u=>u=rm b
 |.int i,u=>∃t,u=wD i t
 |.str x,u=>∃t,u=Jf x t
 |.pZ b,u=>∃t,u=Value.bytes b t
 |.flt b,u=>∃t,u=Xq b t
 |.ref a,u=>u=cY a
 |.ty n,u=>u=Eo n
abbrev Vals:List V->List Value->Prop:=Paired RelV
theorem Vals.length{xs:List V}{us:List Value}(r:Vals xs us):xs.length=us.length:=Paired.length r
theorem Vals.get:∀{xs:List V}{us:List Value}{i:Nat}{x:V},Vals xs us->xs[i]?=aj x->∃u,us[i]?=aj u/\RelV x u
 |_,_,_,_,.nil,e=>by simp at e
 |_,_,0,_,.cons r _,e=>by simp at e;subst e;exact⟨_,rfl,r⟩
 |_,_,i+1,x,.cons _ t,e=>by
  obtain⟨u,h1,h2⟩:=Vals.get (i:=i) (x:=x) t (by simpa using e)
  exact⟨u,by simpa using h1,h2⟩
theorem Vals.set{x:V}{u:Value}(r:RelV x u):∀{xs:List V}{us:List Value}(i:Nat),Vals xs us->Vals (xs.set i x) (us.set i u)
 |_,_,_,.nil=>.nil
 |_,_,0,.cons _ t=>.cons r t
 |_,_,i+1,.cons q t=>.cons q (Vals.set r i t)
theorem Vals.append:∀{xs ys:List V}{us ws:List Value},Vals xs us->Vals ys ws->Vals (xs++ys) (us++ws)
 |_,_,_,_,.nil,s=>s
 |_,_,_,_,.cons r t,s=>.cons r (Vals.append t s)
theorem Vals.take:∀{xs:List V}{us:List Value}(n:Nat),Vals xs us->Vals (xs.take n) (us.take n)
 |_,_,0,_=>.nil
 |_,_,_+1,.nil=>.nil
 |_,_,n+1,.cons r t=>.cons r (Vals.take n t)
theorem Vals.drop:∀{xs:List V}{us:List Value}(n:Nat),Vals xs us->Vals (xs.drop n) (us.drop n)
 |_,_,0,r=>r
 |_,_,_+1,.nil=>.nil
 |_,_,n+1,.cons _ t=>Vals.drop n t
def pQ:Option V->Option Value->Prop
 |some v,some u=>RelV v u
 |none,none=>True
 |_,_=>False
def KV{κ:Type}:List (κ×V)->List (κ×Value)->Prop:=Paired λ(p:κ×V)(q:κ×Value)=>p.1=q.1/\RelV p.2 q.2
def kV:Key->V
 |.inl i=>.int i
 |.inr x=>.str x
inductive HO where
 |lst (xs:List V)
 |tup (xs:List V)
 |dK (kvs:List (Key×V))|dT (kvs:List (List Key×V))
 |set (S:Int->Bool) (n:Nat)
 |ins (C dx:az) (fs:List (Str×V))
 |own (x:az)
 |xd (fs:List (Str×V))
 |met (f x:az)
 |Ui (lo hi:Int)
 |lJ (o:Obj) (u:HO)
 |zq (ps:Array Value)
 |ext (φ:bh->Prop)
abbrev Hp:=az->Option HO
def upd(H:Hp)(a:az)(o:HO):Hp:=λb=>if b=a then aj o else H b
theorem f9{H:Hp}{a:az}{o:HO}:upd H a o a=aj o:=by unfold upd;rw[aZ rfl]
theorem dm{H:Hp}{a b:az}{o:HO}(h:b≠a):upd H a o b=H b:=by unfold upd;rw[aY h]
theorem aaa{H:Hp}{a:az}{o u:HO}:upd (upd H a o) a u=upd H a u:=by
 funext b;unfold upd;split<;>rfl
theorem SM{H:Hp}{a b:az}{o u:HO}(h:H a=aj o)(h':H b=aj u)(d:o≠u):a≠b:=by
 intro e;subst e;rw[h] at h';exact d (jb h')
theorem rA{H:Hp}{a b:az}{o:HO}(h:H a=aj o)(h':H b=ao):a≠b:=by
 intro e;subst e;rw[h] at h';cases h'
section
variable(P:bB)(w:bA)
def fH(H:Hp)(h:bh)(a:az):HO->Prop
 |.lst xs=>xs.length<=bU/\∃(its:List Value)(n:Nat),Vals xs its/\h.get? a=aj {cls:=.type "list",data:=.seq its.toArray n}
 |.tup xs=>xs.length<=bU/\∃its:List Value,Vals xs its/\IsTup h a its.toArray
 |.dK kvs=>kvs.length<=bU/\(a==rB)=aD/\∃vs,KV kvs vs/\h.DictOf (nH P w) a vs
 |.dT kvs=>kvs.length<=bU/\(a==rB)=aD/\∃xs:List (List Key×az×Value),
   Paired (λ(p:List Key×V)(q:List Key×az×Value)=>p.1=q.1/\H q.2.1=aj (.tup (p.1.map kV))/\RelV p.2 q.2.2) kvs xs/\
   ∃o es ep,h.get? a=aj o/\o.ExactDict/\o.data=.dict es ep/\es.toList=xs.map (entryOfKey (Ew (nH P w)))/\(xs.map (·.1)).Nodup
 |.set S n=>h.SetOf (intKind P w) a S n
 |.ins C dx fs=>H dx=aj (.own a)/\fs.length<=1000/\dx≠a/\h.get? a=aj (Wf C dx)/\
   ∃mA,h.Ns1 dx mA/\(∀f,pQ (fs.lookup f) (mA f))/\afQ mA (fs.map (·.1))
 |.own _=>∃o,h.get? a=aj o
 |.xd fs=>∃mA,h.Ns1 a mA/\∀f,pQ (fs.lookup f) (mA f)
 |.Ui lo hi=>∃t u v,h.get? a=aj {cls:=.type "range",data:=.fields #[.int lo t,.int hi u,.int 1 v]}
 |.lJ o u=>h.get? a=aj o/\fH H h a u
 |.zq ps=>h.get? a=aj {cls:=.none,data:=.fields ps}
 |.met f x=>h.get? a=aj (VL (.ref f) (.ref x))
 |.ext φ=>φ h/\(∃o,h.get? a=aj o)/\∀h1 h2:bh,φ h1->(∀o,h1.get? a=aj o->h2.get? a=aj o)->φ h2
def iH(H:Hp)(h:bh):Prop:=∀a o,H a=aj o->fH P w H h a o
end
section
variable{P:bB}{w:bA}{H H':Hp}{h h':bh}{a:az}{o:HO}
theorem fH.lt(x:fH P w H h a o):a<h.objs.size:=by
 cases o with
 |lst xs=>obtain⟨_,_,_,_,e⟩:=x;exact bN e
 |tup xs=>obtain⟨_,_,_,p⟩:=x;exact p.lt
 |dK kvs=>obtain⟨_,_,_,_,o,_,_,e,_⟩:=x;exact bN e
 |dT kvs=>obtain⟨_,_,_,_,o,_,_,e,_⟩:=x;exact bN e
 |set S n=>obtain⟨o,_,_,_,e,_⟩:=x;exact bN e
 |ins C dx fs=>obtain⟨_,_,_,e,_⟩:=x;exact bN e
 |own y=>obtain⟨_,e⟩:=x;exact bN e
 |xd fs=>obtain⟨_,⟨_,_,_,e,_⟩,_⟩:=x;exact bN e
 |Ui lo hi=>obtain⟨_,_,_,e⟩:=x;exact bN e
 |lJ ob u=>obtain⟨e,_⟩:=x;exact bN e
 |zq ps=>exact bN (show h.get? a=aj _ from x)
 |met f y=>exact bN (show h.get? a=aj _ from x)
 |ext φ=>obtain⟨_,⟨_,e⟩,_⟩:=x;exact bN e
theorem Paired.Tq{α β:Type}{F G:α->β->Prop}:∀{l₁:List α}{l₂:List β},Paired F l₁ l₂->(∀a b,F a b->G a b)->Paired G l₁ l₂
 |_,_,.nil,_=>.nil
 |_,_,.cons r t,f=>.cons (f _ _ r) (Paired.Tq t f)
theorem fH.stay(x:fH P w H h a o)(k:∀b u,(b=a\/H b=aj (.own a))->h.get? b=aj u->h'.get? b=aj u)
  (ho:∀b,H b=aj (.own a)->H' b=aj (.own a))(ht:∀b xs,H b=aj (.tup xs)->H' b=aj (.tup xs)):fH P w H' h' a o:=by
 induction o with
 |lst xs=>obtain⟨z,its,n,r,e⟩:=x;exact⟨z,its,n,r,k _ _ (.inl rfl) e⟩
 |tup xs=>obtain⟨z,its,r,ob,e,c⟩:=x;exact⟨z,its,r,ob,k _ _ (.inl rfl) e,c⟩
 |dK kvs=>obtain⟨z,y,vs,r,ob,es,ep,e,c⟩:=x;exact⟨z,y,vs,r,ob,es,ep,k _ _ (.inl rfl) e,c⟩
 |dT kvs=>
  obtain⟨z,y,xs,r,ob,es,ep,e,c⟩:=x
  exact⟨z,y,xs,Paired.Tq r λp q z=>⟨z.1,ht _ _ z.2.1,z.2.2⟩,ob,es,ep,k _ _ (.inl rfl) e,c⟩
 |set S n=>obtain⟨ob,es,ep,t,e,c⟩:=x;exact⟨ob,es,ep,t,k _ _ (.inl rfl) e,c⟩
 |ins C dx fs=>
  obtain⟨d,z,ne,e,mA,⟨od,es,ep,e2,c⟩,r⟩:=x
  exact⟨ho _ d,z,ne,k _ _ (.inl rfl) e,mA,⟨od,es,ep,k _ _ (.inr d) e2,c⟩,r⟩
 |own y=>obtain⟨ob,e⟩:=x;exact⟨ob,k _ _ (.inl rfl) e⟩
 |xd fs=>obtain⟨mA,⟨od,es,ep,e,c⟩,r⟩:=x;exact⟨mA,⟨od,es,ep,k _ _ (.inl rfl) e,c⟩,r⟩
 |Ui lo hi=>obtain⟨t,u,v,e⟩:=x;exact⟨t,u,v,k _ _ (.inl rfl) e⟩
 |lJ ob u ih=>obtain⟨e,q⟩:=x;exact⟨k _ _ (.inl rfl) e,ih q⟩
 |zq ps=>
  have e:h.get? a=aj {cls:=.none,data:=.fields ps}:=x;show h'.get? a=aj {cls:=.none,data:=.fields ps};exact k a _ (.inl rfl) e
 |met f y=>
  have e:h.get? a=aj (VL (.ref f) (.ref y)):=x;show h'.get? a=aj (VL (.ref f) (.ref y));exact k a _ (.inl rfl) e
 |ext φ=>obtain⟨p,⟨o,e⟩,st⟩:=x;exact⟨st _ _ p λo q=>k _ _ (.inl rfl) q,⟨o,k _ _ (.inl rfl) e⟩,st⟩
theorem iH.lt(x:iH P w H h)(e:H a=aj o):a<h.objs.size:=(x a o e).lt
theorem iH.fresh(x:iH P w H h)(e:h.objs.size<=a):H a=ao:=by
 cases q:H a with
 |none=>rfl
 |some u=>exact absurd (nq (x.lt q) e) (Aa _)
theorem iH.kept(x:iH P w H h)(k:∀b u,h.get? b=aj u->h'.get? b=aj u):iH P w H h':=λa o e=>
 (x a o e).stay (λb u _ q=>k b u q) (λ_ q=>q) λ_ _ q=>q
theorem iH.laid(x:iH P w H h)(k:∀b u,h.get? b=aj u->h'.get? b=aj u)(hp:h.objs.size<=a)(new:fH P w (upd H a o) h' a o):iH P w (upd H a o) h':=λb u e=>by
 have hn:=x.fresh hp;by_cases hb:b=a
 .subst hb;rw[f9] at e;cases e;exact new
 .rw[dm hb] at e
  exact(x b u e).stay (λc v _ q=>k c v q) (λc q=>by rw[dm (rA q hn)];exact q) λc xs q=>by rw[dm (rA q hn)];exact q
end
def Rd(H:Hp)(a:az)(u:HO):Prop:=H a=aj u\/∃o,H a=aj (.lJ o u)
theorem Rd.of{H:Hp}{a:az}{u:HO}(h:H a=aj u):Rd H a u:=.inl h
theorem Rd.ok{P:bB}{w:bA}{H:Hp}{h:bh}{a:az}{u:HO}(r:Rd H a u)(x:iH P w H h):fH P w H h a u:=by
 rcases r with r|⟨o,r⟩
 .exact x a u r
 .obtain⟨_,q⟩:=x a _ r
  exact q
def GP:Option HO->Prop
 |some (.lst _)=>True
 |some (.dK _)=>True
 |some (.dT _)=>True
 |some (.set _ _)=>True
 |some (.ins _ _ _)=>True
 |some (.ext _)=>True
 |_=>False
section
variable{P:bB}{w:bA}{H:Hp}{h h':bh}{x e:az}{o':HO}
theorem iH.write(ok:iH P w H h)(mu:GP (H x))(he:e=x\/H e=aj (.own x))(k:∀b u,b≠e->h.get? b=aj u->h'.get? b=aj u)(heo:∃u,h'.get? e=aj u)
  (new:fH P w (upd H x o') h' x o'):iH P w (upd H x o') h':=λb u q=>by
 have acs:∀c y,H c=aj (.own y)->c≠x:=λc y r z=>by subst z;rw[r] at mu;exact mu
 have amW:∀c xs,H c=aj (.tup xs)->c≠x:=λc xs r z=>by subst z;rw[r] at mu;exact mu
 by_cases hb:b=x
 .subst hb;rw[f9] at q;cases q;exact new
 .rw[dm hb] at q;by_cases hbe:b=e
  .have q':H b=aj (.own x):=by
    rcases he with z|z
    .exact absurd (hbe.trans z) hb
    .rw[hbe];exact z
   rw[q] at q';cases q'
   obtain⟨v,hv⟩:=heo
   exact⟨v,by rw[hbe];exact hv⟩
  .refine(ok b u q).stay (λc v hc r=>k c v ?_ r) (λc r=>by rw[dm (acs c b r)];exact r) λc xs r=>by rw[dm (amW c xs r)];exact r
   rcases hc with rfl|hc
   .exact hbe
   .rintro rfl;rcases he with z|z
    .exact acs c b hc z
    .rw[hc] at z;cases z;exact hb rfl
end
structure Un(fs ex:List az)(H H':Hp)(h h':bh):Prop where
 keep:∀b o,h.get? b=aj o->H b=ao->b∉fs->b∉ex->h'.get? b=aj o
 slot:∀b o,h.get? b=aj o->H b=ao->b∈fs->b∉ex->∃sl,h'.get? b=aj {o with slots:=sl}
 free:∀b o,h.get? b=aj o->H b=ao->b∉ex->H' b=ao
 there:∀b o,h.get? b=aj o->b∉ex->∃o',h'.get? b=aj o'
 tups:∀b xs,H b=aj (.tup xs)->H' b=aj (.tup xs)
 pR:∀b o u,H b=aj (.lJ o u)->H' b=aj (.lJ o u)
 qL:∀b ps,H b=aj (.zq ps)->∃more,H' b=aj (.zq (ps++more))
section
variable{fs fs' ex ex':List az}{H H1 H2:Hp}{h h1 h2 h':bh}{a x e:az}{o:HO}
theorem Un.any(u:Un fs ex H H1 h h1){b:az}{ob:Obj}(q:h.get? b=aj ob)(n:H b=ao)(hx:b∉ex):∃sl,h1.get? b=aj {ob with slots:=sl}:=by
 by_cases hb:b∈fs
 .exact u.slot b ob q n hb hx
 .exact⟨ob.slots,u.keep b ob q n hb hx⟩
theorem Un.trans(a:Un fs ex H H1 h h1)(b:Un fs ex H1 H2 h1 h2):Un fs ex H H2 h h2 where
 keep:=λc ob q n hc hx=>b.keep c ob (a.keep c ob q n hc hx) (a.free c ob q n hx) hc hx
 slot:=λc ob q n hc hx=>by
  obtain⟨sl,e1⟩:=a.slot c ob q n hc hx
  obtain⟨sl',e2⟩:=b.slot c _ e1 (a.free c ob q n hx) hc hx
  exact⟨sl',e2⟩
 free:=λc ob q n hx=>by
  obtain⟨o',e1⟩:=a.there c ob q hx
  exact b.free c o' e1 (a.free c ob q n hx) hx
 there:=λc ob q hx=>by
  obtain⟨o',e1⟩:=a.there c ob q hx
  exact b.there c o' e1 hx
 tups:=λc xs q=>b.tups c xs (a.tups c xs q)
 pR:=λc ob xs q=>b.pR c ob xs (a.pR c ob xs q)
 qL:=λc ps q=>by
  obtain⟨m1,e1⟩:=a.qL c ps q
  obtain⟨m2,e2⟩:=b.qL c _ e1
  exact⟨m1++m2,by rw[e2,aeh]⟩
theorem Un.kept(k:∀b u,h.get? b=aj u->h'.get? b=aj u):Un fs ex H H h h':=
 ⟨λb ob q _ _ _=>k b ob q,λb ob q _ _ _=>⟨ob.slots,k b ob q⟩,λ_ _ _ n _=>n,λb ob q _=>⟨ob,k b ob q⟩,λ_ _ q=>q,λ_ _ _ q=>q,λ_ ps q=>⟨#[],by rw[q];simp⟩⟩
theorem Un.refl:Un fs ex H H h h:=Un.kept λ_ _ q=>q
theorem Un.laid(k:∀b u,h.get? b=aj u->h'.get? b=aj u)(hp:h.objs.size<=a)(hn:H a=ao):Un fs ex H (upd H a o) h h' where
 keep:=λb u q _ _ _=>k b u q
 slot:=λb u q _ _ _=>⟨u.slots,k b u q⟩
 free:=λb u q n _=>by rw[dm (dX (nq (bN q) hp))];exact n
 there:=λb u q _=>⟨u,k b u q⟩
 tups:=λb xs q=>by rw[dm (rA q hn)];exact q
 pR:=λb u xs q=>by rw[dm (rA q hn)];exact q
 qL:=λb ps q=>⟨#[],by rw[dm (rA q hn),q];simp⟩
theorem Un.write(mu:GP (H x))(he:e=x\/H e=aj (.own x))(k:∀b u,b≠e->h.get? b=aj u->h'.get? b=aj u)(heo:∃u,h'.get? e=aj u):Un fs ex H (upd H x o) h h':=by
 have hx:∀b,H b=ao->b≠x:=λb n z=>by subst z;rw[n] at mu;exact mu
 have hb:∀b,H b=ao->b≠e:=λb n z=>by
  subst z;rcases he with r|r
  .exact hx b n r
  .rw[n] at r;cases r
 have hm:∀b u,H b=aj u->¬GP (aj u)->b≠x:=λb u q nm z=>by subst z;rw[q] at mu;exact nm mu
 refine⟨λb u q n _ _=>k b u (hb b n) q,λb u q n _ _=>⟨u.slots,k b u (hb b n) q⟩,λb u q n _=>by rw[dm (hx b n)];exact n,λb u q _=>?_,
  λb xs q=>by rw[dm (hm b _ q λz=>z)];exact q,λb u xs q=>by rw[dm (hm b _ q λz=>z)];exact q,λb ps q=>⟨#[],by rw[dm (hm b _ q λz=>z),q];simp⟩⟩
 by_cases hbe:b=e
 .subst hbe;exact heo
 .exact⟨u,k b u hbe q⟩
theorem Un.mono(u:Un fs ex H H1 h h1)(hs:∀b∈fs,b∈fs')(hx:∀b∈ex,b∈ex'):Un fs' ex' H H1 h h1:=
 ⟨λb ob q n hb he=>u.keep b ob q n (λz=>hb (hs b z)) λz=>he (hx b z),λ_ _ q n _ he=>u.any q n λz=>he (hx _ z),λb ob q n he=>u.free b ob q n λz=>he (hx b z),λb ob q he=>u.there b ob q λz=>he (hx b z),u.tups,u.pR,u.qL⟩
end
def K6(h:bh)(H:Hp):List az:=(gC h.objs.size).filter λa=>(H a).isSome
def vB(h:bh)(H:Hp):bh:=PySem.W.hideAll h (K6 h H)
theorem aht(h:bh)(H:Hp):(vB h H).objs.size=h.objs.size:=PySem.W.hideAll_size _ _
theorem aij{h:bh}{H:Hp}{b:az}{o:Obj}(e:h.get? b=aj o)(n:H b=ao):(vB h H).get? b=aj o:=
 PySem.W.hideAll_get _ e λhm=>by
  have q:(H b).isSome=au:=(xX.mp hm).2;rw[n] at q;simp at q
theorem aju{h:bh}{H:Hp}{b:az}{o:Obj}(e:(vB h H).get? b=aj o):h.get? b=aj o/\H b=ao:=by
 have e':h.get? b=aj o:=PySem.W.of_hideAll (K6 h H) e
 refine⟨e',?_⟩
 cases q:H b with
 |none=>rfl
 |some x=>
  have hm:b∈K6 h H:=xX.mpr ⟨ql.mpr (bN e'),by simp[q]⟩;have z:(vB h H).get? b=ao:=PySem.W.hideAll_none (K6 h H) hm;rw[z] at e;cases e
def ajv(g h:bh)(L:az):List (az×Obj):=(gC h.objs.size).filterMap λa=>if a=L\/(g.get? a).isSome=au then ao else(h.get? a).map λo=>(a,o)
def rest(g h:bh)(L d:az):List (az×Obj):=(ajv g h L).filter λp=>decide (p.1≠d)
structure Mod(K:aJ)(mg:Str->Option Value)(base:bh):Prop where
 Uj:K.In base
 glob:base.Ns fW mg
 blt:∃mb,base.Ns builtinsNs mb/\∀x:Str,x≠"__name__"->mb x=tK x
 nolimit:base.NoLimit
structure Cx where
 prog:bB
 w:bA
 K:aJ
 mg:Str->Option Value
 base:bh
 A:bV
 N:List Str
 s₀:aG
 H₀:Hp
 env:Env
 outer:List Env
 stack:List Env
 ex:List az
 fn:Str->Bool
 calm:Bool
 pn:List (az×Obj)
 xe:Value->aG->Prop
def frs(l:List Env):List az:=l.filterMap (·.frame)
abbrev Cx.fs(X:Cx):List az:=frs X.outer
def Uk(sc:jG)(x:Str):Prop:=sc.names.lookup x=aj .local\/sc.names.lookup x=aj .cell\/sc.names.lookup x=aj .free
def Loc(sc:jG)(x:Str):Prop:=sc.names.lookup x=aj .local\/sc.names.lookup x=aj .cell
def Look(env:Env)(h:bh)(m:Str->Option Value)(x:Str)(u:Value):Prop:=
 (env.kindOf x=aj .local/\m x=aj u)\/((env.kindOf x=aj .cell\/env.kindOf x=aj .free)/\∃c,env.cells.lookup x=aj c/\h.IsCell c (aj u))
structure Cx.Ok(X:Cx):Prop where
 mod:Mod X.K X.mg X.base
 kind:X.env.scope.kind=.function
 glob:X.env.globals=fW
 blt:X.env.builtins=builtinsNs
 above:X.s₀.heap.objs.size<=X.env.locals
 inj:∀x y c,X.env.cells.lookup x=aj c->X.env.cells.lookup y=aj c->x=y
 has:∀x,(X.env.kindOf x=aj .cell\/X.env.kindOf x=aj .free)->∃c,X.env.cells.lookup x=aj c
 cab:∀x c,X.fn x=au->X.env.cells.lookup x=aj c->X.s₀.heap.objs.size<=c
 hd:X.calm=au->X.A.handled=ao
 frames:X.A.frames=aj X.stack
 stk:X.stack=X.outer\/(X.stack=X.env::X.outer/\X.env.frame=aj X.env.locals)
 exf:∀b∈X.ex,b≠X.env.locals/\∀x c,X.env.cells.lookup x=aj c->c≠b
 bs:∀b o,X.base.get? b=aj o->X.s₀.heap.get? b=aj o/\X.H₀ b=ao
 uy:X.base.objs.size<=X.s₀.heap.objs.size
 Gv:∀b o,X.base.get? b=aj o->b∉X.ex
 KN:∀b∈X.ex,b∉X.fs
 qM:X.s₀.heap.FunFrames X.base X.outer
 zu:∀b∈X.fs,X.H₀ b=ao
structure Inv(X:Cx)(pins:List (az×Obj))(σ:List (Option V))(H:Hp)(s:aG):Prop where
 ok:X.Ok
 os:s.os=X.s₀.os
 bare:AllBare s.gens
 base:Un X.fs X.ex X.H₀ H X.s₀.heap s.heap
 loc:∃m,s.heap.Ns X.env.locals m/\∀(i:Nat)(x:Str)(v:V),X.N[i]?=aj x->σ[i]?=aj (aj v)->Uk X.env.scope x->∃u,RelV v u/\Look X.env s.heap m x u
 cell:∀x c,X.env.cells.lookup x=aj c->∃v,s.heap.IsCell c v
 free:H X.env.locals=ao
 rK:∀x c,X.env.cells.lookup x=aj c->H c=ao
 pin:∀p∈X.pn++pins,s.heap.get? p.1=aj p.2/\H p.1=ao/\p.1≠X.env.locals/\p.1∉X.fs/\∀v,p.2.data≠.cell v
 hok:iH X.prog X.w H s.heap
 len:σ.length=X.N.length
section
variable{X:Cx}{pins:List (az×Obj)}{σ:List (Option V)}{H H':Hp}{s:aG}{h':bh}
theorem Cx.Ok.amX(ok:X.Ok){b:az}{o:Obj}(e:X.base.get? b=aj o):b∉X.fs:=λhb=>by
 have:=(ok.qM.mem hb).1;rw[e] at this;cases this
theorem Inv.bs(I:Inv X pins σ H s):∀b o,X.base.get? b=aj o->s.heap.get? b=aj o/\H b=ao:=λb o e=>
 ⟨I.base.keep b o (I.ok.bs b o e).1 (I.ok.bs b o e).2 (I.ok.amX e) (I.ok.Gv b o e),I.base.free b o (I.ok.bs b o e).1 (I.ok.bs b o e).2 (I.ok.Gv b o e)⟩
theorem Inv.bk(I:Inv X pins σ H s):∀b o,X.base.get? b=aj o->s.heap.get? b=aj o:=λb o e=>(I.bs b o e).1
theorem Inv.mod(I:Inv X pins σ H s):Mod X.K X.mg X.base:=I.ok.mod
theorem Inv.jg(I:Inv X pins σ H s):X.K.In s.heap:=I.ok.mod.Uj.keeps I.bk
theorem Inv.nolimit(I:Inv X pins σ H s):s.heap.NoLimit:=I.ok.mod.nolimit.keeps I.bk
theorem Inv.fr(I:Inv X pins σ H s):∃m,Fr X.base X.env.locals s.heap m:=
 let ⟨m,hn,_⟩:=I.loc
 ⟨m,hn,I.bk,ju I.ok.uy I.ok.above⟩
theorem Inv.lt(I:Inv X pins σ H s):X.env.locals<s.heap.objs.size:=let ⟨_,hn,_⟩:=I.loc;hn.lt
theorem Inv.sz(I:Inv X pins σ H s):X.s₀.heap.objs.size<=s.heap.objs.size:=ju I.ok.above (Af I.lt)
theorem Inv.amY(I:Inv X pins σ H s){a:az}(h:s.heap.objs.size<=a):a∉X.fs:=λhb=>by
 obtain⟨_,o,ho,_⟩:=I.ok.qM.mem hb
 exact absurd (nq (bN ho) (ju I.sz h)) (Aa _)
theorem Inv.zx(I:Inv X pins σ H s):∀x c,X.env.cells.lookup x=aj c->c≠X.env.locals:=λx c e z=>by
 obtain⟨v,o,ho,hd⟩:=I.cell x c e
 obtain⟨m,⟨o',es,ep,ho',hd',_⟩,_⟩:=I.loc
 rw[z,ho'] at ho;cases ho;rw[hd'] at hd;cases hd
theorem Inv.qM(I:Inv X pins σ H s):s.heap.FunFrames X.base X.outer:=by
 have all:∀(l:List Env),(∀b∈frs l,b∈X.fs)->X.s₀.heap.FunFrames X.base l->s.heap.FunFrames X.base l:=by
  intro l;induction l with
  |nil=>intro _ _;trivial
  |cons env r ih=>
   intro hs hl
   obtain⟨hk,⟨L,o,hf,hn,ho,hd⟩,hr⟩:=hl
   have hL:L∈X.fs:=hs L (by unfold frs;rw[VD,hf];exact dj)
   obtain⟨sl,e⟩:=I.base.slot L o ho (I.ok.zu L hL) hL λz=>I.ok.KN L z hL
   exact⟨hk,⟨L,_,hf,hn,e,hd⟩,ih (λb hb=>hs b (by unfold frs;rw[VD,hf];exact dB _ hb)) hr⟩
 exact all X.outer (λ_ hb=>hb) I.ok.qM
theorem Inv.stack(I:Inv X pins σ H s):s.heap.FunFrames X.base X.stack:=by
 rcases I.ok.stk with e|⟨e,hf⟩
 .rw[e];exact I.qM
 .rw[e]
  obtain⟨m,hn,_⟩:=I.loc
  refine .cons (by rw[I.ok.kind];decide) hf hn ?_ I.qM;exact Heap.get?_none_of_le (ju I.ok.uy I.ok.above)
theorem Inv.Br(I:Inv X pins σ H s):∀b∈frs X.stack,b∈X.env.locals::X.fs:=λb hb=>by
 rcases I.ok.stk with e|⟨e,hf⟩
 .rw[e] at hb;exact dB _ hb
 .rw[e] at hb;unfold frs at hb;rw[VD,hf] at hb;exact hb
theorem Inv.aab(I:Inv X pins σ H s):∀b∈frs X.stack,H b=ao:=λb hb=>by
 rcases bJ.mp (I.Br b hb) with e|hb
 .rw[e];exact I.free
 .obtain⟨_,o,ho,_⟩:=I.ok.qM.mem hb
  exact I.base.free b o ho (I.ok.zu b hb) λz=>I.ok.KN b z hb
theorem Inv.step{g':Array GenState}{t':Nat}{d':yQ}{ch:List az}(I:Inv X pins σ H s)
  (hch:∀b∈ch,(b∈X.ex\/X.s₀.heap.objs.size<=b)/\b≠X.env.locals/\(∀x c,X.env.cells.lookup x=aj c->c≠b)/\∀p∈X.pn++pins,p.1≠b)
  (keep:∀b o,b≠X.env.locals->b∉X.fs->b∉ch->s.heap.get? b=aj o->H b=ao->h'.get? b=aj o)
  (slot:∀b o,b≠X.env.locals->b∈X.fs->b∉ch->s.heap.get? b=aj o->H b=ao->∃sl,h'.get? b=aj {o with slots:=sl})(free:∀b o,b∉ch->s.heap.get? b=aj o->H b=ao->H' b=ao)
  (there:∀b o,b∉ch->s.heap.get? b=aj o->∃o',h'.get? b=aj o')
  (tups:∀b xs,H b=aj (.tup xs)->H' b=aj (.tup xs))(pR:∀b o u,H b=aj (.lJ o u)->H' b=aj (.lJ o u))(qL:∀b ps,H b=aj (.zq ps)->∃more,H' b=aj (.zq (ps++more)))
  (ns:∀m,s.heap.Ns X.env.locals m->h'.Ns X.env.locals m)(hok:iH X.prog X.w H' h')(hg:AllBare g'):
  Inv X pins σ H' {s with heap:=h',gens:=g',drawn:=d',toks:=t'}:=by
 have neL:∀b o,X.s₀.heap.get? b=aj o->b≠X.env.locals:=λb o e=>dX (nq (bN e) I.ok.above)
 have K7:∀b o,X.s₀.heap.get? b=aj o->b∉X.ex->b∉ch:=λb o e hx hb=>by
  rcases(hch b hb).1 with z|z
  .exact hx z
  .exact absurd (nq (bN e) z) (Aa _)
 have cellK:∀x c,X.env.cells.lookup x=aj c->∀v,s.heap.IsCell c v->h'.IsCell c v:=λx c e v aP=>by
  obtain⟨o,ho,hd⟩:=aP
  have GQ:c∉ch:=λz=>(hch c z).2.2.1 x c e rfl
  by_cases hc:c∈X.fs
  .obtain⟨sl,q⟩:=slot c o (I.zx x c e) hc GQ ho (I.rK x c e)
   exact⟨_,q,hd⟩
  .exact⟨o,keep c o (I.zx x c e) hc GQ ho (I.rK x c e),hd⟩
 refine⟨I.ok,I.os,hg,⟨λb o e n hb hx=>?_,λb o e n hb hx=>?_,λb o e n hx=>?_,λb o e hx=>?_,λb xs e=>tups b xs (I.base.tups b xs e),λb o xs e=>pR b o xs (I.base.pR b o xs e),λb ps e=>?_⟩,?_,λx c e=>?_,?_,λx c e=>?_,λp hp=>?_,hok,I.len⟩
 .exact keep b o (neL b o e) hb (K7 b o e hx) (I.base.keep b o e n hb hx) (I.base.free b o e n hx)
 .obtain⟨sl,e1⟩:=I.base.slot b o e n hb hx
  obtain⟨sl',e2⟩:=slot b _ (neL b o e) hb (K7 b o e hx) e1 (I.base.free b o e n hx)
  exact⟨sl',e2⟩
 .obtain⟨o',e1⟩:=I.base.there b o e hx
  exact free b o' (K7 b o e hx) e1 (I.base.free b o e n hx)
 .obtain⟨o',e1⟩:=I.base.there b o e hx
  exact there b o' (K7 b o e hx) e1
 .obtain⟨m1,e1⟩:=I.base.qL b ps e
  obtain⟨m2,e2⟩:=qL b _ e1
  exact⟨m1++m2,by rw[e2,aeh]⟩
 .obtain⟨m,hn,hl⟩:=I.loc
  refine⟨m,ns m hn,λi x v e1 e2 e3=>?_⟩
  obtain⟨u,r,l⟩:=hl i x v e1 e2 e3
  refine⟨u,r,?_⟩
  rcases l with l|⟨k,c,e,z⟩
  .exact .inl l
  .exact .inr ⟨k,c,e,cellK x c e _ z⟩
 .obtain⟨v,z⟩:=I.cell x c e
  exact⟨v,cellK x c e v z⟩
 .obtain⟨m,⟨o,_,_,ho,_⟩,_⟩:=I.loc
  exact free _ o (λz=>(hch _ z).2.1 rfl) ho I.free
 .obtain⟨v,o,ho,hd⟩:=I.cell x c e
  exact free c o (λz=>(hch c z).2.2.1 x c e rfl) ho (I.rK x c e)
 .obtain⟨e,n,ne,nf,d⟩:=I.pin p hp
  have GQ:p.1∉ch:=λz=>(hch p.1 z).2.2.2 p hp rfl
  exact⟨keep p.1 p.2 ne nf GQ e n,free p.1 p.2 GQ e n,ne,nf,d⟩
theorem Inv.un{t':Nat}(I:Inv X pins σ H s)(u:Un X.fs [] H H' s.heap h')(hok:iH X.prog X.w H' h'):Inv X pins σ H' {s with heap:=h',toks:=t'}:=by
 obtain⟨m,⟨o,es,ep,ho,r⟩,_⟩:=id I.loc
 obtain⟨sl,hL⟩:=u.any ho I.free (by simp)
 exact I.step (g':=s.gens) (d':=s.drawn) (ch:=[]) (λ_ z=>nomatch z) (λb o _ hb _ e n=>u.keep b o e n hb (by simp)) (λb o _ hb _ e n=>u.slot b o e n hb (by simp)) (λb o _ e n=>u.free b o e n (by simp)) (λb o _ e=>u.there b o e (by simp)) u.tups u.pR u.qL (λm' hm=>by
  obtain⟨o',es',ep',ho',r'⟩:=hm
  rw[ho] at ho';cases ho'
  exact⟨_,es',ep',hL,r'⟩) hok I.bare
theorem Inv.call{g':Array GenState}{t':Nat}{d':yQ}{ch:List az}(I:Inv X pins σ H s)(u:Un (frs X.stack) ch H H' s.heap h')(hok:iH X.prog X.w H' h')(hg:AllBare g')
  (hch:∀b∈ch,(b∈X.ex\/X.s₀.heap.objs.size<=b)/\b≠X.env.locals/\(∀x c,X.env.cells.lookup x=aj c->c≠b)/\∀p∈X.pn++pins,p.1≠b):
  Inv X pins σ H' {s with heap:=h',gens:=g',drawn:=d',toks:=t'}:=by
 obtain⟨m,⟨o,es,ep,ho,r⟩,_⟩:=id I.loc
 obtain⟨sl,hL⟩:=u.any ho I.free λz=>(hch _ z).2.1 rfl
 exact I.step (ch:=ch) hch (λb o hL hb hc e n=>u.keep b o e n (λz=>(bJ.mp (I.Br b z)).elim hL hb) hc) (λb o _ _ hc e n=>u.any e n hc) (λb o hc e n=>u.free b o e n hc) (λb o hc e=>u.there b o e hc) u.tups u.pR u.qL (λm' hm=>by
  obtain⟨o',es',ep',ho',r'⟩:=hm
  rw[ho] at ho';cases ho'
  exact⟨_,es',ep',hL,r'⟩) hok hg
theorem Inv.turned{t':Nat}{it:az}(I:Inv X pins σ H s)(k:∀b o,b≠it->s.heap.get? b=aj o->h'.get? b=aj o)(hn:H it=ao)(hL:it≠X.env.locals)
  (h1:it∈X.ex\/X.s₀.heap.objs.size<=it)(h2:∀x c,X.env.cells.lookup x=aj c->c≠it)(h3:∀p∈X.pn++pins,p.1≠it):Inv X pins σ H {s with heap:=h',toks:=t'}:=by
 have GR:∀b u,H b=aj u->b≠it:=λb u e z=>by rw[z,hn] at e;cases e
 refine I.step (g':=s.gens) (d':=s.drawn) (ch:=[it]) (λb hb=>?_) (λb o _ _ hc e _=>k b o (λz=>hc (by simp[z])) e) (λb o _ _ hc e _=>⟨o.slots,k b o (λz=>hc (by simp[z])) e⟩) (λ_ _ _ _ n=>n)
  (λb o hc e=>⟨o,k b o (λz=>hc (by simp[z])) e⟩) (λ_ _ e=>e) (λ_ _ _ e=>e) (λb ps e=>⟨#[],by rw[e];simp⟩) (λm hm=>?_) (λb u e=>?_) I.bare
 .have e:b=it:=by simpa using hb
  subst e
  exact⟨h1,hL,h2,h3⟩
 .obtain⟨o,es,ep,ho,r⟩:=hm
  exact⟨o,es,ep,k _ o (fQ hL) ho,r⟩
 .refine(I.hok b u e).stay (λc v hc q=>k c v ?_ q) (λ_ q=>q) λ_ _ q=>q
  rcases hc with z|z
  .rw[z];exact GR b u e
  .exact GR c _ z
theorem Inv.tok(I:Inv X pins σ H s)(t:Nat):Inv X pins σ H {s with toks:=t}:=I.un (h':=s.heap) (t':=t) Un.refl I.hok
theorem Inv.kept{t':Nat}(I:Inv X pins σ H s)(k:∀b u,s.heap.get? b=aj u->h'.get? b=aj u):Inv X pins σ H {s with heap:=h',toks:=t'}:=I.un (Un.kept k) (I.hok.kept k)
theorem Inv.laid{a:az}{o:HO}{t':Nat}(I:Inv X pins σ H s)(k:∀b u,s.heap.get? b=aj u->h'.get? b=aj u)(hp:s.heap.objs.size<=a)(new:fH X.prog X.w (upd H a o) h' a o):
  Inv X pins σ (upd H a o) {s with heap:=h',toks:=t'}:=I.un (Un.laid k hp (I.hok.fresh hp)) (I.hok.laid k hp new)
theorem Inv.write{x e:az}{o:HO}{t':Nat}(I:Inv X pins σ H s)(mu:GP (H x))(he:e=x\/H e=aj (.own x))(k:∀b u,b≠e->s.heap.get? b=aj u->h'.get? b=aj u)(heo:∃u,h'.get? e=aj u)
  (new:fH X.prog X.w (upd H x o) h' x o):Inv X pins σ (upd H x o) {s with heap:=h',toks:=t'}:=I.un (Un.write mu he k heo) (I.hok.write mu he k heo new)
theorem Inv.weak{σ':List (Option V)}(I:Inv X pins σ H s)(hl:σ'.length=σ.length)(w:∀(i:Nat) v,σ'[i]?=aj (aj v)->σ[i]?=aj (aj v)):Inv X pins σ' H s:=
 ⟨I.ok,I.os,I.bare,I.base,let ⟨m,hn,hl'⟩:=I.loc;⟨m,hn,λi x v e1 e2 e3=>hl' i x v e1 (w i v e2) e3⟩,I.cell,I.free,I.rK,I.pin,I.hok,hl.trans I.len⟩
theorem Inv.aac{SN:List (az×Obj)}(I:Inv X pins σ H s)(h:∀p∈SN,s.heap.get? p.1=aj p.2/\H p.1=ao/\p.1≠X.env.locals/\p.1∉X.fs/\∀v,p.2.data≠.cell v):Inv X SN σ H s:=
 ⟨I.ok,I.os,I.bare,I.base,I.loc,I.cell,I.free,I.rK,λp hp=>(dF.mp hp).elim (λz=>I.pin p (iY _ z)) (h p),I.hok,I.len⟩
theorem Za{N:List Str}(hN:N.Nodup){i j:Nat}{x:Str}(a:N[i]?=aj x)(b:N[j]?=aj x):i=j:=by
 obtain⟨h1,e1⟩:=kj.mp a
 obtain⟨h2,e2⟩:=kj.mp b
 exact(List.getElem_inj hN).mp (e1.trans e2.symm)
theorem PJ{M:Model}{A:bV}{E:Value->aG->Prop}{i:Nat}{x:Str}{v:V}{u:Value}{Q:Unit->aG->Prop}(I:Inv X pins σ H s)(hN:X.N.Nodup)(hi:X.N[i]?=aj x)(hx:Loc X.env.scope x)(r:RelV v u)
  (h:∀s',Inv X pins (σ.set i (aj v)) H s'->(∃a,uO a s.heap s'.heap/\(a=X.env.locals\/X.env.cells.lookup x=aj a))->Q () s')(hf:X.fn x=au\/X.env.scope.names.lookup x=aj .local:=by first|exact .inl rfl|exact .inr rfl|assumption):aL M A (storeName X.env x u) Q E s:=by
 obtain⟨m,hn,hl⟩:=id I.loc
 have hcls:(X.env.scope.kind==.class||(X.env.scope.kind==.module&&X.env.locals != X.env.globals))=aD:=by rw[I.ok.kind];rfl
 have hiσ:i<σ.length:=by rw[I.len];exact(kj.mp hi).1
 have zx:=I.zx;have tracked:∀{a:az}{h':bh},(∃o,s.heap.get? a=aj o/\H a=ao)->uO a s.heap h'->iH X.prog X.w H h':=λ{a h'} ha hs b ob e=>by
  obtain⟨_,_,hfree⟩:=ha
  refine(I.hok b ob e).stay (λc w' hc q=>(hs.2 c ?_).trans q) (λ_ q=>q) λ_ _ q=>q
  rintro rfl;rcases hc with rfl|hc
  .rw[hfree] at e;cases e
  .rw[hfree] at hc;cases hc
 rcases hx with hk|hk
 .refine wpAny_storeName_local hk hn (λh' hn' hs=>?_) hcls
  obtain⟨oL,_,_,hoL,_⟩:=id hn
  refine h _ ⟨I.ok,I.os,I.bare,⟨λb o e n hb hx=>?_,λb o e n hb hx=>?_,I.base.free,λb o e hx=>?_,I.base.tups,I.base.pR,I.base.qL⟩,⟨_,hn',λj y v' e1 e2 e3=>?_⟩,λy c e=>?_,I.free,I.rK,λp hp=>?_,tracked ⟨oL,hoL,I.free⟩ hs,by simpa using I.len⟩ ⟨_,hs,.inl rfl⟩
  .exact(hs.2 b (dX (nq (bN e) I.ok.above))).trans (I.base.keep b o e n hb hx)
  .obtain⟨sl,e1⟩:=I.base.slot b o e n hb hx
   exact⟨sl,(hs.2 b (dX (nq (bN e) I.ok.above))).trans e1⟩
  .obtain⟨o',e1⟩:=I.base.there b o e hx
   exact⟨o',(hs.2 b (dX (nq (bN e) I.ok.above))).trans e1⟩
  .by_cases hj:j=i
   .subst hj;rw[hi] at e1;cases e1;rw[adQ hiσ] at e2;cases e2
    exact⟨u,r,.inl ⟨hk,by simp⟩⟩
   .rw[zQ (fQ hj)] at e2
    obtain⟨u',r',q⟩:=hl j y v' e1 e2 e3
    refine⟨u',r',?_⟩
    rcases q with⟨k,e⟩|⟨k,c,e,z⟩
    .refine .inl ⟨k,?_⟩;have:y≠x:=λe=>hj (Za hN e1 (e▸hi))
     simp[this,e]
    .exact .inr ⟨k,c,e,z.sameBut hs (zx y c e)⟩
  .obtain⟨w',z⟩:=I.cell y c e
   exact⟨w',z.sameBut hs (zx y c e)⟩
  .obtain⟨e,n,ne,nf,d⟩:=I.pin p hp
   exact⟨(hs.2 p.1 ne).trans e,n,ne,nf,d⟩
 .have hfn:X.fn x=au:=by
   rcases hf with z|z
   .exact z
   .rw[z] at hk;cases hk
  obtain⟨c,hc⟩:=I.ok.has x (.inl hk)
  obtain⟨w',z⟩:=I.cell x c hc
  refine wpAny_storeName_cell I.ok.kind hk hc z (λh' hc' hs=>?_)
  obtain⟨oc,hoc,amZ⟩:=id z
  refine h {s with heap:=h'} ⟨I.ok,I.os,I.bare,⟨λb o e n hb hx=>?_,λb o e n hb hx=>?_,I.base.free,λb o e hx=>?_,I.base.tups,I.base.pR,I.base.qL⟩,⟨m,hn.sameBut hs (fQ (zx x c hc)),λj y v' e1 e2 e3=>?_⟩,λy c' e=>?_,I.free,I.rK,λp hp=>?_,tracked ⟨oc,hoc,I.rK x c hc⟩ hs,by simpa using I.len⟩ ⟨c,hs,.inr hc⟩
  .exact(hs.2 b (dX (nq (bN e) (I.ok.cab x c hfn hc)))).trans (I.base.keep b o e n hb hx)
  .obtain⟨sl,e1⟩:=I.base.slot b o e n hb hx
   exact⟨sl,(hs.2 b (dX (nq (bN e) (I.ok.cab x c hfn hc)))).trans e1⟩
  .obtain⟨o',e1⟩:=I.base.there b o e hx
   exact⟨o',(hs.2 b (dX (nq (bN e) (I.ok.cab x c hfn hc)))).trans e1⟩
  .by_cases hj:j=i
   .subst hj;rw[hi] at e1;cases e1;rw[adQ hiσ] at e2;cases e2
    exact⟨u,r,.inr ⟨.inl hk,c,hc,hc'⟩⟩
   .rw[zQ (fQ hj)] at e2
    obtain⟨u',r',q⟩:=hl j y v' e1 e2 e3
    refine⟨u',r',?_⟩
    rcases q with q|⟨k,c',e,z'⟩
    .exact .inl q
    .refine .inr ⟨k,c',e,z'.sameBut hs ?_⟩;rintro rfl;exact hj (Za hN e1 (I.ok.inj _ _ _ e hc▸hi))
  .by_cases hcc:c'=c
   .subst hcc;exact⟨_,hc'⟩
   .obtain⟨w2,z2⟩:=I.cell y c' e
    exact⟨w2,z2.sameBut hs hcc⟩
  .obtain⟨e,n,ne,nf,d⟩:=I.pin p hp
   refine⟨(hs.2 p.1 ?_).trans e,n,ne,nf,d⟩
   intro q;rw[q,hoc] at e;have q':oc=p.2:=jb e;exact d w' (by rw[<-q'];exact amZ)
theorem uZ{M:Model}{A:bV}{E:Value->aG->Prop}{i:Nat}{x:Str}{v:V}{u:Value}{Q:Unit->aG->Prop}(I:Inv X pins σ H s)(hN:X.N.Nodup)(hi:X.N[i]?=aj x)(hx:Loc X.env.scope x)(r:RelV v u)
  (h:∀s',Inv X pins (σ.set i (aj v)) H s'->Q () s')(hf:X.fn x=au\/X.env.scope.names.lookup x=aj .local:=by first|exact .inl rfl|exact .inr rfl|assumption):aL M A (storeName X.env x u) Q E s:=
 PJ I hN hi hx r (λs' I' _=>h s' I') hf
theorem Inv.call'{s':aG}{ch:List az}(I:Inv X pins σ H s)(ho:s'.os=s.os)(u:Un (frs X.stack) ch H H' s.heap s'.heap)(hok:iH X.prog X.w H' s'.heap)(hg:AllBare s'.gens)
  (hch:∀b∈ch,(b∈X.ex\/X.s₀.heap.objs.size<=b)/\b≠X.env.locals/\(∀x c,X.env.cells.lookup x=aj c->c≠b)/\∀p∈X.pn++pins,p.1≠b):Inv X pins σ H' s':=by
 obtain⟨h',g',d',t',o'⟩:=s'
 have e:o'=s.os:=ho;subst e;exact I.call (g':=g') (t':=t') (d':=d') u hok hg hch
end
abbrev XK:=Value->Option az->Hp->Prop
abbrev St:=List (Option V)
abbrev VK:=V->Hp->Prop
abbrev TE:=St->Hp->VK->Prop
abbrev TT:=St->Hp->(Bool->Hp->Prop)->Prop
abbrev TA:=St->Hp->(List V->Hp->Prop)->Prop
structure Ends where
 nx:St->Hp->Prop
 rt:VK
 bk:St->Hp->Prop:=λ_ _=>False
 ct:St->Hp->Prop:=λ_ _=>False
abbrev TS:=Ends->St->Hp->Prop
def EP(X:Cx)(pins:List (az×Obj))(σ:St)(Q:VK)(u:Value)(s':aG):Prop:=∃v H',Inv X pins σ H' s'/\RelV v u/\Q v H'
def TP(X:Cx)(pins:List (az×Obj))(σ:St)(Q:Bool->Hp->Prop)(b:Bool)(s':aG):Prop:=∃H',Inv X pins σ H' s'/\Q b H'
def AP(X:Cx)(pins:List (az×Obj))(σ:St)(Q:List V->Hp->Prop)(us:List Value)(s':aG):Prop:=∃vs H',Inv X pins σ H' s'/\Vals vs us/\Q vs H'
def SP(X:Cx)(pins:List (az×Obj))(D:Ends)(f:Flow)(s':aG):Prop:=
 match f with
 |.next=>∃σ' H',Inv X pins σ' H' s'/\D.nx σ' H'
 |.brk=>∃σ' H',Inv X pins σ' H' s'/\D.bk σ' H'
 |.cont=>∃σ' H',Inv X pins σ' H' s'/\D.ct σ' H'
 |.ret u=>∃v σ' H',Inv X pins σ' H' s'/\RelV v u/\D.rt v H'
def PE(X:Cx)(e:Expr)(t:TE):Prop:=
 ∀(pins:List (az×Obj))(s:aG)(σ:St)(H:Hp)(Q:VK),Inv X pins σ H s->t σ H Q->aL (model X.prog X.w) X.A (eval e X.env) (EP X pins σ Q) X.xe s
def PT(X:Cx)(e:Expr)(t:TT):Prop:=
 ∀(pins:List (az×Obj))(s:aG)(σ:St)(H:Hp)(Q:Bool->Hp->Prop),Inv X pins σ H s->t σ H Q->aL (model X.prog X.w) X.A (isTrue e X.env (eval e X.env)) (TP X pins σ Q) X.xe s
def PW(X:Cx)(e:Expr)(t:TT):Prop:=
 ∀(whole:Sem Value)(pins:List (az×Obj))(s:aG)(σ:St)(H:Hp)(Q:Bool->Hp->Prop),Inv X pins σ H s->t σ H Q->aL (model X.prog X.w) X.A (isTrue e X.env whole) (TP X pins σ Q) X.xe s
theorem PW.pt{X:Cx}{e:Expr}{t:TT}(h:PW X e t):PT X e t:=h _
def PA(X:Cx)(es:List Expr)(t:TA):Prop:=
 ∀(pos:Pos)(pins:List (az×Obj))(s:aG)(σ:St)(H:Hp)(Q:List V->Hp->Prop),Inv X pins σ H s->t σ H Q->aL (model X.prog X.w) X.A (JM (iM pos (bG es X.env))) (AP X pins σ Q) X.xe s
def PS(X:Cx)(st:dw)(t:TS):Prop:=
 ∀(pins:List (az×Obj))(s:aG)(σ:St)(H:Hp)(D:Ends),Inv X pins σ H s->t D σ H->aL (model X.prog X.w) X.A (exec st X.env) (SP X pins D) X.xe s
def jA(X:Cx)(st:List dw)(t:TS):Prop:=
 ∀(pins:List (az×Obj))(s:aG)(σ:St)(H:Hp)(D:Ends),Inv X pins σ H s->t D σ H->aL (model X.prog X.w) X.A (execs st X.env) (SP X pins D) X.xe s
theorem bF{α:Type}{t:Sem α}{Q Q':α->aG->Prop}{M:Model}{A:bV}{E:Value->aG->Prop}{s:aG}(h:aL M A t Q E s)(hQ:∀a s,Q a s->Q' a s):aL M A t Q' E s:=oN h hQ λ_ _ x=>x
section
variable{X:Cx}
def uq(i:Nat):TE:=λσ H Q=>∃v,σ[i]?=aj (aj v)/\Q v H
def tC(v:V):TE:=λ_ H Q=>Q v H
theorem akP{i:Nat}{x:Str}{pos:Pos}(hN:X.N[i]?=aj x)(hv:Uk X.env.scope x)(hd:(x==("__debug__":Str))=aD:=by decide)(hcd:(x==("__classdict__":Str))=aD:=by decide):PE X (.Name x pos) (uq i):=by
 intro pins s σ H Q I h
 obtain⟨v,e,h⟩:=h
 obtain⟨m,hn,hl⟩:=I.loc
 obtain⟨u,r,l⟩:=hl i x v hN e hv
 have fin:EP X pins σ Q u s:=⟨v,H,I,r,h⟩
 rcases l with⟨hk,hm⟩|⟨hk,c,hc,hcell⟩
 .exact XM (wpAny_loadName_local I.ok.kind hk hn hm fin) hd
 .rcases hk with hk|hk
  .exact XM (wpAny_loadName_cell I.ok.kind hk hc hcell fin) hd
  .exact XM (wpAny_loadName_free I.ok.kind hk hc hcell fin hcd) hd
theorem bf{i j pos}:PE X (.Constant (.int i) j pos) (tC (.int i)):=λ_ _ _ H _ I h=>wpAny_Constant_int ⟨.int i,H,I.tok _,⟨_,rfl⟩,h⟩
theorem jd{b j pos}:PE X (.Constant (.bool b) j pos) (tC (.bl b)):=λ_ _ _ H _ I h=>Constant_bool ⟨.bl b,H,I,rfl,h⟩
theorem aaY{j pos}:PE X (.Constant .none j pos) (tC .non):=λ_ _ _ H _ I h=>Constant_none ⟨.non,H,I,rfl,h⟩
theorem pM{x j pos}:PE X (.Constant (.str x) j pos) (tC (.str x)):=λ_ _ _ H _ I h=>Calls.Constant_str ⟨.str x,H,I.tok _,⟨_,rfl⟩,h⟩
def Gl(X:Cx)(x:Str):Prop:=X.env.kindOf x=aj .globalImplicit
theorem aad{E:Value->aG->Prop}{pins:List (az×Obj)}{s:aG}{σ:St}{H:Hp}{x:Str}{u:Value}{pos:Pos}{Q:Value->aG->Prop}(I:Inv X pins σ H s)(hg:Gl X x)(hm:X.mg x=aj u)(h:Q u s)
  (hd:(x==("__debug__":Str))=aD:=by decide):aL (model X.prog X.w) X.A (eval (.Name x pos) X.env) Q E s:=
 adH I.ok.kind hg (Calls.loadGlobal_global (by rw[I.ok.glob];exact I.mod.glob.keeps I.bk) hm h) hd
theorem wR{E:Value->aG->Prop}{pins:List (az×Obj)}{s:aG}{σ:St}{H:Hp}{x:Str}{u:Value}{pos:Pos}{Q:Value->aG->Prop}(I:Inv X pins σ H s)(hg:Gl X x)(hm:X.mg x=ao)(hv:tK x=aj u)(h:Q u s)
  (hn:x≠"__name__":=by decide)(hd:(x==("__debug__":Str))=aD:=by decide):aL (model X.prog X.w) X.A (eval (.Name x pos) X.env) Q E s:=by
 obtain⟨mb,h1,h2⟩:=I.mod.blt
 exact adH I.ok.kind hg (Calls.loadGlobal_builtin (by rw[I.ok.glob];exact I.mod.glob.keeps I.bk) hm (by rw[I.ok.blt];exact h1.keeps I.bk) ((h2 x hn).trans hv) h) hd
theorem wI{x:Str}{v:V}{u:Value}{pos:Pos}(hg:Gl X x)(hm:X.mg x=aj u)(r:RelV v u)(hd:(x==("__debug__":Str))=aD:=by decide):PE X (.Name x pos) (tC v):=
 λ_ _ _ H _ I h=>aad I hg hm ⟨v,H,I,r,h⟩ hd
theorem lV{x:Str}{v:V}{u:Value}{pos:Pos}(hg:Gl X x)(hm:X.mg x=ao)(hv:tK x=aj u)(r:RelV v u)(hn:x≠"__name__":=by decide)(hd:(x==("__debug__":Str))=aD:=by decide):PE X (.Name x pos) (tC v):=
 λ_ _ _ H _ I h=>wR I hg hm hv ⟨v,H,I,r,h⟩ hn hd
variable{a b:Expr}{ta tb:TE}{pos:Pos}
variable{tA K8:TT}{rest:List Expr}
def acu(t u:TT):TT:=λσ H Q=>t σ H λc H1=>if c=au then u σ H1 Q else Q aD H1
def tOr(t u:TT):TT:=λσ H Q=>t σ H λc H1=>if c=au then Q au H1 else u σ H1 Q
def am0(t:TT):TT:=λσ H Q=>t σ H λc H1=>Q (!c) H1
theorem pw_and1(ha:PT X a tA):PW X (.BoolOp .And [a] pos) tA:=by
 intro wh pins s σ H Q I h;refine isTrue_and (bF (ha pins s σ H Q I h) λc s1 e=>?_);cases c with
 |true=>exact isTrue_and_nil e
 |false=>exact e
theorem pw_or1(ha:PT X a tA):PW X (.BoolOp .Or [a] pos) tA:=by
 intro wh pins s σ H Q I h;refine isTrue_or (bF (ha pins s σ H Q I h) λc s1 e=>?_);cases c with
 |false=>exact isTrue_or_nil e
 |true=>exact e
theorem pw_and(ha:PT X a tA)(hb:PW X (.BoolOp .And (b::rest) pos) K8):PW X (.BoolOp .And (a::b::rest) pos) (acu tA K8):=by
 intro wh pins s σ H Q I h;refine isTrue_and (bF (ha pins s σ H _ I h) λc s1 aP=>?_)
 obtain⟨H1,I1,q1⟩:=aP
 cases c with
 |true=>exact hb wh pins s1 σ H1 Q I1 q1
 |false=>exact⟨H1,I1,q1⟩
theorem pw_or(ha:PT X a tA)(hb:PW X (.BoolOp .Or (b::rest) pos) K8):PW X (.BoolOp .Or (a::b::rest) pos) (tOr tA K8):=by
 intro wh pins s σ H Q I h;refine isTrue_or (bF (ha pins s σ H _ I h) λc s1 aP=>?_)
 obtain⟨H1,I1,q1⟩:=aP
 cases c with
 |true=>exact⟨H1,I1,q1⟩
 |false=>exact hb wh pins s1 σ H1 Q I1 q1
theorem akQ(ha:PT X a tA):PT X (.UnaryOp .Not a pos) (am0 tA):=by
 intro pins s σ H Q I h;exact isTrue_not (ha pins s σ H (λc H1=>Q (!c) H1) I h)
def alS(ta tb:TE):TE:=λσ H Q=>ta σ H λx H1=>∃c,x=.bl c/\if c=au then tb σ H1 Q else Q (.bl aD) H1
def am1(ta tb:TE):TE:=λσ H Q=>ta σ H λx H1=>∃c,x=.bl c/\if c=au then Q (.bl au) H1 else tb σ H1 Q
def alT(ta:TE):TE:=λσ H Q=>ta σ H λx H1=>∃c,x=.bl c/\Q (.bl (!c)) H1
theorem akR{op}{t:TE}(h:PE X a t):PE X (.BoolOp op [a] pos) t:=λpins s σ H Q I hw=>BoolOp_one (h pins s σ H Q I hw)
theorem akS(ha:PE X a ta)(hb:PE X (.BoolOp .And (b::rest) pos) tb):PE X (.BoolOp .And (a::b::rest) pos) (alS ta tb):=by
 intro pins s σ H Q I h;refine BoolOp_and (bF (ha pins s σ H _ I h) λv s1 aP=>?_)
 obtain⟨x,H1,I1,r1,q1⟩:=aP
 obtain⟨c,rfl,q1⟩:=q1
 cases r1;refine sY ?_;cases c with
 |true=>exact hb pins s1 σ H1 Q I1 q1
 |false=>exact⟨.bl aD,H1,I1,rfl,q1⟩
theorem alU(ha:PE X a ta)(hb:PE X (.BoolOp .Or (b::rest) pos) tb):PE X (.BoolOp .Or (a::b::rest) pos) (am1 ta tb):=by
 intro pins s σ H Q I h;refine BoolOp_or (bF (ha pins s σ H _ I h) λv s1 aP=>?_)
 obtain⟨x,H1,I1,r1,q1⟩:=aP
 obtain⟨c,rfl,q1⟩:=q1
 cases r1;refine sY ?_;cases c with
 |false=>exact hb pins s1 σ H1 Q I1 q1
 |true=>exact⟨.bl au,H1,I1,rfl,q1⟩
theorem akT(ha:PE X a ta):PE X (.UnaryOp .Not a pos) (alT ta):=by
 intro pins s σ H Q I h;refine UnaryOp_ (bF (ha pins s σ H _ I h) λv s1 aP=>?_)
 obtain⟨x,H1,I1,r1,q1⟩:=aP
 obtain⟨c,rfl,q1⟩:=q1
 cases r1;exact not_of (sY ⟨.bl (!c),H1,I1,rfl,q1⟩)
def tIf(t:TT)(ta tb:TE):TE:=λσ H Q=>t σ H λc H1=>if c=au then ta σ H1 Q else tb σ H1 Q
theorem aik{c:Expr}(hc:PT X c tA)(ha:PE X a ta)(hb:PE X b tb):PE X (.IfExp c a b pos) (tIf tA ta tb):=by
 intro pins s σ H Q I h;refine wpAny_IfExp (bF (hc pins s σ H _ I h) λd s1 aP=>?_)
 obtain⟨H1,I1,q1⟩:=aP
 cases d with
 |true=>exact ha pins s1 σ H1 Q I1 q1
 |false=>exact hb pins s1 σ H1 Q I1 q1
end
def bK(K:aJ)(H:Hp)(a:az)(xs:List V):Prop:=
 Rd H a (.lst xs)\/
  ∃(o:Obj)(its:Array Value)(n:Nat),K.lookup a=aj o/\o.cls=.type "list"/\o.dict=ao/\o.data=.seq its n/\its.size<=bU/\Vals xs its.toList
def cz(K:aJ)(H:Hp)(a:az)(xs:List V):Prop:=
 Rd H a (.tup xs)\/
  ∃(o:Obj)(its:Array Value)(n:Nat),K.lookup a=aj o/\o.cls=.type "tuple"/\o.data=.seq its n/\its.size<=bU/\Vals xs its.toList
def am2:Value->Option V
 |.none=>aj .non
 |.bool b=>aj (.bl b)
 |.int i _=>aj (.int i)
 |.str x _=>aj (.str x)
 |.bytes b _=>aj (.pZ b)
 |.float b _=>aj (.flt b)
 |.ref a=>aj (.ref a)
 |.type n=>aj (.ty n)
 |_=>ao
theorem RelV.abs{x:V}{u:Value}(r:RelV x u):am2 u=aj x:=by
 cases x with
 |non=>cases r;rfl
 |bl _=>cases r;rfl
 |int _=>obtain⟨t,rfl⟩:=r;rfl
 |str _=>obtain⟨t,rfl⟩:=r;rfl
 |pZ _=>obtain⟨t,rfl⟩:=r;rfl
 |flt _=>obtain⟨t,rfl⟩:=r;rfl
 |ref _=>cases r;rfl
 |ty _=>cases r;rfl
theorem RelV.inj{x y:V}{u:Value}(r:RelV x u)(q:RelV y u):x=y:=jb (r.abs.symm.trans q.abs)
theorem Vals.inj:∀{xs ys:List V}{us:List Value},Vals xs us->Vals ys us->xs=ys
 |_,_,_,.nil,.nil=>rfl
 |_,_,_,.cons r t,.cons r' t'=>by rw[r.inj r',Vals.inj t t']
section
variable{X:Cx}{pins:List (az×Obj)}{σ:St}{H:Hp}{s:aG}{a:az}{xs ys:List V}
theorem bK.of{K:aJ}(h:H a=aj (.lst xs)):bK K H a xs:=.inl (.inl h)
theorem cz.of{K:aJ}(h:H a=aj (.tup xs)):cz K H a xs:=.inl (.inl h)
theorem Inv.list(I:Inv X pins σ H s)(h:bK X.K H a xs):∃its:List Value,Vals xs its/\PlainL s.heap a its.toArray/\xs.length<=bU:=by
 rcases h with h|⟨o,its,n,hk,hc,hd,hs,hz,r⟩
 .obtain⟨z,its,n,r,e⟩:=h.ok I.hok
  exact⟨its,r,⟨_,n,e,rfl,rfl,rfl⟩,z⟩
 .refine⟨its.toList,r,⟨o,n,I.jg a o hk,hc,hd,by simpa using hs⟩,?_⟩
  have e:=r.length;simp only[kZ] at e;lia
theorem Inv.tuple(I:Inv X pins σ H s)(h:cz X.K H a xs):∃its:List Value,Vals xs its/\IsTup s.heap a its.toArray/\xs.length<=bU:=by
 rcases h with h|⟨o,its,n,hk,hc,hs,hz,r⟩
 .obtain⟨z,its,r,p⟩:=h.ok I.hok
  exact⟨its,r,p,z⟩
 .refine⟨its.toList,r,⟨o,I.jg a o hk,hc,n,by simpa using hs⟩,?_⟩
  have e:=r.length;simp only[kZ] at e;lia
theorem Inv.Qt(I:Inv X pins σ H s)(h:bK X.K H a xs)(h':bK X.K H a ys):xs=ys:=by
 obtain⟨its,r,⟨o,n,e,_,_,d⟩,_⟩:=I.list h
 obtain⟨its',r',⟨o',n',e',_,_,d'⟩,_⟩:=I.list h'
 rw[e] at e';cases e';rw[d] at d';injection d' with d1 _
 have:its=its':=by simpa using congrArg afR d1
 subst this;exact r.inj r'
theorem Inv.PK(I:Inv X pins σ H s)(h:cz X.K H a xs)(h':cz X.K H a ys):xs=ys:=by
 obtain⟨its,r,⟨o,e,_,n,d⟩,_⟩:=I.tuple h
 obtain⟨its',r',⟨o',e',_,n',d'⟩,_⟩:=I.tuple h'
 rw[e] at e';cases e';rw[d] at d';injection d' with d1 _
 have:its=its':=by simpa using congrArg afR d1
 subst this;exact r.inj r'
end
abbrev Cx.wish(X:Cx)(E:Value->aG->Prop):Cx:={X with xe:=E}
abbrev Cx.vN(X:Cx):Cx:=X.wish λ_ _=>False
theorem Cx.Ok.wish{X:Cx}(ok:X.Ok)(E:Value->aG->Prop):(X.wish E).Ok:=
 ⟨ok.mod,ok.kind,ok.glob,ok.blt,ok.above,ok.inj,ok.has,ok.cab,ok.hd,ok.frames,ok.stk,ok.exf,ok.bs,ok.uy,ok.Gv,ok.KN,ok.qM,ok.zu⟩
theorem Cx.Ok.tZ{X:Cx}{E:Value->aG->Prop}(ok:(X.wish E).Ok):X.Ok:=
 ⟨ok.mod,ok.kind,ok.glob,ok.blt,ok.above,ok.inj,ok.has,ok.cab,ok.hd,ok.frames,ok.stk,ok.exf,ok.bs,ok.uy,ok.Gv,ok.KN,ok.qM,ok.zu⟩
section
variable{X:Cx}{pins:List (az×Obj)}{σ:St}{H:Hp}{s:aG}{E:Value->aG->Prop}
theorem Inv.wish(I:Inv X pins σ H s)(E:Value->aG->Prop):Inv (X.wish E) pins σ H s:=⟨I.ok.wish E,I.os,I.bare,I.base,I.loc,I.cell,I.free,I.rK,I.pin,I.hok,I.len⟩
theorem Inv.tZ(I:Inv (X.wish E) pins σ H s):Inv X pins σ H s:=⟨I.ok.tZ,I.os,I.bare,I.base,I.loc,I.cell,I.free,I.rK,I.pin,I.hok,I.len⟩
theorem SP.tZ{D:Ends}{f:Flow}{s':aG}(h:SP (X.wish E) pins D f s'):SP X pins D f s':=by
 cases f with
 |next=>obtain⟨σ',H',I,q⟩:=h;exact⟨σ',H',I.tZ,q⟩
 |brk=>obtain⟨σ',H',I,q⟩:=h;exact⟨σ',H',I.tZ,q⟩
 |cont=>obtain⟨σ',H',I,q⟩:=h;exact⟨σ',H',I.tZ,q⟩
 |ret u=>obtain⟨v,σ',H',I,r,q⟩:=h;exact⟨v,σ',H',I.tZ,r,q⟩
theorem PE.vN{e:Expr}{t:TE}(h:PE X.vN e t):PE X e t:=λpins s σ H Q I hw=>
 oN (h pins s σ H Q (I.wish _) hw) (λ_ _ ⟨v,H',I',r,q⟩=>⟨v,H',I'.tZ,r,q⟩) λ_ _ z=>rC z
theorem PT.vN{e:Expr}{t:TT}(h:PT X.vN e t):PT X e t:=λpins s σ H Q I hw=>
 oN (h pins s σ H Q (I.wish _) hw) (λ_ _ ⟨H',I',q⟩=>⟨H',I'.tZ,q⟩) λ_ _ z=>rC z
theorem jA.vN{st:List dw}{t:TS}(h:jA X.vN st t):jA X st t:=λpins s σ H D I hw=>
 oN (h pins s σ H D (I.wish _) hw) (λ_ _ q=>q.tZ) λ_ _ z=>rC z
end
section
variable{X:Cx}{st:dw}{rest:List dw}{t u:TS}{e:Expr}{te:TE}{pos:Pos}
def alV:TS:=λD σ H=>D.nx σ H
def acv(t u:TS):TS:=λD σ H=>t {D with nx:=u D} σ H
theorem ajw:jA X [] alV:=λ_ _ σ H _ I h=>M6 ⟨σ,H,I,h⟩
theorem ail(h1:PS X st t)(h2:jA X rest u):jA X (st::rest) (acv t u):=by
 intro pins s σ H D I h;refine aeM (bF (h1 pins s σ H {D with nx:=u D} I h) λf s1 q=>?_);cases f with
 |next=>
  obtain⟨σ',H',I',q⟩:=q
  exact h2 pins s1 σ' H' D I' q
 |ret v=>exact q
 |brk=>exact q
 |cont=>exact q
theorem ajx(h1:PS X st t):jA X [st] t:=by
 intro pins s σ H D I h;refine aeM (bF (h1 pins s σ H D I h) λf s1 q=>?_);cases f with
 |next=>exact M6 q
 |ret v=>exact q
 |brk=>exact q
 |cont=>exact q
theorem Inv.quiet{pins:List (az×Obj)}{σ:St}{H:Hp}{s:aG}(I:Inv X pins σ H s):interactive X.env=aD:=by simp[interactive,I.ok.kind]
def alW(te:TE):TS:=λD σ H=>te σ H λ_ H1=>D.nx σ H1
theorem ajy(he:PE X e te)(hs:wF e ao pos.line X.env=pure aD:=by rfl):PS X (.Expr e pos) (alW te):=by
 intro pins s σ H D I h;exact wpAny_Expr_any (bF (he pins s σ H _ I h) λv s1 ⟨x,H1,I1,r1,q1⟩=>⟨σ,H1,I1,q1⟩) I.quiet hs
def am3(te:TE):TS:=λD σ H=>te σ H D.rt
theorem aaZ(he:PE X e te):PS X (.Return (aj e) pos) (am3 te):=by
 intro pins s σ H D I h;exact wpAny_Return_some (bF (he pins s σ H _ I h) λv s1 ⟨x,H1,I1,r1,q1⟩=>⟨x,σ,H1,I1,r1,q1⟩)
def am4(c:TT)(t u:TS):TS:=λD σ H=>c σ H λb H1=>if b=au then t D σ H1 else u D σ H1
theorem alX{c:Expr}{a b:List dw}{tc:TT}(hc:PT X c tc)(ha:jA X a t)(hb:jA X b u):PS X (.If c a b pos) (am4 tc t u):=by
 intro pins s σ H D I h;refine wpAny_If (bF (hc pins s σ H _ I h) λd s1 aP=>?_)
 obtain⟨H1,I1,q1⟩:=aP
 cases d with
 |true=>exact ha pins s1 σ H1 D I1 q1
 |false=>exact hb pins s1 σ H1 D I1 q1
end
abbrev TG:=V->St->Hp->(St->Hp->Prop)->Prop
abbrev uz:=List V->St->Hp->(St->Hp->Prop)->Prop
def PG(X:Cx)(target:Expr)(t:TG):Prop:=
 ∀(pins:List (az×Obj))(s:aG)(σ:St)(H:Hp)(v:V)(u:Value)(Q:St->Hp->Prop),Inv X pins σ H s->RelV v u->t v σ H Q->
  aL (model X.prog X.w) X.A (assign target X.env u) (λ_ s'=>∃σ' H',Inv X pins σ' H' s'/\Q σ' H') X.xe s
def GX(X:Cx)(ts:List Expr)(t:uz):Prop:=
 ∀(pins:List (az×Obj))(s:aG)(σ:St)(H:Hp)(vs:List V)(us:List Value)(Q:St->Hp->Prop),Inv X pins σ H s->Vals vs us->t vs σ H Q->
  aL (model X.prog X.w) X.A (Ab ((rD ts X.env).map (·.2)) us) (λ_ s'=>∃σ' H',Inv X pins σ' H' s'/\Q σ' H') X.xe s
abbrev Tr:=V->V->V->Hp->(Hp->Prop)->Prop
def vC(X:Cx)(t:Tr):Prop:=
 ∀(pins:List (az×Obj))(s:aG)(σ:St)(H:Hp)(o i v:V)(ov iv u:Value)(Q:Hp->Prop),Inv X pins σ H s->RelV o ov->RelV i iv->RelV v u->t o i v H Q->
  aL (model X.prog X.w) X.A (setItem ov iv u) (λ_ s'=>∃H',Inv X pins σ H' s'/\Q H') X.xe s
section
variable{X:Cx}{pos:Pos}
def yR(i:Nat):TG:=λv σ H Q=>Q (σ.set i (aj v)) H
theorem gF{i:Nat}{x:Str}(hN:X.N.Nodup)(hi:X.N[i]?=aj x)(hx:Loc X.env.scope x)(hf:X.fn x=au\/X.env.scope.names.lookup x=aj .local:=by first|exact .inl rfl|exact .inr rfl|assumption):PG X (.Name x pos) (yR i):=by
 intro pins s σ H v u Q I r h;exact Hv (uZ I hN hi hx r (λs' I'=>⟨_,H,I',h⟩) hf)
def acw:uz:=λvs σ H Q=>vs=[]/\Q σ H
def abS(t:TG)(u:uz):uz:=λvs σ H Q=>∃v r,vs=v::r/\t v σ H λσ' H'=>u r σ' H' Q
theorem wJ:GX X [] acw:=by
 intro pins s σ H vs us Q I r h
 obtain⟨e,h⟩:=h
 subst e;cases r;exact assignInOrder_nil ⟨σ,H,I,h⟩
theorem iy{e:Expr}{es:List Expr}{t:TG}{u:uz}(h1:PG X e t)(h2:GX X es u)
  (hs:(rD (e::es) X.env).map (·.2)=assign e X.env::(rD es X.env).map (·.2):=by rfl):GX X (e::es) (abS t u):=by
 intro pins s σ H vs us Q I r h
 obtain⟨v,vr,e1,h⟩:=h
 subst e1;cases r with
 |cons r rr=>
  rw[hs];refine assignInOrder_cons (bF (h1 pins s σ H _ _ _ I r h) λ_ s1 aP=>?_)
  obtain⟨σ1,H1,I1,q1⟩:=aP
  exact h2 pins s1 σ1 H1 _ _ Q I1 rr q1
def acy(K:aJ)(n:Nat)(t:uz):TG:=λv σ H Q=>∃a xs,v=.ref a/\cz K H a xs/\xs.length=n/\t xs σ H Q
theorem Bs{es:List Expr}{k:Nat}{t:uz}{n:Nat}(hc:X.calm=au)(h:GX X es t)
  (hn:(rD es X.env).length=n:=by rfl)(hst:(rD es X.env).findIdx? (·.1)=ao:=by rfl):PG X (.Tuple es k pos) (acy X.K n t):=by
 intro pins s σ H v u Q I r hw
 obtain⟨a,xs,e1,hq,hl,hw⟩:=hw
 subst e1;cases r
 obtain⟨its,rv,ht,hz⟩:=I.tuple hq
 refine assign_Tuple_tuple (I.ok.hd hc) ht (by simp[hn,<-hl,rv.length]) hst λh' hx=>?_
 have I1:Inv X pins σ H {s with heap:=h'}:=I.kept (t':=s.toks) λb o e=>hx b o (dX (bN e)) e
 exact h pins _ σ H xs _ Q I1 (by simpa using rv) hw
def am5(to ti:TE)(t:Tr):TG:=λv σ H Q=>to σ H λo H1=>ti σ H1 λi H2=>t o i v H2 λH3=>Q σ H3
theorem akU{o i:Expr}{to ti:TE}{t:Tr}(ho:PE X o to)(hi:PE X i ti)(hs:vC X t)
  (ha:∀v,assign (.Subscript o i pos) X.env v=(do
   let ov <-pL [v] (eval o X.env)
   let iv <-pL [v,ov] (eval i X.env)
   tW pos
   pL [v,ov,iv] (setItem ov iv v)
   release [v,ov,iv] []):=by intro _;rfl):PG X (.Subscript o i pos) (am5 to ti t):=by
 intro pins s σ H v u Q I r h;rw[ha];refine aB (jL (bF (ho pins s σ H _ I h) λov s1 aP=>?_))
 obtain⟨x,H1,I1,r1,q1⟩:=aP
 refine aB (jL (bF (hi pins s1 σ H1 _ I1 q1) λiv s2 aP=>?_))
 obtain⟨y,H2,I2,r2,q2⟩:=aP
 refine aB (tG (aB (jL (bF (hs pins s2 σ H2 x y v ov iv u _ I2 r1 r2 r q2) λ_ s3 aP=>?_))))
 obtain⟨H3,I3,q3⟩:=aP
 exact wpAny_release ⟨σ,H3,I3,q3⟩
def CK(te:TE)(g:TG):TS:=λD σ H=>te σ H λx H1=>g x σ H1 D.nx
theorem aa0{tg e:Expr}{te:TE}{g:TG}(he:PE X e te)(hg:PG X tg g)(hs:Ac [tg] e pos.line X.env=pure aD:=by rfl)(hw:Ad [tg] e X.env=pure ao:=by rfl)
  (h1:(rD [tg] X.env).map (·.2)=[assign tg X.env]:=by rfl):PS X (.Assign [tg] e pos) (CK te g):=by
 intro pins s σ H D I h;refine wpAny_Assign_stores (bF (he pins s σ H _ I h) λv s1 aP=>?_) hs hw
 obtain⟨x,H1,I1,r1,q1⟩:=aP
 rw[h1];exact bF (hg pins s1 σ H1 x v _ I1 r1 q1) λ_ s2 q=>q
theorem aa1{i:Nat}{x:Str}{e:Expr}{te:TE}{pos':Pos}(hN:X.N.Nodup)(hi:X.N[i]?=aj x)(hx:Loc X.env.scope x)(he:PE X e te)(hs:wF e (aj (.Name x pos')) pos.line X.env=pure aD:=by rfl)(hf:X.fn x=au\/X.env.scope.names.lookup x=aj .local:=by first|exact .inl rfl|exact .inr rfl|assumption):
  PS X (.Assign [.Name x pos'] e pos) (CK te (yR i)):=by
 intro pins s σ H D I h;refine wpAny_Assign_Name (bF (he pins s σ H _ I h) λv s1 aP=>?_) hs
 obtain⟨y,H1,I1,r1,q1⟩:=aP
 exact uZ I1 hN hi hx r1 (λs2 I2=>⟨_,H1,I2,q1⟩) hf
def am6(i j:Nat)(ta:TA):TS:=λD σ H=>ta σ H λvs H1=>∃v w,vs=[v,w]/\D.nx ((σ.set i (aj v)).set j (aj w)) H1
theorem akV{i j:Nat}{x y:Str}{a b:Expr}{ta:TA}{px py pt:Pos}{kt k2 nZ}(hc:X.calm=au)(hN:X.N.Nodup)(hi:X.N[i]?=aj x)(hj:X.N[j]?=aj y)(hij:i≠j)
  (hx:X.env.scope.names.lookup x=aj .local)(hy:X.env.scope.names.lookup y=aj .local)(ha:PA X [a,b] ta)
  (hw:Ad [.Tuple [.Name x px,.Name y py] kt pt] (.Tuple [a,b] k2 nZ) X.env=pure (aj [x,y]))
  (hs:Ac [.Tuple [.Name x px,.Name y py] kt pt] (.Tuple [a,b] k2 nZ) pos.line X.env=pure aD:=by rfl):
  PS X (.Assign [.Tuple [.Name x px,.Name y py] kt pt] (.Tuple [a,b] k2 nZ) pos) (am6 i j ta):=by
 intro pins s σ H D I h;rw[exec_Assign_arm];refine aB (tG ?_);rw[hs];refine aB (aW ?_);rw[aY (by decide)];refine aB (Tuple_ (bF (ha _ pins s σ H _ I h) λus s1 aP=>?_))
 obtain⟨vs,H1,I1,r1,q1⟩:=aP
 obtain⟨v,w,e1,q1⟩:=q1
 subst e1
 obtain⟨u1,u2,rfl,rv,rw'⟩:∃u1 u2,us=[u1,u2]/\RelV v u1/\RelV w u2:=by
  cases r1 with
  |cons p q=>
   cases q with
   |cons p' q'=>
    cases q'
    exact⟨_,_,rfl,p,p'⟩
 refine j0 ?_ (by show 2<=bU;decide);have I2:Inv X pins σ H1 {s1 with heap:=s1.heap.push {cls:=.type "tuple",data:=.seq [u1,u2].toArray}}:=I1.kept (t':=s1.toks) λb o e=>bR _ e
 rw[hw];refine aB (aW ?_);show aL (model X.prog X.w) X.A (do rule "assign.swapped-stores";let items <-Xr (.ref s1.heap.objs.size) 2 ao;Ab [λv=>u0 X.env y v,λv=>u0 X.env x v] items.reverse;pure PL) _ _ _;refine aB (qp (aB (unpackItems_tuple (items:=#[u1,u2]) (I.ok.hd hc) (IsTup.new s1.heap _) λh' hx'=>?_)));have I3:=I2.kept (h':=h') (t':=s1.toks) λb o e=>hx' b o (dX (bN e)) e
 show aL _ _ (Ab [λv=>u0 X.env y v,λv=>u0 X.env x v] [u2,u1] >>= λ_=>pure PL) _ _ _;refine aB (assignInOrder_cons (HH (uZ I3 hN hj (.inl hy) rw' (λs2 I4=>?_) (.inr hy))));refine assignInOrder_cons (HH (uZ I4 hN hi (.inl hx) rv (λs3 I5=>assignInOrder_nil (aW ?_)) (.inr hx)));rw[NK _ _ (fQ hij)] at I5
 exact⟨_,H1,I5,q1⟩
end
section
variable{X:Cx}{pos:Pos}
def aa2(c:TT)(tb:TS):TS:=λD σ H=>∃W:Nat->St->Hp->Prop,(∃m,W m σ H)/\∀m σ H,W m σ H->
 c σ H λb H1=>if b=au then ∃N:St->Hp->Prop,(∀σ' H',N σ' H'->∃m',m'<m/\W m' σ' H')/\tb {D with nx:=N,ct:=N,bk:=D.nx} σ H1 else D.nx σ H1
theorem aim{c:Expr}{body:List dw}{tc:TT}{tb:TS}(hp:PN (model X.prog X.w) X.A X.env X.xe)(hc:PT X c tc)(hb:jA X body tb):PS X (.While c body [] pos) (aa2 tc tb):=by
 intro pins s σ H D I h
 obtain⟨W,⟨m0,w0⟩,turn⟩:=h
 refine wpAny_While (codeAny_whileLoop (λn s'=>∃σ' H',Inv X pins σ' H' s'/\W n σ' H') ?_ m0 ⟨σ,H,I,w0⟩);rintro n s1 ⟨σ1,H1,I1,w1⟩;refine zW hp (bF (hc pins s1 σ1 H1 _ I1 (turn n σ1 H1 w1)) λb s2 aP=>?_)
 obtain⟨H2,I2,q2⟩:=aP
 cases b with
 |true=>
  obtain⟨N,hN,q2⟩:=q2
  rw[aZ rfl];refine zW hp (bF (hb pins s2 σ1 H2 _ I2 q2) λf s3 q3=>?_);cases f with
  |next=>
   obtain⟨σ3,H3,I3,n3⟩:=q3
   obtain⟨m',hm,w3⟩:=hN σ3 H3 n3
   exact⟨m',hm,σ3,H3,I3,w3⟩
  |cont=>
   obtain⟨σ3,H3,I3,n3⟩:=q3
   obtain⟨m',hm,w3⟩:=hN σ3 H3 n3
   exact⟨m',hm,σ3,H3,I3,w3⟩
  |brk=>exact q3
  |ret v=>exact q3
 |false=>
  rw[aY iw];exact M6 ⟨σ1,H2,I2,q2⟩
end
structure It where
 go:Nat->Hp->Prop
 xG:Nat->Hp->V->Hp->Prop
 stop:Nat->Hp->Prop
def jH(X:Cx)(pins:List (az×Obj))(H:Hp)(b:az):Prop:=
 H b=ao/\b≠X.env.locals/\b∉X.fs/\(b∈X.ex\/X.s₀.heap.objs.size<=b)/\(∀x c,X.env.cells.lookup x=aj c->c≠b)/\∀p∈X.pn++pins,p.1≠b
theorem Inv.vD{X:Cx}{pins:List (az×Obj)}{σ:St}{H H':Hp}{s:aG}{b:az}(I:Inv X pins σ H s)(hb:s.heap.objs.size<=b)(hn:H' b=ao):jH X pins H' b:=by
 refine⟨hn,tL (nq I.lt hb),I.amY hb,.inr (ju I.sz hb),λx c e z=>?_,λp hp z=>?_⟩
 .obtain⟨v,q⟩:=I.cell x c e
  exact absurd (nq q.lt (by rw[z];exact hb)) (Aa _)
 .exact absurd (nq (bN (I.pin p hp).1) (by rw[z];exact hb)) (Aa _)
structure Turn(P:bB)(w:bA)(K:aJ)(tg:Expr)(J:It)(fp:List az)(it:az)(tn:Nat->bh->Prop):Prop where
 mem:it∈fp
 obj:∀i h,tn i h->∀b∈fp,∃o,h.get? b=aj o/\∀v,o.data≠.cell v
 keep:∀i h h',tn i h->(∀b∈fp,∀o,h.get? b=aj o->h'.get? b=aj o)->tn i h'
 item:∀(X:Cx),X.prog=P->X.w=w->X.K=K->X.calm=au->∀(i:Nat)(pins:List (az×Obj))(s:aG)(σ:St)(H:Hp)(E:Value->aG->Prop),Inv X pins σ H s->(∀b∈fp,jH X pins H b)->tn i s.heap->J.go i H->
  aL (model P w) X.A (jn (.ref it)) (λr s1=>∃u,r=aj u/\
   aL (model P w) X.A (xY tg (.ref it) u) (λ_ s2=>∃x H',Inv X pins σ H' s2/\RelV x u/\J.xG i H x H'/\tn (i+1) s2.heap/\∀b∈fp,H' b=ao) E s1) E s
 done:∀(X:Cx),X.prog=P->X.w=w->X.K=K->X.calm=au->∀(i:Nat)(pins:List (az×Obj))(s:aG)(σ:St)(H:Hp)(E:Value->aG->Prop),Inv X pins σ H s->(∀b∈fp,jH X pins H b)->tn i s.heap->J.stop i H->
  aL (model P w) X.A (jn (.ref it)) (λr s1=>r=ao/\Inv X pins σ H s1) E s
 self:∀(A:bV)(i:Nat)(s:aG)(Q:Value->aG->Prop)(E:Value->aG->Prop),tn i s.heap->Q (.ref it) s->aL (model P w) A (Bt (.ref it)) Q E s
abbrev TI:=St->Hp->(It->Hp->Prop)->Prop
def PIE(X:Cx)(pins:List (az×Obj))(σ:St)(tg:Expr)(R:It->Hp->Prop)(itv:Value)(s2:aG):Prop:=
 ∃(it:az)(fp:List az)(tn:Nat->bh->Prop)(J:It)(H':Hp),itv=.ref it/\Inv X pins σ H' s2/\Turn X.prog X.w X.K tg J fp it tn/\tn 0 s2.heap/\(∀b∈fp,jH X pins H' b)/\R J H'
def PI(X:Cx)(tg iter:Expr)(wi:TI):Prop:=
 ∀(pins:List (az×Obj))(s:aG)(σ:St)(H:Hp)(R:It->Hp->Prop),Inv X pins σ H s->wi σ H R->
  aL (model X.prog X.w) X.A (eval iter X.env) (λv s1=>aL (model X.prog X.w) X.A (Bt v) (PIE X pins σ tg R) X.xe s1) X.xe s
theorem SQ{M:Model}{A:bV}{E:Value->aG->Prop}{s:aG}{tg:Expr}{it:az}{u:Value}{o:Obj}{n:String}{vs:Array Value}{Q:Unit->aG->Prop}(ho:s.heap.get? it=aj o)(hc:o.cls=.type n)(hd:o.data=.fields vs)
  (hn:["enumerate","zip","dict_itemiterator","dict_reverseitemiterator","odict_iterator","itertools.zip_longest","itertools.pairwise"].contains n=aD)(hQ:Q () s):aL M A (xY tg (.ref it) u) Q E s:=by
 unfold xY;cases tg<;>first
  |exact aW hQ
  |(cases u<;>first
    |exact aW hQ
    |(refine aB (Ja ho ?_)
      rw[hc,hd];show aL M A (if(["enumerate","zip","dict_itemiterator","dict_reverseitemiterator","odict_iterator","itertools.zip_longest","itertools.pairwise"].contains n&&vs[0]?==aj (iC _))=au then _ else _) Q E s;rw[aY (by intro h;rw[hn,Wv] at h;cases h)];exact aW hQ))
def Ul(K:aJ)(a:az):It:=
 ⟨λi H=>∃xs x,bK K H a xs/\xs[i]?=aj x,λi H x H'=>H'=H/\∀xs,bK K H a xs->xs[i]?=aj x,λi H=>∃xs,bK K H a xs/\xs.length<=i⟩
def Um(K:aJ)(a:az):It:=
 ⟨λi H=>∃xs x,cz K H a xs/\xs[i]?=aj x,λi H x H'=>H'=H/\∀xs,cz K H a xs->xs[i]?=aj x,λi H=>∃xs,cz K H a xs/\xs.length<=i⟩
def K9(lo:Int)(n:Nat):It:=⟨λi _=>i<n,λi H x H'=>H'=H/\x=.int (lo+i),λi _=>n<=i⟩
theorem ahu{P:bB}{w:bA}{K:aJ}{tg:Expr}(a it:az):Turn P w K tg (Ul K a) [it] it (λi h=>h.IsListIter it a i) where
 mem:=by simp
 obj:=λi h st b hb=>by
  have e:b=it:=by simpa using hb
  subst e
  obtain⟨o,e,c,d⟩:=st
  exact⟨o,e,λv z=>by rw[d] at z;cases z⟩
 keep:=λi h h' st k=>st.at λo e=>k it (by simp) o e
 item:=by
  intro X hP hw hK hc i pins s σ H E I hf st hg;subst hP hw hK
  obtain⟨xs,x,hq,hx⟩:=hg
  obtain⟨its,rv,p,hz⟩:=I.list hq
  obtain⟨u,hu,ru⟩:=rv.get hx
  obtain⟨f0,f1,f2,f3,f4,f5⟩:=hf it (by simp)
  refine adR st p.isList (x:=u) (by simpa using hu) λh' st' sb=>?_
  have I1:Inv X pins σ H {s with heap:=h'}:=I.turned (t':=s.toks) (λb o hb e=>(sb.2 b hb).trans e) f0 f1 f3 f4 f5
  obtain⟨o,e,c,d⟩:=id st'
  exact⟨u,rfl,SQ (s:={s with heap:=h'}) e c d (by decide) ⟨x,H,I1,ru,⟨rfl,λys hy=>by rw[I.Qt hy hq];exact hx⟩,st',λb hb=>(hf b hb).1⟩⟩
 done:=by
  intro X hP hw hK hc i pins s σ H E I hf st hg;subst hP hw hK
  obtain⟨xs,hq,hx⟩:=hg
  obtain⟨its,rv,p,hz⟩:=I.list hq
  obtain⟨f0,f1,f2,f3,f4,f5⟩:=hf it (by simp)
  have hl:=rv.length;exact adW (I.ok.hd hc) st p.isList (by simp;lia) λh' eb=>⟨rfl,I.turned (t':=s.toks) (λb o hb e=>eb b o hb e) f0 f1 f3 f4 f5⟩
 self:=λ_ _ _ _ _ st h=>wpAny_pyIter_listiter st h
theorem agQ{P:bB}{w:bA}{K:aJ}{tg:Expr}(a it:az):Turn P w K tg (Um K a) [it] it (λi h=>h.IsTupleIter it a i) where
 mem:=by simp
 obj:=λi h st b hb=>by
  have e:b=it:=by simpa using hb
  subst e
  obtain⟨o,e,c,d⟩:=st
  exact⟨o,e,λv z=>by rw[d] at z;cases z⟩
 keep:=λi h h' st k=>st.at λo e=>k it (by simp) o e
 item:=by
  intro X hP hw hK hc i pins s σ H E I hf st hg;subst hP hw hK
  obtain⟨xs,x,hq,hx⟩:=hg
  obtain⟨its,rv,p,hz⟩:=I.tuple hq
  obtain⟨u,hu,ru⟩:=rv.get hx
  obtain⟨f0,f1,f2,f3,f4,f5⟩:=hf it (by simp)
  refine wpAny_pyNext_tuple_item st (show s.heap.IsTuple a its.toArray from p) (x:=u) (by simpa using hu) λh' st' sb=>?_
  have I1:Inv X pins σ H {s with heap:=h'}:=I.turned (t':=s.toks) (λb o hb e=>(sb.2 b hb).trans e) f0 f1 f3 f4 f5
  obtain⟨o,e,c,d⟩:=id st'
  exact⟨u,rfl,SQ (s:={s with heap:=h'}) e c d (by decide) ⟨x,H,I1,ru,⟨rfl,λys hy=>by rw[I.PK hy hq];exact hx⟩,st',λb hb=>(hf b hb).1⟩⟩
 done:=by
  intro X hP hw hK hc i pins s σ H E I hf st hg;subst hP hw hK
  obtain⟨xs,hq,hx⟩:=hg
  obtain⟨its,rv,p,hz⟩:=I.tuple hq
  obtain⟨f0,f1,f2,f3,f4,f5⟩:=hf it (by simp)
  have hl:=rv.length;exact wpAny_pyNext_tuple_end (I.ok.hd hc) st (show s.heap.IsTuple a its.toArray from p) (by simp;lia) λh' eb=>⟨rfl,I.turned (t':=s.toks) (λb o hb e=>eb b o hb e) f0 f1 f3 f4 f5⟩
 self:=λ_ _ _ _ _ st h=>wpAny_pyIter_tupleiter st h
theorem agR{P:bB}{w:bA}{K:aJ}{tg:Expr}(it:az)(lo:Int)(n:Nat):Turn P w K tg (K9 lo n) [it] it (λi h=>IsRangeIter h it (lo+(i:Nat)*1) ((n:Int)-(i:Nat)) 1) where
 mem:=by simp
 obj:=λi h st b hb=>by
  have e:b=it:=by simpa using hb
  subst e
  exact⟨_,st,λv z=>by
   have z':Data.fields _=Data.cell v:=z;cases z'⟩
 keep:=λi h h' st k=>k it (by simp) _ st
 item:=by
  intro X hP hw hK hc i pins s σ H E I hf st hg;subst hP hw hK
  obtain⟨f0,f1,f2,f3,f4,f5⟩:=hf it (by simp)
  have W:=Walks.range (prog:=X.prog) (w:=X.w) (I.ok.hd hc) it lo 1 n;refine W.item i s _ _ hg st λv h' tk hv st' kk=>?_
  obtain⟨t,rfl⟩:=hv
  have I1:Inv X pins σ H {s with heap:=h',toks:=tk}:=I.turned (λb o hb e=>kk b o (by simpa using hb) e) f0 f1 f3 f4 f5
  refine⟨_,rfl,SQ (s:={s with heap:=h',toks:=tk}) (n:="range_iterator") st' rfl rfl (by decide) ⟨.int (lo+i),H,I1,⟨t,?_⟩,⟨rfl,rfl⟩,st',λb hb=>(hf b hb).1⟩⟩
  rw[Int.mul_one]
 done:=by
  intro X hP hw hK hc i pins s σ H E I hf st hg;subst hP hw hK
  obtain⟨f0,f1,f2,f3,f4,f5⟩:=hf it (by simp)
  exact wpAny_pyNext_range_end (I.ok.hd hc) st (by have:n<=i:=hg;lia) λh' eb=>⟨rfl,I.turned (t':=s.toks) (λb o hb e=>eb b o hb e) f0 f1 f3 f4 f5⟩
 self:=λ_ _ _ _ _ st h=>wpAny_pyIter_rangeiter st h
section
variable{X:Cx}{tg:Expr}
def alY(K:aJ)(tl:TE):TI:=λσ H R=>tl σ H λx H1=>∃a,x=.ref a/\(∃xs,bK K H1 a xs)/\R (Ul K a) H1
def am7(K:aJ)(tl:TE):TI:=λσ H R=>tl σ H λx H1=>∃a,x=.ref a/\(∃xs,cz K H1 a xs)/\R (Um K a) H1
theorem JN{l:Expr}{tl:TE}(hl:PE X l tl):PI X tg l (alY X.K tl):=by
 intro pins s σ H R I h;refine bF (hl pins s σ H _ I h) λv s1 aP=>?_
 obtain⟨x,H1,I1,r1,q1⟩:=aP
 obtain⟨a,e,⟨xs,hq⟩,q⟩:=q1
 subst e;cases r1
 obtain⟨its,rv,p,hz⟩:=I1.list hq
 refine Hw p.isList ?_
 refine⟨s1.heap.objs.size,[s1.heap.objs.size],_,_,H1,rfl,I1.kept (t':=s1.toks) λb o e=>bR _ e,ahu a _,⟨_,fV _ rfl,rfl,rfl⟩,λb hb=>?_,q⟩
 have e:b=s1.heap.objs.size:=by simpa using hb
 subst e;exact I1.vD (bT _) (I1.hok.fresh (bT _))
theorem J6{l:Expr}{tl:TE}(hl:PE X l tl):PI X tg l (am7 X.K tl):=by
 intro pins s σ H R I h;refine bF (hl pins s σ H _ I h) λv s1 aP=>?_
 obtain⟨x,H1,I1,r1,q1⟩:=aP
 obtain⟨a,e,⟨xs,hq⟩,q⟩:=q1
 subst e;cases r1
 obtain⟨its,rv,p,hz⟩:=I1.tuple hq
 refine VF (show s1.heap.IsTuple a its.toArray from p) ?_
 refine⟨s1.heap.objs.size,[s1.heap.objs.size],_,_,H1,rfl,I1.kept (t':=s1.toks) λb o e=>bR _ e,agQ a _,⟨_,fV _ rfl,rfl,rfl⟩,λb hb=>?_,q⟩
 have e:b=s1.heap.objs.size:=by simpa using hb
 subst e;exact I1.vD (bT _) (I1.hok.fresh (bT _))
theorem ain{pins:List (az×Obj)}{σ:St}{H:Hp}{s:aG}{R:It->Hp->Prop}{E:Value->aG->Prop}{lo hi:Int}{t u v:Tok}{tk:Nat}(I:Inv X pins σ H s)(h1:-(2^62)<=lo)(h2:lo<2^62)(h3:-(2^62)<=hi)(h4:hi<2^62)
  (q:R (K9 lo (hi-lo).toNat) H):aL (model X.prog X.w) X.A (Bt (.ref s.heap.objs.size)) (PIE X pins σ tg R) E {s with heap:=s.heap.push {cls:=.type "range",data:=.fields #[.int lo t,.int hi u,.int 1 v]},toks:=tk}:=by
 refine wpAny_pyIter_range (IsRange.new ..) (small_one h1 h2 h3 h4) ?_;have I1:Inv X pins σ H {s with heap:=s.heap.push {cls:=.type "range",data:=.fields #[.int lo t,.int hi u,.int 1 v]},toks:=tk}:=I.kept λb o e=>bR _ e
 refine⟨(s.heap.push {cls:=.type "range",data:=.fields #[.int lo t,.int hi u,.int 1 v]}).objs.size,[(s.heap.push {cls:=.type "range",data:=.fields #[.int lo t,.int hi u,.int 1 v]}).objs.size],_,_,H,rfl,
  I1.kept (t':=tk) λb o e=>bR _ e,agR _ lo (hi-lo).toNat,?_,λb hb=>?_,q⟩
 .have e1:lo+((0:Nat):Int)*1=lo:=by simp
  have e2:(((hi-lo).toNat:Nat):Int)-((0:Nat):Int)=apo lo hi 1:=by rw[rangeSize_one];split<;>lia
  show IsRangeIter _ _ (lo+((0:Nat):Int)*1) ((((hi-lo).toNat:Nat):Int)-((0:Nat):Int)) 1;rw[e1,e2];exact fV _ rfl
 .have e:b=(s.heap.push {cls:=.type "range",data:=.fields #[.int lo t,.int hi u,.int 1 v]}).objs.size:=by simpa using hb
  subst e;exact I1.vD (bT _) (I1.hok.fresh (bT _))
def alZ(ta:TA):TI:=λσ H R=>ta σ H λvs H1=>∃j:Int,vs=[.int j]/\-(2^62)<=j/\j<2^62/\R (K9 0 j.toNat) H1
theorem ahv{a:Expr}{ta:TA}{p pos:Pos}(hg:Gl X "range")(hm:X.mg "range"=ao)(ha:PA X [a] ta)(hs:bG [a] X.env=[(aD,eval a X.env)]:=by rfl):PI X tg (.Call (.Name "range" p) [a] [] pos) (alZ ta):=by
 intro pins s σ H R I h;refine Call_ (wR I hg hm boot_range (LQ (bF (ha pos pins s σ H _ I h) λus s1 aP=>?_) hs rfl))
 obtain⟨vs,H1,I1,r1,q1⟩:=aP
 obtain⟨j,e,q1,q2,q⟩:=q1
 subst e;cases r1 with
 |cons r rr=>
  cases rr
  obtain⟨t,rfl⟩:=r
  exact call_range_1 (ain I1 (by lia) (by lia) q1 q2 (by simpa using q))
def acz(wi:TI)(g:TG)(tb:TS):TS:=λD σ H=>wi σ H λJ H1=>∃W:Nat->Nat->St->Hp->Prop,(∃m,W 0 m σ H1)/\∀i m σ H,W i m σ H->
 (J.stop i H/\D.nx σ H)\/(J.go i H/\∃N:St->Hp->Prop,(∀σ' H',N σ' H'->∃m',m'<m/\W (i+1) m' σ' H')/\∀x H',J.xG i H x H'->g x σ H' λσ2 H2=>tb {D with nx:=N,ct:=N,bk:=D.nx} σ2 H2)
def FP(fp:List az)(h:bh):List (az×Obj):=fp.filterMap λb=>(h.get? b).map λo=>(b,o)
theorem Jb{fp:List az}{h:bh}{b:az}{o:Obj}(hb:b∈fp)(e:h.get? b=aj o):(b,o)∈FP fp h:=Mm.mpr ⟨b,hb,by rw[e];rfl⟩
theorem ahw{fp:List az}{h:bh}{p:az×Obj}(hp:p∈FP fp h):p.1∈fp/\h.get? p.1=aj p.2:=by
 obtain⟨b,hb,e⟩:=Mm.mp hp
 cases q:h.get? b with
 |none=>rw[q] at e;cases e
 |some o=>
  rw[q] at e;have e':(b,o)=p:=jb e;subst e'
  exact⟨hb,q⟩
theorem Inv.pinned{pins:List (az×Obj)}{σ:St}{H:Hp}{s:aG}{fp:List az}(I:Inv X pins σ H s)(hf:∀b∈fp,jH X pins H b)(ho:∀b∈fp,∃o,s.heap.get? b=aj o/\∀v,o.data≠.cell v):Inv X (pins++FP fp s.heap) σ H s:=
 I.aac λp hp=>(dF.mp hp).elim (λz=>I.pin p (fP _ z)) λz=>by
  obtain⟨hb,e⟩:=ahw z
  obtain⟨f0,f1,f2,_⟩:=hf p.1 hb
  obtain⟨o,e',d⟩:=ho p.1 hb
  rw[e] at e';cases e'
  exact⟨e,f0,f1,f2,d⟩
theorem Inv.Jq{pins pl:List (az×Obj)}{σ:St}{H:Hp}{s:aG}(I:Inv X (pins++pl) σ H s):Inv X pins σ H s:=I.aac λp hp=>I.pin p (fP _ (iY _ hp))
theorem akW{iter:Expr}{body:List dw}{wi:TI}{g:TG}{tb:TS}{pos:Pos}(hp:PN (model X.prog X.w) X.A X.env X.xe)(hc:X.calm=au)(hi:PI X tg iter wi)(hg:PG X tg g)(hb:jA X body tb)
  (hs:∀x,qZ iter X.env x=pure x:=by intro _;rfl):PS X (.For tg iter body [] pos) (acz wi g tb):=by
 intro pins s σ H D I h;refine wpAny_For (bF (hi pins s σ H _ I h) λv s1 h1=>bF h1 λitv s2 h2=>?_) hs
 obtain⟨it,fp,tn,J,H2,e,I2,T,st2,f2,W,⟨m0,w0⟩,turn⟩:=h2
 subst e;have stat:∀{H':Hp},(∀b∈fp,H' b=ao)->∀b∈fp,jH X pins H' b:=λhn b hb=>⟨hn b hb,(f2 b hb).2⟩
 refine codeAny_forLoop_any (λn s'=>∃i σ' H',Inv X pins σ' H' s'/\tn i s'.heap/\(∀b∈fp,H' b=ao)/\W i n σ' H') ?_ m0 ⟨0,σ,H2,I2,st2,λb hb=>(f2 b hb).1,w0⟩;rintro n s3 ⟨i,σ3,H3,I3,st3,GZ,w3⟩;rcases turn i n σ3 H3 w3 with⟨stop,qn⟩|⟨go,N,hN,step⟩
 .refine zW hp (bF (T.done X rfl rfl rfl hc i pins s3 σ3 H3 X.xe I3 (stat GZ) st3 stop) λr s4 aP=>?_)
  obtain⟨hr,I4⟩:=aP
  subst hr;exact M6 ⟨σ3,H3,I4,qn⟩
 .refine zW hp (bF (T.item X rfl rfl rfl hc i pins s3 σ3 H3 X.xe I3 (stat GZ) st3 go) λr s4 aP=>?_)
  obtain⟨u,hr,h4⟩:=aP
  subst hr;refine zW hp (bF h4 λ_ s5 aP=>?_)
  obtain⟨x,H5,I5,r5,y5,zy,Uo⟩:=aP
  have Uq:=I5.pinned (stat Uo) (T.obj _ _ zy);refine zW hp (bF (hg _ s5 σ3 H5 x u _ Uq r5 (step x H5 y5)) λ_ s6 aP=>?_)
  obtain⟨σ6,H6,I6,q6⟩:=aP
  refine zW hp (bF (hb _ s6 σ6 H6 _ I6 q6) λf s7 q7=>?_);have again:∀{σ7:St}{H7:Hp},Inv X (pins++FP fp s5.heap) σ7 H7 s7->N σ7 H7->∃m,m<n/\∃i σ' H',Inv X pins σ' H' s7/\tn i s7.heap/\(∀b∈fp,H' b=ao)/\W i m σ' H':=λ{σ7 H7} I7 n7=>by
   obtain⟨m',hm,w7⟩:=hN σ7 H7 n7
   refine⟨m',hm,i+1,σ7,H7,I7.Jq,T.keep _ _ _ zy λb hb o e=>(I7.pin (b,o) (fP _ (fP _ (Jb hb e)))).1,λb hb=>?_,w7⟩
   obtain⟨o,e,d⟩:=T.obj _ _ zy b hb
   exact(I7.pin (b,o) (fP _ (fP _ (Jb hb e)))).2.1
  cases f with
  |next=>obtain⟨σ7,H7,I7,n7⟩:=q7;exact again I7 n7
  |cont=>obtain⟨σ7,H7,I7,n7⟩:=q7;exact again I7 n7
  |brk=>obtain⟨σ7,H7,I7,q7⟩:=q7;exact⟨σ7,H7,I7.Jq,q7⟩
  |ret v=>obtain⟨x7,σ7,H7,I7,r7,q7⟩:=q7;exact⟨x7,σ7,H7,I7.Jq,r7,q7⟩
end
abbrev R2:=V->V->Hp->VK->Prop
def cX(X:Cx)(f:Value->Value->Sem Value)(r:R2):Prop:=
 ∀(pins:List (az×Obj))(s:aG)(σ:St)(H:Hp)(x y:V)(v u:Value)(Q:VK),Inv X pins σ H s->RelV x v->RelV y u->r x y H Q->
  aL (model X.prog X.w) X.A (f v u) (EP X pins σ Q) X.xe s
def Ur(X:Cx)(f:Value->Sem Value)(r:V->Hp->VK->Prop):Prop:=
 ∀(pins:List (az×Obj))(s:aG)(σ:St)(H:Hp)(x:V)(v:Value)(Q:VK),Inv X pins σ H s->RelV x v->r x H Q->
  aL (model X.prog X.w) X.A (f v) (EP X pins σ Q) X.xe s
def je(X:Cx)(f:Value)(r:List V->Hp->VK->Prop):Prop:=
 ∀(pins:List (az×Obj))(s:aG)(σ:St)(H:Hp)(xs:List V)(us:List Value)(Q:VK),Inv X pins σ H s->Vals xs us->r xs H Q->
  aL (model X.prog X.w) X.A (call f us) (EP X pins σ Q) X.xe s
def am8(X:Cx)(r:V->Hp->(Bool->Hp->Prop)->Prop):Prop:=
 ∀(pins:List (az×Obj))(s:aG)(σ:St)(H:Hp)(x:V)(v:Value)(Q:Bool->Hp->Prop),Inv X pins σ H s->RelV x v->r x H Q->
  aL (model X.prog X.w) X.A (truthy v) (TP X pins σ Q) X.xe s
def G3(r:R2)(ta tb:TE):TE:=λσ H Q=>ta σ H λx H1=>tb σ H1 λy H2=>r x y H2 Q
def tUn(r:V->Hp->VK->Prop)(ta:TE):TE:=λσ H Q=>ta σ H λx H1=>r x H1 Q
def rI(C:Int->Int->Prop)(g:Int->Int->V):R2:=λx y H Q=>∃i j,x=.int i/\y=.int j/\C i j/\Q (g i j) H
def p6(g:Int->Int->V):R2:=λx y H Q=>∃i j,x=.int i/\y=.int j/\Q (g i j) H
def rU(g:Int->V):V->Hp->VK->Prop:=λx H Q=>∃i,x=.int i/\Q (g i) H
section
variable{X:Cx}{a b c:Expr}{ta tb tc:TE}{pos:Pos}
theorem Tt(ha:PE X a ta)(hb:PE X b tb){pins:List (az×Obj)}{s:aG}{σ:St}{H:Hp}{R:V->V->Hp->Prop}(I:Inv X pins σ H s)
  (h:ta σ H λx H1=>tb σ H1 λy H2=>R x y H2){Q:Value->aG->Prop}{f:Value->Value->Sem Value}
  (hf:∀v u s2 x y H2,Inv X pins σ H2 s2->RelV x v->RelV y u->R x y H2->aL (model X.prog X.w) X.A (f v u) Q X.xe s2):
  aL (model X.prog X.w) X.A (eval a X.env) (λv s₁=>aL (model X.prog X.w) X.A (eval b X.env) (λu s₂=>aL (model X.prog X.w) X.A (f v u) Q X.xe s₂) X.xe s₁) X.xe s:=by
 refine bF (ha pins s σ H _ I h) λv s1 aP=>?_
 obtain⟨x,H1,I1,r1,q1⟩:=aP
 refine bF (hb pins s1 σ H1 _ I1 q1) λu s2 aP=>?_
 obtain⟨y,H2,I2,r2,q2⟩:=aP
 exact hf v u s2 x y H2 I2 r1 r2 q2
theorem al0{op:Operator}{r:R2}(ho:cX X (nG op) r)(ha:PE X a ta)(hb:PE X b tb):PE X (.BinOp a op b pos) (G3 r ta tb):=by
 intro pins s σ H Q I h;exact wpAny_BinOp (Tt ha hb I h λv u s2 x y H2 I2 rx ry q=>ho pins s2 σ H2 x y v u Q I2 rx ry q)
theorem al1{op:UnaryOp}{r:V->Hp->VK->Prop}(ho:Ur X (unaryOp op) r)(ha:PE X a ta):PE X (.UnaryOp op a pos) (tUn r ta):=by
 intro pins s σ H Q I h;exact UnaryOp_ (bF (ha pins s σ H _ I h) λv s1 ⟨x,H1,I1,r1,q1⟩=>ho pins s1 σ H1 x v Q I1 r1 q1)
theorem La{f:Value->Value->Sem Value}{C:Int->Int->Prop}{g:Int->Int->Int}
  (rule:∀(i j:Int)(t u:Tok)(s:aG)(Q:Value->aG->Prop)(E:Value->aG->Prop),C i j->Q (.int (g i j) s.toks) {s with toks:=s.toks+1}->aL (model X.prog X.w) X.A (f (.int i t) (.int j u)) Q E s):
  cX X f (rI C λi j=>.int (g i j)):=by
 intro pins s σ H x y v u Q I rx ry h
 obtain⟨i,j,rfl,rfl,hc,q⟩:=h
 obtain⟨t,rfl⟩:=rx
 obtain⟨t',rfl⟩:=ry
 exact rule i j t t' s _ _ hc ⟨.int (g i j),H,I.tok _,⟨_,rfl⟩,q⟩
theorem acA{f:Value->Value->Sem Value}{g:Int->Int->Int}
  (rule:∀(i j:Int)(t u:Tok)(s:aG)(Q:Value->aG->Prop)(E:Value->aG->Prop),Q (.int (g i j) s.toks) {s with toks:=s.toks+1}->aL (model X.prog X.w) X.A (f (.int i t) (.int j u)) Q E s):
  cX X f (p6 λi j=>.int (g i j)):=by
 intro pins s σ H x y v u Q I rx ry h
 obtain⟨i,j,rfl,rfl,q⟩:=h
 obtain⟨t,rfl⟩:=rx
 obtain⟨t',rfl⟩:=ry
 exact rule i j t t' s _ _ ⟨.int (g i j),H,I.tok _,⟨_,rfl⟩,q⟩
theorem Tu{f:Value->Value->Sem Value}{g:Int->Int->Bool}
  (rule:∀(i j:Int)(t u:Tok)(s:aG)(Q:Value->aG->Prop)(E:Value->aG->Prop),Q (.bool (g i j)) s->aL (model X.prog X.w) X.A (f (.int i t) (.int j u)) Q E s):
  cX X f (p6 λi j=>.bl (g i j)):=by
 intro pins s σ H x y v u Q I rx ry h
 obtain⟨i,j,rfl,rfl,q⟩:=h
 obtain⟨t,rfl⟩:=rx
 obtain⟨t',rfl⟩:=ry
 exact rule i j t t' s _ _ ⟨.bl (g i j),H,I,rfl,q⟩
def acB(i j:Int):Prop:=0<j/\j<1073741824
def acC(i j:Int):Prop:=0<=j/\j<=1000000/\i.natAbs<2^64
def Gw(i j:Int):Prop:=(-(2^64)<i/\i<2^64)\/(-(2^64)<j/\j<2^64)
theorem Gw.ok{i j:Int}(h:Gw i j):IntMulOk i j:=by
 rcases h with⟨h1,h2⟩|⟨h1,h2⟩
 .exact .of_left (intBits_le_64 h1 h2)
 .exact .of_right (intBits_le_64 h1 h2)
theorem akX:cX X (nG .Add) (p6 λi j=>.int (i+j)):=acA λ_ _ _ _ _ _ _ q=>add_int q
theorem akY:cX X (nG .Sub) (p6 λi j=>.int (i-j)):=acA λ_ _ _ _ _ _ _ q=>sub_int q
theorem yH:cX X (nG .Mult) (rI Gw λi j=>.int (i*j)):=La λ_ _ _ _ _ _ _ hc q=>mul_int q hc.ok
theorem aae:cX X (nG .FloorDiv) (rI acB λi j=>.int (i / j)):=La λi j _ _ _ _ _ hc q=>by
 have h1:(0:Int)<j:=hc.1;have h2:j<1073741824:=hc.2;exact floordiv_int (by lia) (by rw[Int.fdiv_eq_ediv_of_nonneg i (by lia)];exact q) (.inl (PyProof.noPylong_small (by lia)))
theorem Bu:cX X (nG .Mod) (rI (λ_ j=>0<j) λi j=>.int (i%j)):=La λi j _ _ _ _ _ hc q=>by
 have h1:(0:Int)<j:=hc;exact mod_int' (by lia) (by rw[Int.fmod_eq_emod_of_nonneg i (by lia)];exact q)
theorem Bv:cX X (nG .Pow) (rI acC λi j=>.int (i^j.toNat)):=La λ_ _ _ _ _ _ _ hc q=>pow_int_small hc.1 hc.2.1 hc.2.2 q
theorem unI{f:Value->Sem Value}{g:Int->Int}
  (rule:∀(i:Int)(t:Tok)(s:aG)(Q:Value->aG->Prop)(E:Value->aG->Prop),Q (.int (g i) s.toks) {s with toks:=s.toks+1}->aL (model X.prog X.w) X.A (f (.int i t)) Q E s):
  Ur X f (rU λi=>.int (g i)):=by
 intro pins s σ H x v Q I rx h
 obtain⟨i,rfl,q⟩:=h
 obtain⟨t,rfl⟩:=rx
 exact rule i t s _ _ ⟨.int (g i),H,I.tok _,⟨_,rfl⟩,q⟩
theorem akZ:Ur X (unaryOp .USub) (rU λi=>.int (-i)):=unI λ_ _ _ _ _ q=>neg_int q
end
def Tv:V->V->Bool
 |.non,.non=>au|.non,.int _=>au|.int _,.non=>au|.non,.bl _=>au|.bl _,.non=>au|.non,.str _=>au|.str _,.non=>au
 |.int _,.int _=>au|.bl _,.bl _=>au|.str _,.str _=>au|.pZ _,.pZ _=>au
 |.int _,.str _=>au|.str _,.int _=>au|.bl _,.str _=>au|.str _,.bl _=>au
 |_,_=>aD
def rEq:R2:=λx y H Q=>Tv x y=au/\Q (.bl (decide (x=y))) H
def rNe:R2:=λx y H Q=>Tv x y=au/\Q (.bl (!decide (x=y))) H
theorem Rf{i j:Int}:decide (V.int i=V.int j)=(i==j):=by
 rw[pF];simp
theorem RW{i j:Bool}:decide (V.bl i=V.bl j)=(i==j):=by
 rw[pF];simp
theorem Rg{i j:Str}:decide (V.str i=V.str j)=(i==j):=by
 rw[pF];simp
theorem aaf{i j:Array UInt8}:decide (V.pZ i=V.pZ j)=(i.toList==j.toList):=by
 rw[pF];cases i;cases j;simp
section
variable{X:Cx}{a b c:Expr}{ta tb tc:TE}{pos:Pos}
theorem gj{pins:List (az×Obj)}{σ:St}{H:Hp}{s:aG}{Q:VK}{k k':Bool}(I:Inv X pins σ H s)(q:Q (.bl k) H)(e:k=k'):EP X pins σ Q (.bool k') s:=by
 subst e
 exact⟨.bl k,H,I,rfl,q⟩
theorem al2:cX X (fj .Eq) rEq:=by
 intro pins s σ H x y v u Q I rx ry h
 obtain⟨hs,q⟩:=h
 cases x with
 |non=>
  cases rx;cases y with
  |non=>cases ry;exact aoX (gj I q (by simp))
  |bl j=>cases ry;exact aoY (gj I q (by simp))
  |int j=>obtain⟨t',rfl⟩:=ry;exact ao9 (gj I q (by simp))
  |str j=>obtain⟨t',rfl⟩:=ry;exact apa (gj I q (by simp))
  |_=>exact absurd (show aD=au from hs) iw
 |bl i=>
  cases rx;cases y with
  |non=>cases ry;exact aoZ (gj I q (by simp))
  |bl j=>cases ry;exact eq_bool (gj I q RW)
  |str j=>obtain⟨t',rfl⟩:=ry;exact ao0 (gj I q (by simp))
  |_=>exact absurd (show aD=au from hs) iw
 |int i=>
  obtain⟨t,rfl⟩:=rx
  cases y with
  |non=>cases ry;exact apb (gj I q (by simp))
  |int j=>obtain⟨t',rfl⟩:=ry;exact eq_int (gj I q Rf)
  |str j=>obtain⟨t',rfl⟩:=ry;exact apc (gj I q (by simp))
  |_=>exact absurd (show aD=au from hs) iw
 |str i=>
  obtain⟨t,rfl⟩:=rx
  cases y with
  |non=>cases ry;exact apd (gj I q (by simp))
  |bl j=>cases ry;exact ao1 (gj I q (by simp))
  |int j=>obtain⟨t',rfl⟩:=ry;exact ape (gj I q (by simp))
  |str j=>obtain⟨t',rfl⟩:=ry;exact eq_str (gj I q Rg)
  |_=>exact absurd (show aD=au from hs) iw
 |pZ i=>
  obtain⟨t,rfl⟩:=rx
  cases y with
  |pZ j=>obtain⟨t',rfl⟩:=ry;exact PySem.W.eq_bytes (gj I q aaf)
  |_=>exact absurd (show aD=au from hs) iw
 |_=>cases y<;>exact absurd (show aD=au from hs) iw
theorem al3:cX X (fj .NotEq) rNe:=by
 intro pins s σ H x y v u Q I rx ry h
 obtain⟨hs,q⟩:=h
 cases x with
 |non=>
  cases rx;cases y with
  |non=>cases ry;exact ao2 (gj I q (by simp))
  |bl j=>cases ry;exact ao3 (gj I q (by simp))
  |int j=>obtain⟨t',rfl⟩:=ry;exact apf (gj I q (by simp))
  |str j=>obtain⟨t',rfl⟩:=ry;exact apg (gj I q (by simp))
  |_=>exact absurd (show aD=au from hs) iw
 |bl i=>
  cases rx;cases y with
  |non=>cases ry;exact ao4 (gj I q (by simp))
  |bl j=>cases ry;exact ne_bool (gj I q (congrArg not RW))
  |str j=>obtain⟨t',rfl⟩:=ry;exact ao5 (gj I q (by simp))
  |_=>exact absurd (show aD=au from hs) iw
 |int i=>
  obtain⟨t,rfl⟩:=rx
  cases y with
  |non=>cases ry;exact aph (gj I q (by simp))
  |int j=>obtain⟨t',rfl⟩:=ry;exact ne_int (gj I q (congrArg not Rf))
  |str j=>obtain⟨t',rfl⟩:=ry;exact api (gj I q (by simp))
  |_=>exact absurd (show aD=au from hs) iw
 |str i=>
  obtain⟨t,rfl⟩:=rx
  cases y with
  |non=>cases ry;exact apj (gj I q (by simp))
  |bl j=>cases ry;exact ao6 (gj I q (by simp))
  |int j=>obtain⟨t',rfl⟩:=ry;exact apk (gj I q (by simp))
  |str j=>obtain⟨t',rfl⟩:=ry;exact ne_str (gj I q (congrArg not Rg))
  |_=>exact absurd (show aD=au from hs) iw
 |pZ i=>
  obtain⟨t,rfl⟩:=rx
  cases y with
  |pZ j=>obtain⟨t',rfl⟩:=ry;exact PySem.W.ne_bytes (gj I q (congrArg not aaf))
  |_=>exact absurd (show aD=au from hs) iw
 |_=>cases y<;>exact absurd (show aD=au from hs) iw
theorem al4:cX X (fj .LtE) (p6 λi j=>.bl (decide (i<=j))):=Tu λ_ _ _ _ _ _ _ q=>le_int q
theorem abT:cX X (fj .Gt) (p6 λi j=>.bl (decide (j<i))):=Tu λ_ _ _ _ _ _ _ q=>gt_int q
theorem Gh:cX X (fj .GtE) (p6 λi j=>.bl (decide (j<=i))):=Tu λ_ _ _ _ _ _ _ q=>ge_int q
theorem aa3:cX X (fj .Is) (λx y H Q=>y=.non/\Q (.bl (decide (x=.non))) H):=by
 intro pins s σ H x y v u Q I rx ry h
 obtain⟨rfl,q⟩:=h
 cases ry;refine is_none_gen (gj I q ?_);cases x<;>first
  |(cases rx;rfl)
  |(obtain⟨t,rfl⟩:=rx;rfl)
theorem cX.or{f:Value->Value->Sem Value}{r r':R2}(h:cX X f r)(h':cX X f r'):cX X f (λx y H Q=>r x y H Q\/r' x y H Q):=by
 intro pins s σ H x y v u Q I rx ry q;rcases q with q|q
 .exact h pins s σ H x y v u Q I rx ry q
 .exact h' pins s σ H x y v u Q I rx ry q
theorem gH(b:Expr){op:CmpOp}(h:op≠.In:=by decide)(h2:op≠.NotIn:=by decide):Eb op b=aD:=by
 have e1:(op==CmpOp.In)=aD:=by cases op<;>first|rfl|exact absurd rfl h
 have e2:(op==CmpOp.NotIn)=aD:=by cases op<;>first|rfl|exact absurd rfl h2
 cases b<;>simp[Eb,e1,e2]
theorem ajz{op:CmpOp}{r:R2}(ho:cX X (fj op) r)(ha:PE X a ta)(hb:PE X b tb)(hm:Eb op b=aD):PE X (.Compare a [op] [b] pos) (G3 r ta tb):=by
 intro pins s σ H Q I h;exact wpAny_Compare1 (Tt ha hb I h λv u s2 x y H2 I2 rx ry q=>ho pins s2 σ H2 x y v u Q I2 rx ry q) hm
def SX(t:TE):TT:=λσ H Q=>t σ H λx H'=>∃k,x=.bl k/\Q k H'
theorem ajA{op:CmpOp}{r:R2}(ho:cX X (fj op) r)(ha:PE X a ta)(hb:PE X b tb)(hm:Eb op b=aD):PT X (.Compare a [op] [b] pos) (SX (G3 r ta tb)):=by
 intro pins s σ H Q I h;refine wpAny_isTrue_Compare1 (bF (ha pins s σ H _ I h) λv s1 ⟨x,H1,I1,r1,q1⟩=>bF (hb pins s1 σ H1 _ I1 q1) λu s2 ⟨y,H2,I2,r2,q2⟩=>
  bF (ho pins s2 σ H2 x y v u _ I2 r1 r2 q2) λc s3 ⟨z,H3,I3,r3,k,e,q3⟩=>?_) hm
 subst e;cases r3;exact sY ⟨H3,I3,q3⟩
def R0(r r':R2)(ta tb tc:TE):TE:=λσ H Q=>ta σ H λx H1=>tb σ H1 λy H2=>r x y H2 λz H3=>∃k,z=.bl k/\
 (if k=au then tc σ H3 λw' H4=>r' y w' H4 Q else Q (.bl aD) H3)
theorem aio{op op':CmpOp}{r r':R2}(ho:cX X (fj op) r)(ho':cX X (fj op') r')(ha:PE X a ta)(hb:PE X b tb)(hc:PE X c tc)
  (hm:PX [op,op'] [b,c]=aD:=by with_unfolding_all rfl):PE X (.Compare a [op,op'] [b,c] pos) (R0 r r' ta tb tc):=by
 intro pins s σ H Q I h;refine Compare_chain (bF (ha pins s σ H _ I h) λv s1 ⟨x,H1,I1,r1,q1⟩=>chain_link (bF (hb pins s1 σ H1 _ I1 q1) λu s2 ⟨y,H2,I2,r2,q2⟩=>
  bF (ho pins s2 σ H2 x y v u _ I2 r1 r2 q2) λd s3 ⟨z,H3,I3,r3,k,e,q3⟩=>?_)) hm
 subst e;cases r3;refine sY ?_;cases k with
 |false=>exact ite_ff ⟨.bl aD,H3,I3,rfl,q3⟩
 |true=>exact ite_tt (chain_last (bF (hc pins s3 σ H3 _ I3 q3) λw' s4 ⟨z',H4,I4,r4,q4⟩=>ho' pins s4 σ H4 y z' u w' Q I4 r2 r4 q4))
theorem aip{op op':CmpOp}{r r':R2}(ho:cX X (fj op) r)(ho':cX X (fj op') r')(ha:PE X a ta)(hb:PE X b tb)(hc:PE X c tc)
  (hm:PX [op,op'] [b,c]=aD:=by with_unfolding_all rfl):PT X (.Compare a [op,op'] [b,c] pos) (SX (R0 r r' ta tb tc)):=by
 intro pins s σ H Q I h;refine isTrue_chain (bF (ha pins s σ H _ I h) λv s1 ⟨x,H1,I1,r1,q1⟩=>test_link (bF (hb pins s1 σ H1 _ I1 q1) λu s2 ⟨y,H2,I2,r2,q2⟩=>
  bF (ho pins s2 σ H2 x y v u _ I2 r1 r2 q2) λd s3 ⟨z,H3,I3,r3,k,e,q3⟩=>?_)) hm
 subst e;cases r3;refine sY ?_;cases k with
 |false=>
  obtain⟨k',e',q'⟩:=q3
  cases e';exact ite_ff ⟨H3,I3,q'⟩
 |true=>
  refine ite_tt (test_last (bF (hc pins s3 σ H3 _ I3 q3) λw' s4 ⟨z',H4,I4,r4,q4⟩=>bF (ho' pins s4 σ H4 y z' u w' _ I4 r2 r4 q4) λd' s5 aP=>?_))
  obtain⟨z2,H5,I5,r5,k2,e2,q5⟩:=aP
  subst e2;cases r5;exact sY ⟨H5,I5,q5⟩
def Tw(K:aJ)(x:V)(H:Hp)(k:Bool):Prop:=
 match x with
 |.non=>k=aD
 |.bl b=>k=b
 |.int i=>k=(i != 0)
 |.str y=>y.length<=bU/\k=((y.length:Int) != 0)
 |.pZ y=>y.size<=bU/\k=((y.size:Int) != 0)
 |.ref p=>(∃xs,bK K H p xs/\k=!xs.isEmpty)\/(∃xs,cz K H p xs/\k=!xs.isEmpty)\/∃kvs,H p=aj (.dK kvs)/\k=!kvs.isEmpty
 |_=>False
theorem agS{κ:Type}{kvs:List (κ×V)}{vs:List (κ×Value)}(r:KV kvs vs):(!vs.isEmpty)=!kvs.isEmpty:=by
 cases r<;>rfl
theorem XN{xs:List V}{its:List Value}(r:Vals xs its):(!its.toArray.isEmpty)=!xs.isEmpty:=by
 cases r<;>simp
theorem yI:(bU:Nat)<2^63:=by rw[jR];decide
theorem ak0:am8 X (λx H Q=>∃k,Tw X.K x H k/\Q k H):=by
 intro pins s σ H x v Q I rx h
 obtain⟨k,e,q⟩:=h
 have hl:=yI;have hs:bU=16777216:=jR;cases x with
 |non=>
  cases rx;have e':k=aD:=e;subst e';exact truthy_none ⟨H,I,q⟩
 |bl b=>
  cases rx;have e':k=b:=e;subst e';exact sY ⟨H,I,q⟩
 |int i=>
  obtain⟨t,rfl⟩:=rx
  have e':k=(i != 0):=e;subst e';exact PySem.P.truthy_int ⟨H,I,q⟩
 |str y=>
  obtain⟨t,rfl⟩:=rx
  obtain⟨hy,e'⟩:y.length<=bU/\k=((y.length:Int) != 0):=e
  subst e';exact PySem.P.truthy_str (by lia) ⟨H,I.tok _,q⟩
 |pZ y=>
  obtain⟨t,rfl⟩:=rx
  obtain⟨hy,e'⟩:y.size<=bU/\k=((y.size:Int) != 0):=e
  subst e';exact PySem.W.truthy_bytes (by lia) ⟨H,I.tok _,q⟩
 |ref p=>
  cases rx;have e':(∃xs,bK X.K H p xs/\k=!xs.isEmpty)\/(∃xs,cz X.K H p xs/\k=!xs.isEmpty)\/∃kvs,H p=aj (.dK kvs)/\k=!kvs.isEmpty:=e;rcases e' with⟨xs,hx,e'⟩|⟨xs,hx,e'⟩|⟨kvs,hx,e'⟩
  .subst e'
   obtain⟨its,r,pl,hz⟩:=I.list hx
   have hlen:=r.length;exact wpAny_truthy_list pl.isList (by simp only[gB];lia) ⟨H,I.tok _,by rw[XN r];exact q⟩
  .subst e'
   obtain⟨its,r,pl,hz⟩:=I.tuple hx
   have hlen:=r.length;exact truthy_tuple pl (by simp only[gB];lia) ⟨H,I.tok _,by rw[XN r];exact q⟩
  .subst e'
   obtain⟨hz,hS,vs,r,m⟩:kvs.length<=bU/\(p==rB)=aD/\∃vs,KV kvs vs/\s.heap.DictOf (nH X.prog X.w) p vs:=I.hok p _ hx
   have hlen:kvs.length=vs.length:=Paired.length r;exact wpAny_truthy_dict hS m (by lia) ⟨H,I.tok _,by rw[agS r];exact q⟩
 |_=>exact(show False from e).elim
theorem aiq(ha:PE X a ta)(he:∀whole,isTrue a X.env whole=(do let v <-whole;tW a.pos;pL [v] (truthy v))):
  PT X a (λσ H Q=>ta σ H λx H'=>∃k,Tw X.K x H' k/\Q k H'):=by
 intro pins s σ H Q I h;exact isTrue_plain (bF (ha pins s σ H _ I h) λv s1 ⟨x,H1,I1,r1,q1⟩=>ak0 pins s1 σ H1 x v Q I1 r1 q1) (he _)
theorem agT:cX X (nG .Add) (λx y H Q=>∃i j,x=.str i/\y=.str j/\i.length+j.length<=bU/\Q (.str (i++j)) H):=by
 intro pins s σ H x y v u Q I rx ry h
 obtain⟨i,j,rfl,rfl,hz,q⟩:=h
 obtain⟨t,rfl⟩:=rx
 obtain⟨t',rfl⟩:=ry
 exact add_str (λt' tk=>⟨.str (i++j),H,I.tok _,⟨_,rfl⟩,q⟩) hz
theorem vals1{x:V}{us:List Value}(r:Vals [x] us):∃u,us=[u]/\RelV x u:=by
 cases r with
 |cons r1 r2=>cases r2;exact⟨_,rfl,r1⟩
theorem vals2{x y:V}{us:List Value}(r:Vals [x,y] us):∃u w',us=[u,w']/\RelV x u/\RelV y w':=by
 cases r with
 |cons r1 r2=>
  cases r2 with
  |cons r3 r4=>cases r4;exact⟨_,_,rfl,r1,r3⟩
theorem Zb:je X (.builtin "abs") (λxs H Q=>∃i,xs=[.int i]/\Q (.int (if i<0 then -i else i)) H):=by
 intro pins s σ H xs us Q I r h
 obtain⟨i,rfl,q⟩:=h
 obtain⟨u,rfl,t,rfl⟩:=vals1 r
 exact call_abs_int λu tk=>⟨.int (if i<0 then -i else i),H,I.tok _,⟨_,rfl⟩,q⟩
theorem ahx(hc:X.calm=au):je X (.builtin "min") (λxs H Q=>∃i j,xs=[.int i,.int j]/\Q (.int (if j<i then j else i)) H):=by
 intro pins s σ H xs us Q I r h
 obtain⟨i,j,rfl,q⟩:=h
 obtain⟨u,w',rfl,⟨t,rfl⟩,⟨t',rfl⟩⟩:=vals2 r
 refine min_two_ints (I.ok.hd hc) λh' tk k=>⟨_,H,I.kept k,?_,q⟩
 by_cases hj:j<i
 .rw[aZ hj,aZ hj];exact⟨_,rfl⟩
 .rw[aY hj,aY hj];exact⟨_,rfl⟩
theorem Jg:je X (.type "int") (λxs H Q=>(∃i,xs=[.int i]/\Q (.int i) H)\/∃k,xs=[.bl k]/\Q (.int (if k then 1 else 0)) H):=by
 intro pins s σ H xs us Q I r h;rcases h with⟨i,rfl,q⟩|⟨k,rfl,q⟩
 .obtain⟨u,rfl,t,rfl⟩:=vals1 r
  exact call_int_int ⟨.int i,H,I,⟨_,rfl⟩,q⟩
 .obtain⟨u,rfl,r1⟩:=vals1 r
  cases r1;exact call_int_bool ⟨.int (if k then 1 else 0),H,I.tok _,⟨_,rfl⟩,q⟩
end
structure Tz(h:bh)(x dx C:az)(mA:Str->Option Value):Prop where
 obj:h.get? x=aj (Wf C dx)
 ns:h.Ns1 dx mA
 ne:dx≠x
theorem ahy{h:bh}{dx:az}{mA:Str->Option Value}(n:h.Ns1 dx mA):∃od,h.get? dx=aj od/\∀name,Ww name od=aj (mA name):=by
 obtain⟨o,es,ep,ho,hd,hk,_,hm⟩:=n
 refine⟨o,ho,λname=>?_⟩
 have e:=hm name;unfold nsFind findBy at e;rw[<-Array.find?_toList] at e;unfold Ww;rw[hd];dsimp only;split
 .rename_i y q;rw[q] at e;exact congrArg aj e
 .rename_i q;rw[q] at e;have a:es.toList.any (·.refKey)=aD:=by
   rw[aes];intro y hy
   obtain⟨z,t,hkey⟩:=hk y (Array.mem_toList_iff.mp hy)
   simp[DictEntry.refKey,hkey]
  have a':¬es.toList.any (·.refKey)=au:=by rw[a];exact iw
  rw[aY a'];exact congrArg aj e
theorem Tz.look{h:bh}{x dx C:az}{mA:Str->Option Value}(I:Tz h x dx C mA):∃od,PySem.W.InstAt h x (Wf C dx) C (aj od)/\∀name,Ww name od=aj (mA name):=
 let ⟨od,ho,hl⟩:=ahy I.ns
 ⟨od,⟨I.obj,rfl,rfl,ho⟩,hl⟩
section
variable{prog:bB}{w:bA}{A:bV}{E:Value->aG->Prop}{s:aG}{K:aJ}{x dx C f:az}{mA:Str->Option Value}{name:Str}{v:Value}
end
theorem pQ.some_of{v:V}{o:Option Value}(r:pQ (aj v) o):∃u,o=aj u/\RelV v u:=by
 cases o with
 |none=>exact(show False from r).elim
 |some u=>exact⟨u,rfl,r⟩
section
variable{P:bB}{w:bA}{H H':Hp}{h h':bh}{a C dx:az}{fs fs':List (Str×V)}
theorem aag(hok:iH P w H h)(e:H a=aj (.ins C dx fs)):∃mA,Tz h a dx C mA/\(∀f,pQ (fs.lookup f) (mA f))/\afQ mA (fs.map (·.1))/\fs.length<=1000/\H dx=aj (.own a):=by
 obtain⟨d,z,ne,ob,mA,n,r,q⟩:=(show fH P w H h a (.ins C dx fs) from hok a _ e)
 exact⟨mA,⟨ob,n,ne⟩,r,q,z,d⟩
end
structure Us(K:aJ)(C:az):Prop where
 pg:aeN K C Str.empty=au
 hd:PySem.W.hasDictIn K C=au
 po:PySem.W.plainOver K C=au
 sa:zY K (.ref C) "__setattr__"=aj (aj (.builtin "object.__setattr__"))
theorem Us.get{K:aJ}{C:az}(c:Us K C)(f:Str):aeN K C f=au:=c.pg
def aa4(K:aJ)(C:az)(f:Str):Prop:=zY K (.ref C) f=aj ao
theorem aa4.taker{K:aJ}{C:az}{f:Str}(n:aa4 K C f):ae6 K C f=aj ao:=by
 unfold ae6;rw[show zY K (.ref C) f=aj ao from n];rfl
structure Con(K:aJ)(C:az)(f:Str)(v:V)(u:Value):Prop where
 at_:zY K (.ref C) f=aj (aj u)
 rel:RelV v u
 get:aet K u "__get__"=aj ao
 cp:PySem.W.copiedNames.contains f=aD
structure Meth(K:aJ)(C:az)(m:Str)(f:az):Prop where
 at_:zY K (.ref C) m=aj (aj (.ref f))
 fn:afS K (.ref f)=au
 kp:wu K (.ref f)=au
section
variable{X:Cx}{pins:List (az×Obj)}{σ:St}{H:Hp}{s:aG}{a C dx:az}{fs:List (Str×V)}{f:Str}{v:V}{A:bV}{E:Value->aG->Prop}
end
section
variable{X:Cx}{o e value:Expr}{f:Str}{pos pos' tpos:Pos}{ta tv:TE}
end
section
variable{X:Cx}{pins:List (az×Obj)}{σ:St}{H:Hp}{s:aG}{A:bV}{E:Value->aG->Prop}{Q:Value->aG->Prop}{c:Value}{b:Bool}
inductive mD(K:aJ)(H:Hp):V->Value->Prop where
 |non:mD K H .non (.type "NoneType")
 |bl (x:Bool):mD K H (.bl x) (.type "bool")
 |int (i:Int):mD K H (.int i) (.type "int")
 |str (x:Str):mD K H (.str x) (.type "str")
 |flt (x:UInt64):mD K H (.flt x) (.type "float")
 |lst {a:az} {xs:List V} (e:H a=aj (.lst xs)):mD K H (.ref a) (.type "list")
 |lJ {a:az} {o:Obj} {xs:List V} (e:H a=aj (.lJ o (.lst xs))):mD K H (.ref a) (.type "list")
 |tup {a:az} {xs:List V} (e:H a=aj (.tup xs)):mD K H (.ref a) (.type "tuple")
 |dK {a:az} {kvs:List (Key×V)} (e:H a=aj (.dK kvs)):mD K H (.ref a) (.type "dict")
 |dT {a:az} {kvs:List (List Key×V)} (e:H a=aj (.dT kvs)):mD K H (.ref a) (.type "dict")
 |ins {a C dx:az} {fs:List (Str×V)} (e:H a=aj (.ins C dx fs)) (cl:Us K C) (ha:zY K (.ref C) "__class__"=aj (aj (.builtin "object.__class__")))
   (hn:aet K (.builtin "object.__class__") "__get__"=aj (aj (.builtin "getset_descriptor.__get__"))) (htk:PySem.W.takesIn K (.builtin "object.__class__")=aj au)
   (hm:PySem.W.mroIn K C (.type "object")=aj au):mD K H (.ref a) (.ref C)
theorem ahz{x:V}{u t:Value}(I:Inv X pins σ H s)(rx:RelV x u)(ty:mD X.K H x t)(e:zZ X.K t c=aj b)(h:∀tk,Q (.bool b) {s with toks:=tk}):
  aL (model X.prog X.w) A (call (.builtin "isinstance") [u,c]) Q E s:=by
 cases ty with
 |non=>cases(show u=jw from rx);exact sZ aeu I.jg nC e (λz=>nomatch z) h
 |bl y=>cases(show u=rm y from rx);exact sZ aev I.jg nC e (λz=>nomatch z) h
 |int i=>obtain⟨t,q⟩:=(show ∃t,u=wD i t from rx);cases q;exact sZ aeO I.jg nC e (λz=>nomatch z) h
 |str y=>obtain⟨t,q⟩:=(show ∃t,u=Jf y t from rx);cases q;exact sZ aeP I.jg nC e (λz=>nomatch z) h
 |flt y=>obtain⟨t,q⟩:=(show ∃t,u=Xq y t from rx);cases q;exact sZ aei I.jg nC e (λz=>nomatch z) h
 |@lst a xs ea=>
  cases(show u=cY a from rx)
  obtain⟨_,_,n,_,h1⟩:=(show fH X.prog X.w H s.heap a (.lst xs) from I.hok a _ ea)
  exact sZ Ms I.jg ⟨_,h1,rfl⟩ e (λz=>nomatch z) h
 |@lJ a ob xs ea=>
  cases(show u=cY a from rx)
  obtain⟨_,_,_,n,_,h1⟩:=(show fH X.prog X.w H s.heap a (.lJ ob (.lst xs)) from I.hok a _ ea)
  exact sZ Ms I.jg ⟨_,h1,rfl⟩ e (λz=>nomatch z) h
 |@tup a xs ea=>
  cases(show u=cY a from rx)
  obtain⟨_,_,_,p⟩:=(show fH X.prog X.w H s.heap a (.tup xs) from I.hok a _ ea)
  obtain⟨o,h1,h2,_⟩:=p
  exact sZ aej I.jg ⟨o,h1,h2⟩ e (λz=>nomatch z) h
 |@dK a kvs ea=>
  cases(show u=cY a from rx)
  obtain⟨_,_,vs,_,p⟩:=(show fH X.prog X.w H s.heap a (.dK kvs) from I.hok a _ ea)
  obtain⟨o,es,ep,h1,h2,_⟩:=p
  exact sZ Mt I.jg ⟨o,h1,h2.1⟩ e (λz=>nomatch z) h
 |@dT a kvs ea=>
  cases(show u=cY a from rx)
  obtain⟨_,_,xs,_,o,es,ep,h1,h2,_⟩:=(show fH X.prog X.w H s.heap a (.dT kvs) from I.hok a _ ea)
  exact sZ Mt I.jg ⟨o,h1,h2.1⟩ e (λz=>nomatch z) h
 |@ins a C dx fs ea cl ha hn htk hm=>
  cases(show u=cY a from rx)
  obtain⟨mA,O,_⟩:=aag I.hok ea
  obtain⟨od,J,_⟩:=O.look
  exact sZ (aeQ (cl.get _) cl.hd ha hn htk hm) I.jg J e (λz=>nomatch z) h
end
structure jk(k:Nat)(A:bV):Prop where
 hd:A.handled=ao
 dp:A.depth+3*k+5<recursionLimit
 un:A.units+16*k+200<gJ
 gd:A.guards=aj []
theorem jk.mono{j k:Nat}{A:bV}(r:jk k A)(h:j<=k):jk j A:=⟨r.hd,by have:=r.dp;lia,by have:=r.un;lia,r.gd⟩
theorem jk.deeper{k:Nat}{A:bV}(r:jk (k+1) A)(env:Env):jk k (A.deeper env):=
 ⟨r.hd,by have:=r.dp;show A.depth+1+3*k+5<_;lia,by have:=r.un;show A.units+3+16*k+200<_;lia,r.gd⟩
theorem jk.in1{k:Nat}{A:bV}(r:jk (k+1) A):jk k A.in1:=
 ⟨r.hd,by have:=r.dp;show A.depth+3*k+5<_;lia,by have:=r.un;show A.units+1+16*k+200<_;lia,r.gd⟩
theorem jk.depth{k:Nat}{A:bV}(r:jk k A):A.depth<recursionLimit:=by have:=r.dp;lia
theorem jk.units{k:Nat}{A:bV}(r:jk k A):A.units+64<gJ:=by have:=r.un;lia
theorem jk.aa5{k:Nat}{A:bV}(r:jk k A):A.units<gJ:=by have:=r.un;lia
def am9:TA:=λ_ H Q=>Q [] H
def al5(ta:TE)(tr:TA):TA:=λσ H Q=>ta σ H λx H1=>tr σ H1 λxs H2=>Q (x::xs) H2
section
variable{X:Cx}{e:Expr}{es:List Expr}{te:TE}{t:TA}{pos:Pos}
theorem vd:PA X [] am9:=λ_ _ _ _ H Q I h=>VM ⟨[],H,I,.nil,h⟩
theorem qw(ha:PE X e te)(hr:PA X es t)(hs:bG (e::es) X.env=(aD,eval e X.env)::bG es X.env:=by rfl):PA X (e::es) (al5 te t):=by
 intro pos pins s σ H Q I h;rw[hs];show aL _ _ (JM ((aD,eval e X.env)::iM pos (bG es X.env))) _ _ s;refine VG (bF (ha pins s σ H _ I h) λu s1 aP=>?_)
 obtain⟨x,H1,I1,r1,q1⟩:=aP
 exact bF (hr pos pins s1 σ H1 _ I1 q1) λus s2 ⟨xs,H2,I2,r2,q2⟩=>⟨x::xs,H2,I2,.cons r1 r2,q2⟩
def ana(t:TA):TE:=λσ H Q=>t σ H λxs H1=>xs.length<=bU/\∀p,H1 p=ao->Q (.ref p) (upd H1 p (.tup xs))
def anb(t:TA):TE:=λσ H Q=>t σ H λxs H1=>xs.length<=bU/\∀p,H1 p=ao->Q (.ref p) (upd H1 p (.lst xs))
theorem aa6{x1}(h:PA X es t):PE X (.Tuple es x1 pos) (ana t):=by
 intro pins s σ H Q I hq;refine wpAny_Tuple_spliced (bF (h pos pins s σ H _ I hq) λus s1 ⟨xs,H1,I1,r,z,q⟩=>⟨by rw[<-r.length];exact z,?_⟩);have hf:H1 s1.heap.objs.size=ao:=I1.hok.fresh (bT _)
 refine⟨.ref s1.heap.objs.size,upd H1 s1.heap.objs.size (.tup xs),I1.laid (t':=s1.toks) (λb u e=>bR _ e) (bT _) ?_,rfl,q _ hf⟩
 exact⟨z,us,r,⟨_,fV _ rfl,rfl,_,rfl⟩⟩
theorem ak1(h:PA X es t):PE X (.List es pos) (anb t):=by
 intro pins s σ H Q I hq;refine wpAny_List_spliced (bF (h pos pins s σ H _ I hq) λus s1 ⟨xs,H1,I1,r,z,q⟩=>⟨by rw[<-r.length];exact z,?_⟩);have hf:H1 s1.heap.objs.size=ao:=I1.hok.fresh (bT _)
 refine⟨.ref s1.heap.objs.size,upd H1 s1.heap.objs.size (.lst xs),I1.laid (t':=s1.toks) (λb u e=>bR _ e) (bT _) ?_,rfl,q _ hf⟩
 exact⟨z,us,0,r,fV _ rfl⟩
end
abbrev Sp:=List V->Hp->VK->XK->Prop
abbrev p7:=List Env->Hp->aG->XK->Value->aG->Prop
structure zb(P:bB)(w:bA)(K:aJ)(mg:Str->Option Value)(base:bh)(A:bV)(outer:List Env)(s:aG)(H:Hp):Prop where
 frames:A.frames=aj outer
 mod:Mod K mg base
 bs:∀b o,base.get? b=aj o->s.heap.get? b=aj o/\H b=ao
 uy:base.objs.size<=s.heap.objs.size
 qM:s.heap.FunFrames base outer
 zu:∀b∈frs outer,H b=ao
 hok:iH P w H s.heap
 bare:AllBare s.gens
def CE(outer:List Env)(P:bB)(w:bA)(H:Hp)(s:aG)(Q:VK)(u:Value)(s':aG):Prop:=
 ∃v H',s'.os=s.os/\AllBare s'.gens/\Un (frs outer) [] H H' s.heap s'.heap/\iH P w H' s'.heap/\RelV v u/\Q v H'
def CR(CX:p7)(outer:List Env)(P:bB)(w:bA)(H:Hp)(s:aG)(Q:VK)(E:XK)(r:qD)(s':aG):Prop:=
 match r with
 |.ok (.ret u)=>CE outer P w H s Q u s'
 |.ok _=>False
 |.error e=>CX outer H s E e s'
structure dG(P:bB)(w:bA)(K:aJ)(mg:Str->Option Value)(base:bh)(CX:p7)(k:Nat)(f:az)(fd:dH)(ps:List Str)(sp:Sp):Prop where
 len:∀vs H Q E,sp vs H Q E->vs.length=ps.length
 run:∀(A:bV)(outer:List Env)(s:aG)(H:Hp)(args:Args)(us:List Value)(vs:List V)(Q:VK)(E:XK),jk k A->zb P w K mg base A outer s H->yE s fd args (ps.zip us)->Vals vs us->sp vs H Q E->
  jT (model P w) A (.call (.ref f) args) (CR CX outer P w H s Q E) s
theorem dG.mono{P:bB}{w:bA}{K:aJ}{mg:Str->Option Value}{base:bh}{CX:p7}{j k:Nat}{f:az}{fd:dH}{ps:List Str}{sp:Sp}(F:dG P w K mg base CX j f fd ps sp)(h:j<=k):
  dG P w K mg base CX k f fd ps sp:=⟨F.len,λA outer s H args us vs Q E hr=>F.run A outer s H args us vs Q E (hr.mono h)⟩
theorem dG.imp{P:bB}{w:bA}{K:aJ}{mg:Str->Option Value}{base:bh}{CX:p7}{k:Nat}{f:az}{fd:dH}{ps:List Str}{sp sp':Sp}(F:dG P w K mg base CX k f fd ps sp)
  (h:∀vs H Q E,sp' vs H Q E->sp vs H Q E):dG P w K mg base CX k f fd ps sp':=
 ⟨λvs H Q E q=>F.len vs H Q E (h _ _ _ _ q),λA outer s H args us vs Q E hr he hb hv hs=>F.run A outer s H args us vs Q E hr he hb hv (h _ _ _ _ hs)⟩
theorem zb.in1{P:bB}{w:bA}{K:aJ}{mg:Str->Option Value}{base:bh}{A:bV}{outer:List Env}{s:aG}{H:Hp}(e:zb P w K mg base A outer s H):
  zb P w K mg base A.in1 outer s H:=⟨e.frames,e.mod,e.bs,e.uy,e.qM,e.zu,e.hok,e.bare⟩
section
variable{X:Cx}{pins:List (az×Obj)}{σ:St}{H:Hp}{s s':aG}
theorem Inv.env0(I:Inv X pins σ H s):zb X.prog X.w X.K X.mg X.base X.A X.stack s H:=
 ⟨I.ok.frames,I.ok.mod,I.bs,ju I.ok.uy I.sz,I.stack,I.aab,I.hok,I.bare⟩
theorem Inv.after{Q:VK}{u:Value}(I:Inv X pins σ H s)(h:CE X.stack X.prog X.w H s Q u s'):EP X pins σ Q u s':=by
 obtain⟨v,H',os,bare,un,hok,r,q⟩:=h
 obtain⟨hh,g,d,t,os'⟩:=s'
 obtain rfl:os'=s.os:=os
 exact⟨v,H',I.call (h':=hh) (g':=g) (d':=d) (t':=t) (ch:=[]) un hok bare (λb z=>absurd z (by simp)),r,q⟩
end
def S7(sp:Sp)(xH:List V)(E:XK)(t:TA):TE:=λσ H Q=>t σ H λvs H1=>sp (vs++xH) H1 Q E
def Binds(K:aJ)(fd:dH)(ps:List Str)(ds:List Value):Prop:=
 ∀(s:aG)(us:List Value),K.In s.heap->(us++ds).length=ps.length->yE s fd ⟨us,[]⟩ (ps.zip (us++ds))
theorem Binds.all{K:aJ}{fd:dH}{ps:List Str}(h:∀us:List Value,us.length=ps.length->bindArgs fd ⟨us,[]⟩=pure (ps.zip us)):Binds K fd ps []:=λs us _ hl=>by
 rw[lq] at hl⊢;exact .of_eq (h us hl)
def Passes(CX:p7)(X:Cx)(E:XK):Prop:=∀(pins:List (az×Obj))(σ:St)(H:Hp)(s:aG)(e:Value)(s':aG),Inv X pins σ H s->CX X.stack H s E e s'->X.xe e s'
section
variable{X:Cx}{CX:p7}{k:Nat}{f C:az}{fd:dH}{ps:List Str}{sp:Sp}{xH:List V}{ds:List Value}{E:XK}{x m:Str}{p pos apos:Pos}{e o:Expr}{es:List Expr}{ta:TE}{t:TA}
theorem ak2{pins:List (az×Obj)}{σ:St}{H:Hp}{s:aG}{Q:VK}{us:List Value}{vs:List V}(F:dG X.prog X.w X.K X.mg X.base CX k f fd ps sp)(hr:jk k X.A)(hb:Binds X.K fd ps ds)(hd:Vals xH ds)(hx:Passes CX X E)
  (I:Inv X pins σ H s)(r:Vals vs us)(h:sp (vs++xH) H Q E):aL (model X.prog X.w) X.A (call (.ref f) us) (EP X pins σ Q) X.xe s:=by
 have r2:Vals (vs++xH) (us++ds):=r.append hd;have hl:(us++ds).length=ps.length:=by rw[<-r2.length];exact F.len _ _ _ _ h
 refine wpAny_call (Ih (F.run X.A X.stack s H ⟨us,[]⟩ (us++ds) (vs++xH) Q E hr I.env0 (hb s us I.jg hl) r2 h) λr s' hq=>?_);cases r with
 |error e=>exact hx pins σ H s e s' I hq
 |ok fl=>
  cases fl with
  |ret u=>exact I.after hq
  |next=>exact rC hq
  |brk=>exact rC hq
  |cont=>exact rC hq
theorem ajB(F:dG X.prog X.w X.K X.mg X.base CX k f fd ps sp)(hr:jk k X.A)(hg:Gl X x)(hm:X.mg x=aj (.ref f))(hk:wu X.K (.ref f)=au)(hb:Binds X.K fd ps ds)(hd:Vals xH ds)(hx:Passes CX X E)
  (ha:PA X (e::es) t)(hdb:(x==("__debug__":Str))=aD:=by decide)(he:bG (e::es) X.env=(aD,eval e X.env)::bG es X.env:=by rfl)(hpl:(iM pos (bG es X.env)).any (·.1)=aD:=by rfl):
  PE X (.Call (.Name x p) (e::es) [] pos) (S7 sp xH E t):=by
 intro pins s σ H Q I h;refine Ht (aad I hg hm ?_ hdb);refine PySem.W.callWith_K (h₀:=X.base) I.ok.mod.Uj hk (bF (ha pos pins s σ H _ I h) λus s1 ⟨vs,H1,I1,r,q⟩=>⟨I1.jg,?_⟩) he hpl;exact ak2 F hr hb hd hx I1 r q
structure Mk(K:aJ)(C f:az):Prop where
 makes:PySem.W.makesIn K C=au
 init:zY K (.ref C) "__init__"=aj (aj (.ref f))
 fn:afS K (.ref f)=au
 kp:wu K (.ref C)=au
end
section
variable{X:Cx}{CX:p7}{k:Nat}{f C:az}{fd:dH}{ps ks:List Str}{sp:Sp}{E:XK}{x m:Str}{p pos apos kpos:Pos}{e o:Expr}{es:List Expr}{kws:List tX}{te ta:TE}{t tk:TA}{nm:Option Str}
structure apy(K:aJ)(fd:dH)(ps ks:List Str)(g:List Value->List Value->List Value)(gV:List V->List V->List V):Prop where
 to:∀(s:aG)(us ws:List Value),K.In s.heap->(g us ws).length=ps.length->yE s fd ⟨us,ks.zip ws⟩ (ps.zip (g us ws))
 rel:∀{vs:List V}{us:List Value}{zs:List V}{ws:List Value},Vals vs us->Vals zs ws->Vals (gV vs zs) (g us ws)
variable{g:List Value->List Value->List Value}{gV:List V->List V->List V}
end
structure gY(N P:List Str)(sc:jG):Prop where
 kind:sc.kind=.function
 co:sc.isCoroutine=aD
 gen:sc.isGenerator=aD
 nd:N.Nodup
 pre:N.take P.length=P
 par:∀x∈P,sc.names.lookup x=aj .local\/sc.names.lookup x=aj .cell
 ak3:∀y∈sc.names,y.2≠.free
theorem Ys{kindOf:Str->Option Aw}{x:Str}:∀{binds:List (Str×Value)}{m:Str->Option Value},(∀v,(x,v)∉binds)->yS kindOf binds m x=m x
 |[],_,_=>rfl
 |(n,v)::r,m,h=>by
  unfold yS;rw[Ys λw hw=>h w (dB _ hw)];split
  .have:x≠n:=by rintro rfl;exact h v dj
   simp[this]
  .rfl
theorem Yt{kindOf:Str->Option Aw}{x:Str}:∀{binds:List (Str×Value)}{m:Str->Option Value},(∀v,(x,v)∉binds)->yU kindOf binds m x=m x
 |[],_,_=>rfl
 |(n,v)::r,m,h=>by
  unfold yU;rw[Yt λw hw=>h w (dB _ hw)];split
  .rfl
  .have:x≠n:=by rintro rfl;exact h v dj
   simp[this]
theorem Yu{kindOf:Str->Option Aw}{x:Str}{v:Value}:∀{P:List Str}{vs:List Value}{i:Nat}{m:Str->Option Value},P.Nodup->P[i]?=aj x->vs[i]?=aj v->kindOf x=aj .local->
  yS kindOf (P.zip vs) m x=aj v
 |[],_,_,_,_,h,_,_=>by simp at h
 |_::_,[],_,_,_,_,h,_=>by simp at h
 |p::P,w::vs,0,m,nd,h1,h2,hk=>by
  simp at h1 h2;subst h1;subst h2;show yS kindOf ((p,w)::P.zip vs) m p=_;unfold yS;rw[Ys λv hv=>(kI.mp nd).1 (M7 hv).1,aZ hk];simp
 |p::P,w::vs,i+1,m,nd,h1,h2,hk=>by
  show yS kindOf ((p,w)::P.zip vs) m x=_;unfold yS;exact Yu (i:=i) (kI.mp nd).2 (by simpa using h1) (by simpa using h2) hk
theorem Yv{kindOf:Str->Option Aw}{x:Str}{v:Value}:∀{P:List Str}{vs:List Value}{i:Nat}{m:Str->Option Value},P.Nodup->P[i]?=aj x->vs[i]?=aj v->kindOf x≠aj .local->
  yU kindOf (P.zip vs) m x=aj v
 |[],_,_,_,_,h,_,_=>by simp at h
 |_::_,[],_,_,_,_,h,_=>by simp at h
 |p::P,w::vs,0,m,nd,h1,h2,hk=>by
  simp at h1 h2;subst h1;subst h2;show yU kindOf ((p,w)::P.zip vs) m p=_;unfold yU;rw[Yt λv hv=>(kI.mp nd).1 (M7 hv).1,aY hk];simp
 |p::P,w::vs,i+1,m,nd,h1,h2,hk=>by
  show yU kindOf ((p,w)::P.zip vs) m x=_;unfold yU;exact Yv (i:=i) (kI.mp nd).2 (by simpa using h1) (by simpa using h2) hk
def start(N:List Str)(vs:List V):St:=vs.map aj++cA (N.length-vs.length) ao
def zc(CX:p7)(P:bB)(w:bA)(K:aJ)(mg:Str->Option Value)(base:bh)(N:List Str)(qual:Str)(scope:jG)(f:az)(cd:Value)(A:bV)(outer:List Env)(s:aG)(H:Hp)(E:XK):Cx where
 prog:=P
 w:=w
 K:=K
 mg:=mg
 base:=base
 A:=A.deeper (envOfC qual scope s.heap.objs.size f cd)
 N:=N
 s₀:=s
 H₀:=H
 env:=envOfC qual scope s.heap.objs.size f cd
 outer:=outer
 stack:=envOfC qual scope s.heap.objs.size f cd::outer
 ex:=[]
 calm:=au
 fn:=λ_=>au
 pn:=[]
 xe:=λe s'=>aL (model P w) (A.deeper (envOfC qual scope s.heap.objs.size f cd)) (leaving (envOfC qual scope s.heap.objs.size f cd) e) (λ_ s''=>CX outer H s E e s'') (λe' s''=>CX outer H s E e' s'') s'
theorem Zc{sc:jG}{n:Nat}{x:Str}(h:sc.names.lookup x=aj .cell):∃c,(cellsFrom n sc.names []).lookup x=aj c:=by
 have q:=adS sc.names n [] (.inl h);exact zN.mp q
theorem ahA{CX:p7}{P:bB}{w:bA}{K:aJ}{mg:Str->Option Value}{base:bh}{N ps:List Str}{qual:Str}{scope:jG}{f:az}{cd:Value}{A:bV}{outer:List Env}{s s1:aG}{H:Hp}{E:XK}{us:List Value}{vs:List V}
  (S:gY N ps scope)(hd:A.handled=ao)(e0:zb P w K mg base A outer s H)(hl:vs.length=ps.length)(r:Vals vs us)
  (x:InCallC s s.heap.objs.size (yS (envOfC qual scope s.heap.objs.size f cd).kindOf (ps.zip us) λ_=>ao) (cellsFrom (s.heap.objs.size+1) scope.names []) (yU (envOfC qual scope s.heap.objs.size f cd).kindOf (ps.zip us) λ_=>ao) s1):
  Inv (zc CX P w K mg base N qual scope f cd A outer s H E) [] (start N vs) H s1:=by
 have hpl:ps.length<=N.length:=by have:=congrArg wA S.pre;rw[MF] at this;lia
 obtain⟨h1,tk,rfl,hk⟩:=x.done
 have G4:∀b:az,b∉(zc CX P w K mg base N qual scope f cd A outer s H E).ex:=λb z=>absurd (show b∈([]:List az) from z) (by simp)
 refine⟨⟨e0.mod,S.kind,rfl,rfl,bT _,λy z c h1 h2=>?_,λy hy=>?_,λy c _ h=>?_,λ_=>hd,Around.frames_deeper e0.frames,.inr ⟨rfl,rfl⟩,λb z=>absurd z (G4 b),e0.bs,e0.uy,λb _ _=>G4 b,λb z=>absurd z (G4 b),e0.qM,e0.zu⟩,
  rfl,e0.bare,Un.kept hk,⟨_,x.toInCall.ns,λi y v h1 h2 h3=>?_⟩,λy c h=>⟨_,x.cell y c h⟩,e0.hok.fresh (bT _),λy c h=>?_,λp hp=>absurd (show p∈([]:List (az×Obj)) from hp) (by simp),e0.hok.kept hk,?_⟩
 .exact name_of_addr x.apart (vU h1) (vU h2)
 .have hy:scope.names.lookup y=aj .cell\/scope.names.lookup y=aj .free:=hy;rcases hy with hy|hy
  .exact Zc hy
  .exact absurd rfl (S.ak3 _ (vU hy))
 .exact Af (x.above y c (vU h))
 .have hi:i<vs.length:=by
   unfold start at h2;by_cases hi:i<vs.length
   .exact hi
   .rw[o7 (by simpa using hi)] at h2;rw[Vp] at h2;split at h2<;>cases h2
  have ha:vs[i]?=aj v:=by
   unfold start at h2;rw[o8 (by simpa using hi),jr] at h2;cases e:vs[i]? with
   |none=>rw[e] at h2;cases h2
   |some a=>rw[e] at h2;cases h2;rfl
  obtain⟨u,hu,rv⟩:=r.get ha
  have hp:ps[i]?=aj y:=by
   rw[<-S.pre,List.getElem?_take_of_lt (by lia)];exact h1
  have ndP:ps.Nodup:=by rw[<-S.pre];exact S.nd.sublist (aew _ _)
  refine⟨u,rv,?_⟩
  rcases S.par y (pA hp) with k|k
  .exact .inl ⟨k,Yu ndP hp hu k⟩
  .obtain⟨c,e⟩:=Zc (n:=s.heap.objs.size+1) k
   refine .inr ⟨.inl k,c,e,?_⟩;have q:=x.cell y c e;rw[Yv ndP hp hu (by show scope.names.lookup y≠_;rw[k];decide)] at q;exact q
 .exact e0.hok.fresh (Af (x.above y c (vU h)))
 .unfold start;show _=N.length;rw[lO,bC,qX];lia
theorem al6{CX:p7}{P:bB}{w:bA}{K:aJ}{mg:Str->Option Value}{base:bh}{k:Nat}{f:az}{name qual:Str}{params:Arguments}{body:List dw}{scope:jG}{dV kV doc pm cdv ct oc:Value}{an od:Option az}
  {osl:Array (Option Value)}{N ps:List Str}{sp:Sp}(lk:K.lookup f=aj ⟨oc,od,.func (yo name qual params body scope dV kV doc pm an cdv ct),osl⟩)(hcd:Np K cdv qual=au)(S:gY N ps scope)
  (len:∀vs H Q E,sp vs H Q E->vs.length=ps.length)
  (hbody:∀(A:bV)(outer:List Env)(s:aG)(H:Hp)(vs:List V)(Q:VK)(E:XK),jk k (A.deeper (envOfC qual scope s.heap.objs.size f cdv))->sp vs H Q E->
   ∃t,jA (zc CX P w K mg base N qual scope f cdv A outer s H E) body t/\t {nx:=λ_ H'=>Q .non H',rt:=Q} (start N vs) H):
  dG P w K mg base CX (k+1) f (yo name qual params body scope dV kV doc pm an cdv ct) ps sp:=by
 refine⟨len,λA outer s H args us vs Q E hr e0 hb r hsp=>?_⟩
 have hl:=len _ _ _ _ hsp;have KX:K.In s.heap:=e0.mod.Uj.keeps λb o e=>(e0.bs b o e).1
 have lim:s.heap.NoLimit:=e0.mod.nolimit.keeps λb o e=>(e0.bs b o e).1
 have hkind:∀y∈ps.zip us,scope.names.lookup y.1=aj .local\/(scope.names.lookup y.1=aj .cell/\((cellsFrom (s.heap.objs.size+1) scope.names []).lookup y.1).isSome=au):=λ⟨n,v⟩ hy=>by
  rcases S.par n (M7 hy).1 with q|q
  .exact .inl q
  .exact .inr ⟨q,adS _ _ _ (.inl q)⟩
 refine codeAny_call_function hr.depth (KX _ _ lk) rfl S.co S.gen rfl (PySem.W.codeRec_of KX hcd) (hb _ _ _ _ ?_);refine wpAny_newFunctionEnv_cells S.kind hkind λenv he s1 x=>?_
 subst he
 refine⟨lim.keeps x.toInCall.keep,codeAny_func ?_⟩
 obtain⟨t,ht,hq⟩:=hbody A outer s H vs Q E (hr.deeper _) hsp
 have I:Inv (zc CX P w K mg base N qual scope f cdv A outer s H E) [] (start N vs) H s1:=ahA S hr.hd e0 hl r x;refine oN (ht [] s1 (start N vs) H _ I hq) (λfl s' hs=>?_) λe s' hs=>hs
 have fin:∀{σ':St}{H':Hp}{v:V}{u:Value},Inv (zc CX P w K mg base N qual scope f cdv A outer s H E) [] σ' H' s'->RelV v u->Q v H'->CE outer P w H s Q u s':=
  λ{σ' H' v u} J rv q=>⟨v,H',J.os,J.bare,J.base,J.hok,rv,q⟩
 cases fl with
 |ret u=>
  obtain⟨v,σ',H',J,rv,q⟩:=hs
  exact fin J rv q
 |next=>
  obtain⟨σ',H',J,q⟩:=hs
  exact fin (v:=V.non) (u:=jw) J rfl q
 |brk=>
  obtain⟨_,_,_,q⟩:=hs
  exact rC q
 |cont=>
  obtain⟨_,_,_,q⟩:=hs
  exact rC q
section
variable{X:Cx}{x:Str}{p pos:Pos}{e:Expr}{es:List Expr}{t:TA}{id T:String}{r:List V->Hp->VK->Prop}
def Ut(r:List V->Hp->VK->Prop)(t:TA):TE:=λσ H Q=>t σ H λvs H1=>r vs H1 Q
theorem Jr(hc:je X (.builtin id) r)(hg:Gl X x)(hm:X.mg x=ao)(hv:tK x=aj (.builtin id))(ha:PA X (e::es) t)(hn:x≠"__name__":=by decide)(hdb:(x==("__debug__":Str))=aD:=by decide)
  (he:bG (e::es) X.env=(aD,eval e X.env)::bG es X.env:=by rfl)(hpl:(iM pos (bG es X.env)).any (·.1)=aD:=by rfl):PE X (.Call (.Name x p) (e::es) [] pos) (Ut r t):=by
 intro pins s σ H Q I h;refine Ht (wR I hg hm hv ?_ hn hdb);exact adz (bF (ha pos pins s σ H _ I h) λus s1 ⟨vs,H1,I1,r1,q1⟩=>hc pins s1 σ H1 vs us Q I1 r1 q1) he hpl
theorem ahB(hc:je X (.type T) r)(hg:Gl X x)(hm:X.mg x=ao)(hv:tK x=aj (.type T))(ha:PA X (e::es) t)(hn:x≠"__name__":=by decide)(hdb:(x==("__debug__":Str))=aD:=by decide)
  (he:bG (e::es) X.env=(aD,eval e X.env)::bG es X.env:=by rfl)(hpl:(iM pos (bG es X.env)).any (·.1)=aD:=by rfl):PE X (.Call (.Name x p) (e::es) [] pos) (Ut r t):=by
 intro pins s σ H Q I h;refine Ht (wR I hg hm hv ?_ hn hdb);exact LQ (bF (ha pos pins s σ H _ I h) λus s1 ⟨vs,H1,I1,r1,q1⟩=>hc pins s1 σ H1 vs us Q I1 r1 q1) he hpl
end
end L2
namespace HT
open PySem PyProof.Rows
theorem air(A:bV)(s:aG)(a:Int)(t:Tok)(c:Int)(u:Tok):∃e,Pb A s (.int a t) (.int c u) e/\(e=au↔a=c):=
 ⟨(a==c),aek a t c u,by simp⟩
section
open PySem.SeqAt
open PySem.AutoSeq1 (wpAny_loadPart')
open PySem.MeetsSeq PySem.MeetsSeq2 PySem.MeetsSeq3
end
section
variable{prog:bB}{w:bA}{A:bV}{E:Value->aG->Prop}{s:aG}
theorem ajC{t b:az}{vs ws:List Value}{Q:Value->aG->Prop}(ht:IsTup s.heap t vs.toArray)(hb:IsTup s.heap b ws.toArray)(hv:vs≠[])
  (h1:ws=[]->Q (.ref t) s)(h2:ws≠[]->Q (.ref s.heap.objs.size) {s with heap:=s.heap.push {cls:=.type "tuple",data:=.seq (vs++ws).toArray}})
  (hsz:vs.length+ws.length<=bU):aL (model prog w) A (nG .Add (.ref t) (.ref b)) Q E s:=by
 obtain⟨⟨cls,dd,data,sl⟩,ho,hc,n,hd⟩:=id ht
 obtain⟨⟨cls2,dd2,data2,sl2⟩,ho2,hc2,n2,hd2⟩:=id hb
 simp only at hc hd hc2 hd2;subst hc hd hc2 hd2;have e:vs.toArray++ws.toArray=(vs++ws).toArray:=by simp
 by_cases hw:ws=[]
 .exact Xg ⟨_,ho,rfl⟩ ⟨_,ho2,rfl⟩ Wa W5 Vr Vq (Vm _ _)
   (tuple_addW1 t b vs.toArray ws.toArray n n2 dd dd2 sl sl2 (by simpa using hv) (by simp[hw])) ⟨ho,ho2,h1 hw⟩
 .refine Xg ⟨_,ho,rfl⟩ ⟨_,ho2,rfl⟩ Wa W5 Vr Vq (Vm _ _)
   (tuple_addW2 t b vs.toArray ws.toArray n n2 dd dd2 sl sl2 (by simpa using hv) (by simpa using hw) (by rw[gB,gB];exact hsz)) ⟨ho,ho2,?_⟩
  rw[e];exact h2 hw
def cg(n d:Nat):Option Int->Nat
 |none=>d
 |some v=>if v<0 then(v+(n:Int)).toNat else min v.toNat n
theorem ajD(n d k:Nat):cg n d (aj (k:Int))=min k n:=by
 show(if(k:Int)<0 then((k:Int)+(n:Int)).toNat else min (k:Int).toNat n)=min k n
 rw[aY (by lia),zR]
theorem ak4(n d:Nat)(hd:d<=n)(o:Option Int):cg n d o<=n:=by
 cases o with
 |none=>exact hd
 |some v=>
  show(if v<0 then(v+(n:Int)).toNat else min v.toNat n)<=n
  by_cases hv:v<0
  .rw[aZ hv];lia
  .rw[aY hv];exact Nat.min_le_right _ _
theorem aah(v:Int)(n d:Nat):(if v<0 then max (v+(n:Int)) 0 else min v (n:Int))=((cg n d (aj v):Nat):Int):=by
 show(if v<0 then max (v+(n:Int)) 0 else min v (n:Int))=(((if v<0 then(v+(n:Int)).toNat else min v.toNat n):Nat):Int)
 by_cases hv:v<0
 .simp only[aZ hv];lia
 .simp only[aY hv];lia
theorem agU(lo hi:Option Int)(n:Nat):Vi lo hi 1 (n:Int)=(((cg n 0 lo:Nat):Int),((cg n n hi:Nat):Int)):=by
 have h1:¬((1:Int)<0):=by lia
 unfold Vi;simp only[h1,if_false];refine Prod.ext ?_ ?_
 .cases lo with
  |none=>rfl
  |some v=>exact aah v n 0
 .cases hi with
  |none=>rfl
  |some v=>exact aah v n n
theorem agV(i j:Nat):Mg (i:Int) (j:Int) 1=j-i:=by
 unfold Mg;have h1:(1:Int)>0:=by lia
 simp only[h1,if_true,afT];split<;>lia
theorem XQ{v:Value}{o:Option Int}{Q:Option Int->aG->Prop}(p:t7 v o)(h:Q o s):aL (model prog w) A (aoU v) Q E s:=by
 cases p with
 |none=>exact slicePart_none h
 |int i t=>exact slicePart_int h
theorem Wb{sl:az}{vl vu:Value}{lo hi:Option Int}{n:Nat}{Q:Int×Int×Nat->aG->Prop}(hs:s.heap.IsSliceOf sl vl vu .none)(pl:t7 vl lo)(pu:t7 vu hi)
  (h:Q (((cg n 0 lo:Nat):Int),1,cg n n hi-cg n 0 lo) s):aL (model prog w) A (adI (.ref sl) (pure (n:Int))) Q E s:=by
 obtain⟨os,hos,hcs,hds⟩:=id hs
 unfold adI ao7;refine aB (aB (oM hos hds (x:=vl) rfl (aB (oM hos hds (x:=vu) rfl (aB (oM hos hds (x:=.none) rfl (aW ?_)))))));refine aB (slicePart_none ?_);show aL _ _ (if((1:Int)==0)=au then _ else _) _ _ s;rw[aY (by decide)];refine aB (XQ pl (aB (XQ pu (aB (aW ?_)))));show aL _ _ (match Vi lo hi 1 (n:Int) with|(lo,hi)=>pure (lo,(1:Int),Mg lo hi 1)) _ _ s;rw[agU lo hi n];show aL _ _ (pure (((cg n 0 lo:Nat):Int),(1:Int),Mg ((cg n 0 lo:Nat):Int) ((cg n n hi:Nat):Int) 1)) _ _ s;rw[agV];exact aW h
theorem ais(xs:Array Value)(i k:Nat):((gC k).filterMap λ(m:Nat)=>xs[((i:Int)+(m:Int)*1).toNat]?).toArray=((xs.toList.drop i).take k).toArray:=by
 have e:(λ(m:Nat)=>xs[((i:Int)+(m:Int)*1).toNat]?)=λm=>xs[i+m]?:=by
  funext m;have:((i:Int)+(m:Int)*1).toNat=i+m:=by lia
  rw[this]
 rw[e];have:=pick_run xs i k;rw[List.filterMap_map] at this;have e2:((λx=>xs[x]?) ∘ λx=>i+x)=λm=>xs[i+m]?:=rfl
 rw[e2] at this;rw[this]
theorem aex{t sl:az}{items:Array Value}{vl vu:Value}{lo hi:Option Int}{Q:Value->aG->Prop}(ht:IsTup s.heap t items)(hs:s.heap.IsSliceOf sl vl vu .none)(pl:t7 vl lo)(pu:t7 vu hi)
  (hw:¬(cg items.size 0 lo=0/\cg items.size items.size hi=items.size))
  (h:Q (.ref s.heap.objs.size) {s with heap:=s.heap.push {cls:=.type "tuple",data:=.seq ((items.toList.drop (cg items.size 0 lo)).take (cg items.size items.size hi-cg items.size 0 lo)).toArray}})
  (hsz:items.size<=bU):aL (model prog w) A (wK (.ref t) (.ref sl)) Q E s:=by
 have Kq:sizeOk (.seq ((items.toList.drop (cg items.size 0 lo)).take (cg items.size items.size hi-cg items.size 0 lo)).toArray):=by
  show((items.toList.drop (cg items.size 0 lo)).take (cg items.size items.size hi-cg items.size 0 lo)).toArray.size<=bU
  rw[gB,MF,Wc,kZ];lia
 have hj:cg items.size items.size hi<=items.size:=ak4 _ _ (bT _) hi
 obtain⟨os,hos,hcs,hds⟩:=id hs
 have hTs:s.TypeIs (.ref sl) "slice":=⟨os,hos,hcs⟩
 unfold wK
 try with_reducible refine jL ?_
 first|refine aB (aW ?_)|skip
 refine aB (aey ht.typeIs (by decide) ?_);refine aB (qW (name:=bZ "__getitem__") ht.typeIs Lz
  (lQ Lz ht.typeIs entry_tuple_getitem ?_ (args_tuple_getitem _ _)))
 show aL _ _ (adJ (.ref t) >>= _) _ _ s;refine aB (tupleItemsOf_ ht ?_);refine aB (Ii hTs ?_);rw[aZ (by decide)];refine aB (Wb hs pl pu ?_);have hno:¬((((cg items.size 0 lo:Nat):Int)==0&&(1:Int)==1&&(cg items.size items.size hi-cg items.size 0 lo)==items.size)=au):=by
  intro q;rw[jl,jl] at q;have q1:((cg items.size 0 lo:Nat):Int)=0:=eq_of_beq q.1.1;have q2:cg items.size items.size hi-cg items.size 0 lo=items.size:=eq_of_beq q.2;exact hw ⟨by lia,by lia⟩
 show aL _ _ (if(((cg items.size 0 lo:Nat):Int)==0&&(1:Int)==1&&(cg items.size items.size hi-cg items.size 0 lo)==items.size)=au then _ else _) _ _ s;rw[aY hno,ais]
 first
  |exact aB (m:=Mh _) (j0 (aW ⟨_,rfl,aW h⟩) Kq)
  |exact aB (m:=Mh _) (j0 (aB (aW (aW ⟨_,rfl,aW h⟩))) Kq)
  |exact aB (aB (m:=Mh _) (j0 (aW (aW ⟨_,rfl,aW h⟩)) Kq))
  |exact aB (aB (m:=Mh _) (j0 (aW ⟨_,rfl,aW h⟩) Kq))
end
end HT
namespace L2
open PySem PySem.Spec PyProof.Rows
abbrev TO:=St->Hp->(Option Int->Hp->Prop)->Prop
def PO(X:Cx)(e:Option Expr)(t:TO):Prop:=
 ∀(pins:List (az×Obj))(s:aG)(σ:St)(H:Hp)(Q:Option Int->Hp->Prop),Inv X pins σ H s->t σ H Q->
  aL (model X.prog X.w) X.A (evalPart e X.env) (λu s'=>∃o H',Inv X pins σ H' s'/\t7 u o/\Q o H') X.xe s
def ajE:TO:=λ_ H Q=>Q ao H
def al7(t:TE):TO:=λσ H Q=>t σ H λx H1=>∃i,x=.int i/\Q (aj i) H1
theorem intsAre_of{ns:List Int}:∀{us:List Value},Vals (ns.map V.int) us->IntsAre us ns:=by
 induction ns with
 |nil=>intro us r;rw[pI] at r;cases r;exact .nil
 |cons n ns ih=>
  intro us r;rw[cV] at r;cases r with
  |cons r1 r2=>
   obtain⟨t,e⟩:=r1
   subst e;exact .cons n t (ih r2)
section
variable{X:Cx}{e:Expr}{te:TE}{lo hi:Option Expr}{tl th:TO}{pos p2:Pos}
theorem ajF:PO X ao ajE:=by
 intro pins s σ H Q I h;rw[evalPart_none];exact aW ⟨ao,H,I,.none,h⟩
theorem ajG(h:PE X e te):PO X (aj e) (al7 te):=by
 intro pins s σ H Q I hw;rw[evalPart_some];refine bF (h pins s σ H _ I hw) λu s1 aP=>?_
 obtain⟨x,H1,I1,r1,q1⟩:=aP
 obtain⟨i,rfl,q⟩:=q1
 obtain⟨t,rfl⟩:=r1
 exact⟨aj i,H1,I1,.int i t,q⟩
def vO(X:Cx)(r:V->Option Int->Option Int->Hp->VK->Prop):Prop:=
 ∀(pins:List (az×Obj))(s:aG)(σ:St)(H:Hp)(x:V)(v vl vu:Value)(lo hi:Option Int)(sl:az)(Q:VK),Inv X pins σ H s->RelV x v->s.heap.IsSliceOf sl vl vu .none->t7 vl lo->t7 vu hi->r x lo hi H Q->
  ∃T id,typeLookup (.type T) "__getitem__"=pure (aj (.builtin id))/\s.TypeIs v T/\aL (model X.prog X.w) X.A (wK v (.ref sl)) (EP X pins σ Q) X.xe s
theorem vO.or{r r':V->Option Int->Option Int->Hp->VK->Prop}(h:vO X r)(h':vO X r'):vO X (λx lo hi H Q=>r x lo hi H Q\/r' x lo hi H Q):=by
 intro pins s σ H x v vl vu lo hi sl Q I rx hs pl pu q;rcases q with q|q
 .exact h pins s σ H x v vl vu lo hi sl Q I rx hs pl pu q
 .exact h' pins s σ H x v vl vu lo hi sl Q I rx hs pl pu q
def tSl(r:V->Option Int->Option Int->Hp->VK->Prop)(te:TE)(tl th:TO):TE:=λσ H Q=>te σ H λx H1=>tl σ H1 λl H2=>th σ H2 λu H3=>r x l u H3 Q
theorem ait{r:V->Option Int->Option Int->Hp->VK->Prop}(hr:vO X r)(he:PE X e te)(hl:PO X lo tl)(hu:PO X hi th):PE X (.Subscript e (.Slice lo hi ao p2) pos) (tSl r te tl th):=by
 intro pins s σ H Q I h;refine Subscript_ (bF (he pins s σ H _ I h) λv s1 aP=>?_)
 obtain⟨x,H1,I1,r1,q1⟩:=aP
 refine wpAny_Slice (bF (hl pins s1 σ H1 _ I1 q1) λvl s2 ⟨l,H2,I2,pl,q2⟩=>bF (hu pins s2 σ H2 _ I2 q2) λvu s3 aP=>?_)
 obtain⟨u,H3,I3,pu,q3⟩:=aP
 rw[evalPart_none];refine aW ?_;have I4:Inv X pins σ H3 {s3 with heap:=s3.heap.push {cls:=.type "slice",data:=.fields #[vl,vu,.none]}}:=I3.kept (t':=s3.toks) λb ob q=>bR _ q
 obtain⟨T,id,hT,ht,hg⟩:=hr pins {s3 with heap:=s3.heap.push {cls:=.type "slice",data:=.fields #[vl,vu,.none]}} σ H3 x v vl vu l u s3.heap.objs.size Q I4 r1 (apu ..) pl pu q3
 show aL (model X.prog X.w) X.A (subscriptTail e (.Slice lo hi ao p2) v (.ref s3.heap.objs.size)) (EP X pins σ Q) X.xe {s3 with heap:=s3.heap.push {cls:=.type "slice",data:=.fields #[vl,vu,.none]}};exact tail_any (ops:=[.ref s3.heap.objs.size,v]) ht hT hg (by with_unfolding_all rfl)
def rY(xs:List V)(lo hi:Option Int):List V:=(xs.drop (HT.cg xs.length 0 lo)).take (HT.cg xs.length xs.length hi-HT.cg xs.length 0 lo)
theorem Xu(xs:List V)(lo hi:Option Int):(rY xs lo hi).length<=xs.length:=by
 unfold rY;rw[MF,Wc];lia
def anc(K:aJ):V->Option Int->Option Int->Hp->VK->Prop:=λx lo hi H Q=>∃a xs,x=.ref a/\cz K H a xs/\
 ¬(HT.cg xs.length 0 lo=0/\HT.cg xs.length xs.length hi=xs.length)/\∀p,H p=ao->Q (.ref p) (upd H p (.tup (rY xs lo hi)))
theorem ak5:vO X (anc X.K):=by
 intro pins s σ H x v vl vu lo hi sl Q I rx hs pl pu h
 obtain⟨a,xs,rfl,hx,hw,q⟩:=h
 cases rx
 obtain⟨its,r,ht,hz⟩:=I.tuple hx
 have hlen:its.toArray.size=xs.length:=by rw[gB];exact r.length.symm
 refine⟨"tuple",_,PyProof.Rows.slot_tuple_getitem.lookup,ht.typeIs,?_⟩
 refine HT.aex ht hs pl pu (by rw[hlen];exact hw) ?_ (by rw[hlen];exact hz);rw[hlen]
 refine⟨.ref s.heap.objs.size,_,I.laid (t':=s.toks) (o:=.tup (rY xs lo hi)) (λb ob q=>bR _ q) (bT _) ?_,rfl,q _ (I.hok.fresh (bT _))⟩
 exact⟨ju (Xu xs lo hi) hz,_,(r.drop (HT.cg xs.length 0 lo)).take (HT.cg xs.length xs.length hi-HT.cg xs.length 0 lo),IsTup.new _ _⟩
def abU(K:aJ):R2:=λx y H Q=>∃a b xs ys,x=.ref a/\y=.ref b/\cz K H a xs/\cz K H b ys/\xs≠[]/\xs.length+ys.length<=bU/\
 (ys=[]->Q (.ref a) H)/\(ys≠[]->∀p,H p=ao->Q (.ref p) (upd H p (.tup (xs++ys))))
theorem Vals.Rh{xs:List V}{us:List Value}(r:Vals xs us):us=[]↔xs=[]:=by
 cases r with
 |nil=>simp
 |cons _ _=>simp
theorem ajH:cX X (nG .Add) (abU X.K):=by
 intro pins s σ H x y v u Q I rx ry h
 obtain⟨a,b,xs,ys,rfl,rfl,ha,hb,hx,hz,q1,q2⟩:=h
 cases rx;cases ry
 obtain⟨its,r1,p1,_⟩:=I.tuple ha
 obtain⟨its2,r2,p2,_⟩:=I.tuple hb
 refine HT.ajC p1 p2 (λz=>hx (r1.Rh.mp z)) (λz=>⟨.ref a,H,I,rfl,q1 (r2.Rh.mp z)⟩) (λz=>?_) (by rw[<-r1.length,<-r2.length];exact hz)
 refine⟨.ref s.heap.objs.size,_,I.laid (t':=s.toks) (o:=.tup (xs++ys)) (λb ob q=>bR _ q) (bT _) ?_,rfl,q2 (λw=>z (r2.Rh.mpr w)) _ (I.hok.fresh (bT _))⟩
 exact⟨by rw[lO];exact hz,_,r1.append r2,IsTup.new _ _⟩
end
def n6(n:Nat)(i:Int):Option Nat:=if 0<=i then(if i<n then aj i.toNat else ao) else if -(n:Int)<=i then aj (i+n).toNat else ao
def ie{α:Type}(xs:List α)(i:Int):Option α:=(n6 xs.length i).bind λj=>xs[j]?
theorem aai{n:Nat}{i:Int}{j:Nat}(h:n6 n i=aj j):seqIndex? i n=aj j/\j<n/\-(n:Int)<=i/\i<n:=by
 unfold n6 at h;by_cases h0:0<=i
 .rw[aZ h0] at h;by_cases h1:i<n
  .rw[aZ h1] at h;have e:i.toNat=j:=jb h
   exact⟨by rw[Xv h0 h1,e],by lia,by lia,h1⟩
  .rw[aY h1] at h;cases h
 .rw[aY h0] at h;by_cases h1:-(n:Int)<=i
  .rw[aZ h1] at h;have e:(i+n).toNat=j:=jb h
   exact⟨by rw[Xh (by lia) h1,e],by lia,h1,by lia⟩
  .rw[aY h1] at h;cases h
theorem Ri{α:Type}{xs:List α}{i:Int}{v:α}(h:ie xs i=aj v):∃j,seqIndex? i xs.length=aj j/\xs[j]?=aj v/\j<xs.length/\-(xs.length:Int)<=i/\i<xs.length:=by
 unfold ie at h;cases e:n6 xs.length i with
 |none=>rw[e] at h;cases h
 |some j=>
  rw[e] at h
  obtain⟨h1,h2,h3,h4⟩:=aai e
  exact⟨j,h1,h,h2,h3,h4⟩
theorem wL{α:Type}{xs:List α}{j:Nat}{v:α}(h:xs[j]?=aj v):ie xs (j:Int)=aj v:=by
 have hj:j<xs.length:=(kj.mp h).1;have e:n6 xs.length (j:Int)=aj j:=by
  unfold n6;rw[aZ (by lia),aZ (by lia)];simp
 unfold ie;rw[e];exact h
def JP(b:Expr):Prop:=∀o i,Xw b aD o i=operate [o,i] (wK o i)
def qR(X:Cx)(r:R2):Prop:=
 ∀(value slice:Expr)(pins:List (az×Obj))(s:aG)(σ:St)(H:Hp)(x y:V)(v u:Value)(Q:VK),Inv X pins σ H s->RelV x v->RelV y u->r x y H Q->
  Xw slice aD v u=operate [v,u] (wK v u)->aL (model X.prog X.w) X.A (subscriptTail value slice v u) (EP X pins σ Q) X.xe s
def De(X:Cx)(id:String)(r:V->List V->Hp->VK->Prop):Prop:=
 ∀(pins:List (az×Obj))(s:aG)(σ:St)(H:Hp)(x:V)(xs:List V)(v:Value)(us:List Value)(Q:VK),Inv X pins σ H s->RelV x v->Vals xs us->r x xs H Q->
  aL (model X.prog X.w) X.A (call (.builtin id) (v::us)) (EP X pins σ Q) X.xe s
section
variable{X:Cx}{a b:Expr}{ta tb:TE}{pos:Pos}
theorem qR.or{r r':R2}(h:qR X r)(h':qR X r'):qR X (λx y H Q=>r x y H Q\/r' x y H Q):=by
 intro value slice pins s σ H x y v u Q I rx ry q hs;rcases q with q|q
 .exact h value slice pins s σ H x y v u Q I rx ry q hs
 .exact h' value slice pins s σ H x y v u Q I rx ry q hs
theorem De.or{id:String}{r r':V->List V->Hp->VK->Prop}(h:De X id r)(h':De X id r'):De X id (λx xs H Q=>r x xs H Q\/r' x xs H Q):=by
 intro pins s σ H x xs v us Q I rx rs q;rcases q with q|q
 .exact h pins s σ H x xs v us Q I rx rs q
 .exact h' pins s σ H x xs v us Q I rx rs q
theorem S8{r:R2}(hr:qR X r)(ha:PE X a ta)(hb:PE X b tb)(hs:JP b):PE X (.Subscript a b pos) (G3 r ta tb):=by
 intro pins s σ H Q I h;exact Subscript_ (Tt ha hb I h λv u s2 x y H2 I2 rx ry q=>hr a b pins s2 σ H2 x y v u Q I2 rx ry q (hs _ _))
def acD(K:aJ):R2:=λx y H Q=>∃p xs i v,x=.ref p/\y=.int i/\bK K H p xs/\ie xs i=aj v/\Q v H
def acE(K:aJ):R2:=λx y H Q=>∃p xs i v,x=.ref p/\y=.int i/\cz K H p xs/\ie xs i=aj v/\Q v H
def acF:R2:=λx y H Q=>∃z i c,x=.str z/\y=.int i/\z.length<=bU/\ie z.cps.toList i=aj c/\Q (.str ⟨#[c]⟩) H
theorem Rj:qR X (acD X.K):=by
 intro value slice pins s σ H x y v u Q I rx ry h hs
 obtain⟨p,xs,i,z,rfl,rfl,hq,he,q⟩:=h
 cases rx
 obtain⟨t,rfl⟩:=ry
 obtain⟨its,r,pl,hz⟩:=I.list hq
 obtain⟨j,h1,h2,h3,h4,h5⟩:=Ri he
 obtain⟨w,ew,rw'⟩:=r.get h2
 have hl:=r.length;have hn:=yI;have fin:EP X pins σ Q w s:=⟨z,H,I,rw',q⟩
 by_cases h0:0<=i
 .have hj:i.toNat=j:=by
   rw[Xv h0 h5] at h1;exact jb h1
  exact item_listR pl.isList h0 (by lia) (by rw[hj];simpa using ew) fin hs
 .have hj:(i+(its.toArray.size:Int)).toNat=j:=by
   rw[Xh (by lia) h4] at h1;rw[gB,<-hl];exact jb h1
  exact subscriptTail_builtinR (x:=w) pl.isList.typeIs slot_list_getitem.lookup
   (wpAny_getItem_list_neg (Q:=λr s'=>r=w/\EP X pins σ Q r s') pl.isList (by lia) (by rw[gB]<;>lia) (by lia) (by rw[hj];simpa using ew) ⟨rfl,fin⟩) hs
theorem ak6:qR X (acE X.K):=by
 intro value slice pins s σ H x y v u Q I rx ry h hs
 obtain⟨p,xs,i,z,rfl,rfl,hq,he,q⟩:=h
 cases rx
 obtain⟨t,rfl⟩:=ry
 obtain⟨its,r,pl,hz⟩:=I.tuple hq
 obtain⟨j,h1,h2,h3,h4,h5⟩:=Ri he
 obtain⟨w,ew,rw'⟩:=r.get h2
 have hl:=r.length;have hn:=yI;have fin:EP X pins σ Q w s:=⟨z,H,I,rw',q⟩
 exact subscriptTail_builtinR (x:=w) pl.typeIs slot_tuple_getitem.lookup
  (getItem_tuple (j:=j) (Q:=λr s'=>r=w/\EP X pins σ Q r s') pl (by lia) (by lia) (by rw[gB,<-hl];exact h1) (by simpa using ew) ⟨rfl,fin⟩) hs
theorem ak7:qR X acF:=by
 intro value slice pins s σ H x y v u Q I rx ry h hs
 obtain⟨z,i,c,rfl,rfl,hz,he,q⟩:=h
 obtain⟨t,rfl⟩:=rx
 obtain⟨t',rfl⟩:=ry
 obtain⟨j,h1,h2,h3,h4,h5⟩:=Ri he
 have hl:z.cps.toList.length=z.length:=by simp[Str.length]
 rw[hl] at h1 h4 h5;have hn:=yI;exact tail_any (XR s z t) slot_str_getitem.lookup (getItem_str (c:=c) (by
  have e1:decide (i< -(2^63:Int))=aD:=iU (by lia);have e2:decide (i>=2^63)=aD:=iU (by lia);rw[e1,e2,Bool.or_false]) (by rw[h1];simpa using h2) ⟨.str ⟨#[c]⟩,H,I.tok _,⟨_,rfl⟩,q⟩) hs
def rIx(K:aJ):R2:=λx y H Q=>acD K x y H Q\/acE K x y H Q\/acF x y H Q
theorem ak8:qR X (rIx X.K):=Rj.or (ak6.or ak7)
theorem agW(its:List Value)(n j:Nat)(u:Value):lU (·.setIfInBounds j u) {cls:=.type "list",data:=.seq its.toArray n}={cls:=.type "list",data:=.seq (its.set j u).toArray n}:=by
 simp[lU]
theorem Inv.lst{pins:List (az×Obj)}{σ:St}{H:Hp}{s:aG}{p:az}{xs:List V}(I:Inv X pins σ H s)(h:H p=aj (.lst xs)):
  ∃(its:List Value)(n:Nat),Vals xs its/\s.heap.get? p=aj {cls:=.type "list",data:=.seq its.toArray n}/\xs.length<=bU:=by
 obtain⟨z,its,n,r,e⟩:=I.hok p _ h
 exact⟨its,n,r,e,z⟩
theorem Inv.ak9{pins:List (az×Obj)}{σ:St}{H:Hp}{s:aG}{p:az}{xs ys:List V}{its its':List Value}{n n':Nat}{f:Obj->Obj}(I:Inv X pins σ H s)(h:H p=aj (.lst xs))
  (ho:s.heap.get? p=aj {cls:=.type "list",data:=.seq its.toArray n})(hf:f {cls:=.type "list",data:=.seq its.toArray n}={cls:=.type "list",data:=.seq its'.toArray n'})(r:Vals ys its')(hz:ys.length<=bU)(t:Nat):
  Inv X pins σ (upd H p (.lst ys)) {s with heap:=s.heap.update p f,toks:=t}:=by
 have e:(s.heap.update p f).get? p=aj {cls:=.type "list",data:=.seq its'.toArray n'}:=by
  rw[sW f ho (by rw[hf]<;>rfl),hf]
 refine I.write (x:=p) (e:=p) (by rw[h];trivial) (.inl rfl) (λb u hb q=>(nj _ _ (fQ hb)).trans q) ⟨_,e⟩ ?_
 exact⟨hz,its',n',r,e⟩
def S9:V->V->V->Hp->(Hp->Prop)->Prop:=λo i v H Q=>∃p xs k j,o=.ref p/\i=.int k/\H p=aj (.lst xs)/\n6 xs.length k=aj j/\Q (upd H p (.lst (xs.set j v)))
theorem set_list:vC X S9:=by
 intro pins s σ H o i v ov iv u Q I ro ri rv h
 obtain⟨p,xs,k,j,rfl,rfl,hp,hj,q⟩:=h
 cases ro
 obtain⟨t,rfl⟩:=ri
 obtain⟨its,n,r,ho,hz⟩:=I.lst hp
 obtain⟨h1,h2,h3,h4⟩:=aai hj
 have hl:=r.length;have hn:=yI;have I':Inv X pins σ (upd H p (.lst (xs.set j v))) {s with heap:=s.heap.update p (lU (·.setIfInBounds j u))}:=
  I.ak9 hp ho (agW its n j u) (r.set rv j) (by rw[vZ];exact hz) s.toks
 by_cases h0:0<=k
 .have hk:k.toNat=j:=by
   rw[Xv h0 h4] at h1;exact jb h1
  exact PySem.W.ki_setAt ho h0 (by lia) (by rw[gB,<-hl];exact h4) (by rw[hk];exact⟨_,I',q⟩)
 .have hk:(k+(its.toArray.size:Int)).toNat=j:=by
   rw[Xh (by lia) h3] at h1;rw[gB,<-hl];exact jb h1
  exact PySem.W.ki_setBack ho (by lia) (by rw[gB,<-hl];exact h3) (by lia) (by rw[hk];exact⟨_,I',q⟩)
theorem afU(lo hi:Option Int)(n:Nat):(Ag lo hi ao n).1=((HT.cg n 0 lo:Nat):Int)/\(Ag lo hi ao n).2.1=((HT.cg n n hi:Nat):Int)/\(Ag lo hi ao n).2.2=1:=by
 refine⟨?_,?_,rfl⟩
 .cases lo with
  |none=>simp[Ag,HT.cg]
  |some i=>
   simp only[Ag,HT.cg,aeR,show(1:Int)>0 by decide,if_true];by_cases h:i<0
   .simp only[h,if_true]<;>lia
   .simp only[h,if_false]<;>lia
 .cases hi with
  |none=>simp[Ag,HT.cg]
  |some i=>
   simp only[Ag,HT.cg,aeR,show(1:Int)>0 by decide,if_true];by_cases h:i<0
   .simp only[h,if_true]<;>lia
   .simp only[h,if_false]<;>lia
theorem afw(its:List Value)(lo hi:Option Int):slicePick its.toArray lo hi ao=((its.drop (HT.cg its.length 0 lo)).take (HT.cg its.length its.length hi-HT.cg its.length 0 lo)).toArray:=by
 obtain⟨h1,h2,h3⟩:=afU lo hi its.toArray.size
 unfold slicePick;rw[h1,h2,h3];simp only[sliceRange_one,pick_run,gB]<;>rfl
def ane(K:aJ):V->Option Int->Option Int->Hp->VK->Prop:=λx lo hi H Q=>∃a xs,x=.ref a/\bK K H a xs/\∀p,H p=ao->Q (.ref p) (upd H p (.lst (rY xs lo hi)))
theorem ajI:vO X (ane X.K):=by
 intro pins s σ H x v vl vu lo hi sl Q I rx hs pl pu h
 obtain⟨a,xs,rfl,hx,q⟩:=h
 cases rx
 obtain⟨its,r,ht,hz⟩:=I.list hx
 have hlen:=r.length
 refine⟨"list",_,slot_list_getitem.lookup,ht.isList.typeIs,?_⟩
 refine wpAny_getItem_list_slice ht.isList hs pl pu .none (by simp) ?_ (by rw[gB]<;>lia);rw[afw,<-hlen]
 refine⟨.ref s.heap.objs.size,_,I.laid (t':=s.toks) (o:=.lst (rY xs lo hi)) (λb ob q=>bR _ q) (bT _) ?_,rfl,q _ (I.hok.fresh (bT _))⟩
 exact⟨ju (Xu xs lo hi) hz,_,0,(r.drop (HT.cg xs.length 0 lo)).take (HT.cg xs.length xs.length hi-HT.cg xs.length 0 lo),fV _ rfl⟩
def pO:V->Bool
 |.non=>au
 |.bl _=>au
 |.int _=>au
 |.str _=>au
 |_=>aD
def sE:V->V->Bool
 |.non,.non=>au
 |.bl a,.bl b=>a==b
 |.bl a,.int b=>(if a then 1 else 0)==b
 |.int a,.bl b=>a==(if b then 1 else 0)
 |.int a,.int b=>a==b
 |.str a,.str b=>a==b
 |_,_=>aD
theorem J7{A:bV}{s:aG}{y x:V}{u v:Value}(ry:RelV y u)(rx:RelV x v)(fy:pO y=au)(fx:pO x=au):Pb A s u v (sE y x):=by
 cases y with
 |non=>
  cases ry;cases x with
  |non=>cases rx;exact SeqAt.EqAt.same _
  |bl b=>cases rx;exact SeqAt.EqAt.none_bool b
  |int b=>obtain⟨t,rfl⟩:=rx;exact SeqAt.EqAt.none_int b t
  |str b=>obtain⟨t,rfl⟩:=rx;exact SeqAt.EqAt.none_str b t
  |_=>exact absurd (show aD=au from fx) iw
 |bl a=>
  cases ry;cases x with
  |non=>cases rx;exact SeqAt.EqAt.bool_none a
  |bl b=>cases rx;exact SeqAt.EqAt.bool_bool a b
  |int b=>obtain⟨t,rfl⟩:=rx;exact SeqAt.EqAt.bool_int a b t
  |str b=>obtain⟨t,rfl⟩:=rx;exact SeqAt.EqAt.bool_str a b t
  |_=>exact absurd (show aD=au from fx) iw
 |int a=>
  obtain⟨t',rfl⟩:=ry
  cases x with
  |non=>cases rx;exact SeqAt.EqAt.int_none a t'
  |bl b=>cases rx;exact SeqAt.EqAt.int_bool a t' b
  |int b=>obtain⟨t,rfl⟩:=rx;exact aek a t' b t
  |str b=>obtain⟨t,rfl⟩:=rx;exact aef a t' b t
  |_=>exact absurd (show aD=au from fx) iw
 |str a=>
  obtain⟨t',rfl⟩:=ry
  cases x with
  |non=>cases rx;exact SeqAt.EqAt.str_none a t'
  |bl b=>cases rx;exact SeqAt.EqAt.str_bool a t' b
  |int b=>obtain⟨t,rfl⟩:=rx;exact aeg a t' b t
  |str b=>obtain⟨t,rfl⟩:=rx;exact SeqAt.EqAt.str_str a t' b t
  |_=>exact absurd (show aD=au from fx) iw
 |_=>exact absurd (show aD=au from fy) iw
def oh(x:V)(u:Value):Bool:=match u with
 |.none=>sE .non x
 |.bool b=>sE (.bl b) x
 |.int i _=>sE (.int i) x
 |.str z _=>sE (.str z) x
 |_=>aD
theorem aa7{x y:V}{u:Value}(r:RelV y u)(f:pO y=au):oh x u=sE y x:=by
 cases y with
 |non=>cases r;rfl
 |bl b=>cases r;rfl
 |int i=>obtain⟨t,rfl⟩:=r;rfl
 |str z=>obtain⟨t,rfl⟩:=r;rfl
 |_=>exact absurd (show aD=au from f) iw
theorem Fj{x:V}:∀{xs:List V}{us:List Value},Vals xs us->xs.all pO=au->us.any (oh x)=xs.any λy=>sE y x
 |_,_,.nil,_=>rfl
 |y::xs,u::us,.cons r t,f=>by
  rw[HS,jl] at f;rw[HW,HW,aa7 r f.1,Fj t f.2]
theorem EY{A:bV}{s:aG}{x:V}{v:Value}(rx:RelV x v)(fx:pO x=au):∀{xs:List V}{us:List Value},Vals xs us->xs.all pO=au->∀u∈us,Pb A s u v (oh x u)
 |_,_,.nil,_=>λu hu=>by cases hu
 |y::xs,u::us,.cons r t,f=>λu' hu=>by
  rw[HS,jl] at f;rcases bJ.mp hu with rfl|hu
  .rw[aa7 r f.1];exact J7 r rx f.1 fx
  .exact EY rx fx t f.2 u' hu
def inV(x:V)(xs:List V):Bool:=xs.any λy=>sE y x
def Lb(K:aJ)(neg:Bool):R2:=λx y H Q=>∃p xs,y=.ref p/\(bK K H p xs\/cz K H p xs)/\pO x=au/\xs.all pO=au/\Q (.bl (if neg then !inV x xs else inV x xs)) H
theorem ahC:cX X (fj .In) (Lb X.K aD):=by
 intro pins s σ H x y v u Q I rx ry h
 obtain⟨p,xs,rfl,hq,fx,fs,q⟩:=h
 cases ry;rcases hq with hq|hq
 .obtain⟨its,r,pl,hz⟩:=I.list hq
  refine SeqAt.in_listAt (oh x) pl.isList (λw hw=>EY rx fx r fs w (by simpa using hw)) ⟨.bl _,H,I,rfl,?_⟩;rw[show its.toArray.any (oh x)=its.any (oh x) by simp,Fj r fs];exact q
 .obtain⟨its,r,pl,hz⟩:=I.tuple hq
  refine SeqAt.in_tupleAt (oh x) pl (λw hw=>EY rx fx r fs w (by simpa using hw)) ⟨.bl _,H,I,rfl,?_⟩;rw[show its.toArray.any (oh x)=its.any (oh x) by simp,Fj r fs];exact q
theorem afV:cX X (fj .NotIn) (Lb X.K au):=by
 intro pins s σ H x y v u Q I rx ry h
 obtain⟨p,xs,rfl,hq,fx,fs,q⟩:=h
 cases ry;rcases hq with hq|hq
 .obtain⟨its,r,pl,hz⟩:=I.list hq
  refine SeqAt.notIn_listAt (oh x) pl.isList (λw hw=>EY rx fx r fs w (by simpa using hw)) ⟨.bl _,H,I,rfl,?_⟩;rw[show its.toArray.any (oh x)=its.any (oh x) by simp,Fj r fs];exact q
 .obtain⟨its,r,pl,hz⟩:=I.tuple hq
  refine SeqAt.notIn_tupleAt (oh x) pl (λw hw=>EY rx fx r fs w (by simpa using hw)) ⟨.bl _,H,I,rfl,?_⟩;rw[show its.toArray.any (oh x)=its.any (oh x) by simp,Fj r fs];exact q
theorem Xi:je X (.builtin "len") (λxs H Q=>∃p ys,xs=[.ref p]/\(bK X.K H p ys\/cz X.K H p ys)/\Q (.int ys.length) H):=by
 intro pins s σ H xs us Q I r h
 obtain⟨p,ys,rfl,hq,q⟩:=h
 obtain⟨u,rfl,rx⟩:=vals1 r
 cases rx;have hn:=yI;rcases hq with hq|hq
 .obtain⟨its,r',pl,hz⟩:=I.list hq
  have hlen:=r'.length;exact Calls.call_len_list pl.isList (by simp only[gB]<;>lia) ⟨.int ys.length,H,I.tok _,⟨s.toks+1,by rw[gB,hlen]⟩,q⟩
 .obtain⟨its,r',pl,hz⟩:=I.tuple hq
  have hlen:=r'.length;exact len_tuple pl (by simp only[gB]<;>lia) ⟨.int ys.length,H,I.tok _,⟨s.toks+1,by rw[gB,hlen]⟩,q⟩
theorem afW:je X (.builtin "len") (λxs H Q=>∃z,xs=[.str z]/\z.length<=bU/\Q (.int z.length) H):=by
 intro pins s σ H xs us Q I r h
 obtain⟨z,rfl,hz,q⟩:=h
 obtain⟨u,rfl,t,rfl⟩:=vals1 r
 have hn:=yI;exact len_str (by lia) ⟨.int z.length,H,I.tok _,⟨_,rfl⟩,q⟩
theorem je.or{f:Value}{r r':List V->Hp->VK->Prop}(h:je X f r)(h':je X f r'):je X f (λxs H Q=>r xs H Q\/r' xs H Q):=by
 intro pins s σ H xs us Q I rs q;rcases q with q|q
 .exact h pins s σ H xs us Q I rs q
 .exact h' pins s σ H xs us Q I rs q
theorem HX:je X (.type "tuple") (λxs H Q=>∃p ys,xs=[.ref p]/\((bK X.K H p ys/\∀l,H l=ao->Q (.ref l) (upd H l (.tup ys)))\/(cz X.K H p ys/\Q (.ref p) H))):=by
 intro pins s σ H xs us Q I r h
 obtain⟨p,ys,rfl,h⟩:=h
 obtain⟨u,rfl,rx⟩:=vals1 r
 cases rx;rcases h with⟨hq,q⟩|⟨hq,q⟩
 .obtain⟨its,r',pl,hz⟩:=I.list hq
  have hlen:=r'.length;refine call_tuple_list pl.isList (λh' kp=>?_) (by simp only[gB]<;>lia);have I1:Inv X pins σ H {s with heap:=h'}:=I.kept (t':=s.toks) kp;have I2:Inv X pins σ (upd H h'.objs.size (.tup ys)) {s with heap:=h'.push {cls:=.type "tuple",data:=.seq its.toArray}}:=
   I1.laid (t':=s.toks) (λb o e=>bR _ e) (bT _) (show fH X.prog X.w _ _ _ (.tup ys) from⟨hz,its,r',IsTup.new _ _⟩)
  exact⟨.ref h'.objs.size,_,I2,rfl,q _ (I1.hok.fresh (bT _))⟩
 .obtain⟨its,r',pl,hz⟩:=I.tuple hq
  exact call_tuple_same pl ⟨.ref p,H,I,rfl,q⟩
def tyV(K:aJ)(T:String)(x:V)(H:Hp):Prop:=match x with
 |.str _=>T="str"
 |.int _=>T="int"
 |.ref p=>(T="list"/\∃xs,bK K H p xs)\/(T="tuple"/\∃o,K.lookup p=aj o/\o.cls=.type "tuple"/\o.dict=ao)\/
   (T="dict"/\((∃kvs,H p=aj (.dK kvs))\/∃kvs,H p=aj (.dT kvs)))\/(T="set"/\∃S n,H p=aj (.set S n))
 |_=>False
theorem ala{pins:List (az×Obj)}{σ:St}{H:Hp}{s:aG}{T:String}{x:V}{v:Value}(I:Inv X pins σ H s)(r:RelV x v)(ty:tyV X.K T x H):
  s.TypeIs v T/\∀a,v=.ref a->∃ob,s.heap.get? a=aj ob/\ob.dict=ao:=by
 cases x with
 |str z=>
  obtain⟨t,rfl⟩:=r
  cases(show T="str" from ty)
  exact⟨XR s z t,λ_ e=>nomatch e⟩
 |int i=>
  obtain⟨t,rfl⟩:=r
  cases(show T="int" from ty)
  exact⟨XS s i t,λ_ e=>nomatch e⟩
 |ref p=>
  cases r;rcases ty with⟨rfl,xs,hq⟩|⟨rfl,o,hk,hc,hd⟩|⟨rfl,hk⟩|⟨rfl,S,n,hk⟩
  .obtain⟨its,_,pl,_⟩:=I.list hq
   refine⟨pl.isList.typeIs,λa e=>?_⟩
   cases e
   obtain⟨o,n,e,c,hd,_⟩:=pl
   exact⟨o,e,hd⟩
  .refine⟨⟨o,I.jg p o hk,hc⟩,λa e=>?_⟩
   cases e
   exact⟨o,I.jg _ o hk,hd⟩
  .have z:∃o,s.heap.get? p=aj o/\o.ExactDict:=by
    rcases hk with⟨kvs,hk⟩|⟨kvs,hk⟩
    .obtain⟨_,_,_,_,o,_,_,e,ex,_⟩:=I.hok p _ hk
     exact⟨o,e,ex⟩
    .obtain⟨_,_,_,_,o,_,_,e,ex,_⟩:=I.hok p _ hk
     exact⟨o,e,ex⟩
   obtain⟨o,e,ex⟩:=z
   refine⟨⟨o,e,ex.1⟩,λa e2=>?_⟩
   cases e2
   exact⟨o,e,ex.2.1⟩
  .obtain⟨o,_,_,_,e,ex,_⟩:=I.hok p _ hk
   refine⟨⟨o,e,ex.1⟩,λa e2=>?_⟩
   cases e2
   exact⟨o,e,ex.2.1⟩
 |_=>exact rC ty
def tBM(K:aJ)(T:String)(r:V->List V->Hp->VK->Prop)(to:TE)(t:TA):TE:=λσ H Q=>to σ H λx H1=>tyV K T x H1/\t σ H1 λxs H2=>r x xs H2 Q
variable{o e:Expr}{es:List Expr}{to:TE}{t:TA}{name:Str}{apos cpos:Pos}{T id:String}{r:V->List V->Hp->VK->Prop}
theorem abV(pa:PlainAttrs T)(slot:Slot T name id)(hty:typeOf (.builtin id)=pure (.type "method_descriptor"))(hm:De X id r)(ho:PE X o to)(ha:PA X (e::es) t)
  (hbase:HY o name X.env (eval o X.env)=eval o X.env:=by rfl)
  (hfew:((iM cpos (bG (e::es) X.env)).all (λx=>!x.1)&&(Js cpos (Im [] X.env)).all (λx=>x.1.isSome)
   &&decide ((e::es).length+([]:List tX).length+(if([]:List tX).isEmpty then 0 else 1)<30))=au:=by rfl)
  (hline:(apos.endLine==cpos.line)=au:=by rfl)(hs:bG (e::es) X.env=(aD,eval e X.env)::bG es X.env:=by rfl)(hplain:(iM cpos (bG es X.env)).any (·.1)=aD:=by rfl):
  PE X (.Call (.Attribute o name apos) (e::es) [] cpos) (tBM X.K T r to t):=by
 intro pins s σ H Q I h;refine wpAny_Call_method_late hbase hfew hline rfl (bF (ho pins s σ H _ I h) λv s1 aP=>?_)
 obtain⟨x,H1,I1,r1,ty,q1⟩:=aP
 obtain⟨h1,h2⟩:=ala I1 r1 ty
 refine⟨T,id,pa,slot,hty,h1,h2,?_⟩
 have hA:=ha cpos pins s1 σ H1 _ I1 q1;rw[hs] at hA⊢;refine Calls.callWith_builtin (by show(aD||(iM cpos (bG es X.env)).any (·.1))=aD;rw[hplain]<;>rfl) (Calls.evalArgs_plain ?_);exact bF hA λus s2 ⟨vs,H2,I2,r2,q2⟩=>hm pins s2 σ H2 x vs v us Q I2 r1 r2 q2
end
def Df(X:Cx)(id:String)(r:V->List V->Hp->VK->Prop):Prop:=
 ∀(pins:List (az×Obj))(s:aG)(σ:St)(H:Hp)(x:V)(xs:List V)(v:Value)(us:List Value)(Q:VK),Inv X pins σ H s->RelV x v->Vals xs us->r x xs H Q->
  aL (model X.prog X.w) X.A (call (.builtin id) (v::us)) (EP X pins σ Q) X.xe s
theorem Vals.one:∀{x:V}{us:List Value},Vals [x] us->∃u,us=[u]/\RelV x u
 |_,_,.cons r .nil=>⟨_,rfl,r⟩
theorem Vals.dropLast{xs:List V}{us:List Value}(h:Vals xs us):Vals xs.dropLast us.dropLast:=by
 induction h with
 |nil=>exact .nil
 |cons r t ih=>
  cases t with
  |nil=>exact .nil
  |cons q t'=>exact .cons r ih
theorem Vals.eraseIdx:∀{xs:List V}{us:List Value}(i:Nat),Vals xs us->Vals (xs.eraseIdx i) (us.eraseIdx i)
 |_,_,_,.nil=>.nil
 |_,_,0,.cons _ t=>t
 |_,_,i+1,.cons r t=>.cons r (Vals.eraseIdx i t)
theorem Vals.reverse{xs:List V}{us:List Value}(h:Vals xs us):Vals xs.reverse us.reverse:=by
 induction h with
 |nil=>exact .nil
 |cons r t ih=>rw[VN,VN];exact Vals.append ih (.cons r .nil)
theorem Vals.rep{xs:List V}{us:List Value}(h:Vals xs us):∀k:Nat,Vals (cA k xs).flatten (cA k us).flatten
 |0=>.nil
 |k+1=>by
  rw[sX,sX,Dz,Dz];exact Vals.append h (Vals.rep h k)
theorem foldl_rep(its:List Value):∀(k:Nat)(acc:List Value),
  XX (λx1 x2=>x1++x2) acc.toArray (cA k its.toArray)=(acc++(cA k its).flatten).toArray
 |0,acc=>by simp
 |k+1,acc=>by
  have e:acc.toArray++its.toArray=(acc++its).toArray:=by simp
  have e2:(acc++its)++(cA k its).flatten=acc++(cA (k+1) its).flatten:=by
   rw[sX,Dz,qg]
  rw[<-e2,<-foldl_rep its k (acc++its),<-e,sX,DR]
section
variable{X:Cx}{pins:List (az×Obj)}{σ:St}{H:Hp}{s:aG}{l b:az}{xs ys zs:List V}
theorem Inv.anf{its its':List Value}{n:Nat}{f:Array Value->Array Value}{t':Nat}(I:Inv X pins σ H s)(hH:H l=aj (.lst xs))
  (e:s.heap.get? l=aj {cls:=.type "list",data:=.seq its.toArray n})(hf:f its.toArray=its'.toArray)(hv:Vals ys its')(hz:ys.length<=bU):
  Inv X pins σ (upd H l (.lst ys)) {s with heap:=s.heap.update l (lU f),toks:=t'}:=by
 have q:=PySem.IsL.update e f;rw[hf] at q;refine I.write (x:=l) (e:=l) (by rw[hH];exact trivial) (.inl rfl) (λb' u hb hu=>(nj s.heap (lU f) (fQ hb)).trans hu) ⟨_,q⟩ ?_
 exact⟨hz,its',_,hv,q⟩
theorem Inv.acG{its:List Value}{t':Nat}(I:Inv X pins σ H s)(hv:Vals ys its)(hz:ys.length<=bU):
  Inv X pins σ (upd H s.heap.objs.size (.lst ys)) {s with heap:=s.heap.push {cls:=.type "list",data:=.seq its.toArray},toks:=t'}:=
 I.laid (λ_ _ q=>bR _ q) (bT _) ⟨hz,its,0,hv,fV _ rfl⟩
theorem Inv.fresh(I:Inv X pins σ H s):H s.heap.objs.size=ao:=I.hok.fresh (bT _)
theorem Inv.KQ(I:Inv X pins σ H s)(hH:H l=aj (.lst xs)):xs.length<=bU/\∃(its:List Value)(n:Nat),Vals xs its/\xs.length=its.length/\s.heap.get? l=aj {cls:=.type "list",data:=.seq its.toArray n}:=by
 obtain⟨z,its,n,r,e⟩:=I.hok l _ hH
 exact⟨z,its,n,r,r.length,e⟩
theorem aiu{n:Nat}(h:n<=bU):Vn n=aD:=by
 unfold Vn;exact iU (by lia)
end
section
variable{X:Cx}
def ajJ:V->List V->Hp->VK->Prop:=λx vs H Q=>∃l xs y,x=.ref l/\vs=[y]/\H l=aj (.lst xs)/\xs.length<bU/\Q .non (upd H l (.lst (xs++[y])))
theorem Yw:Df X "list.append" ajJ:=by
 intro pins s σ H x vs v us Q I rx rv h
 obtain⟨l,xs,y,rfl,rfl,hH,hz,q⟩:=h
 cases rx
 obtain⟨u,rfl,ru⟩:=rv.one
 obtain⟨z,its,n,r,hl,e⟩:=I.KQ hH
 refine X3 ael ⟨_,e,rfl⟩ F.entry_list_append (F.args_list_append_2 _ _) (PySem.list_append l its.toArray n u (by rw[gB];lia)) ⟨e,?_⟩
 refine⟨.non,_,I.anf (its':=its++[u]) hH e (by simp) (r.append (.cons ru .nil)) ?_,rfl,q⟩
 rw[lO,List.length_singleton];lia
def acH:R2:=λx y H Q=>∃l b xs zs,x=.ref l/\y=.ref b/\H l=aj (.lst xs)/\H b=aj (.lst zs)/\xs.length+zs.length<=bU/\∀p,H p=ao->Q (.ref p) (upd H p (.lst (xs++zs)))
theorem alb:cX X (nG .Add) acH:=by
 intro pins s σ H x y v u Q I rx ry h
 obtain⟨l,b,xs,zs,rfl,rfl,hH,hB,hz,q⟩:=h
 cases rx;cases ry
 obtain⟨z,its,n,r,hl,e⟩:=I.KQ hH
 obtain⟨z2,its2,n2,r2,hl2,e2⟩:=I.KQ hB
 refine PySem.P.add_list e e2 ?_ (by rw[gB,gB];lia);have ea:its.toArray++its2.toArray=(its++its2).toArray:=by simp
 rw[ea]
 exact⟨.ref _,_,I.acG (t':=s.toks) (r.append r2) (by rw[lO];lia),rfl,q _ I.fresh⟩
def acI:R2:=λx y H Q=>∃l k xs,x=.ref l/\y=.int k/\H l=aj (.lst xs)/\-(2^63)<=k/\k<2^63/\xs.length*k.toNat<=bU/\
 ∀p,H p=ao->Q (.ref p) (upd H p (.lst (cA k.toNat xs).flatten))
theorem len_rep{α:Type}(xs:List α)(k:Nat):(cA k xs).flatten.length=k*xs.length:=by
 induction k with
 |zero=>simp
 |succ k ih=>rw[sX,Dz,lO,ih,Nat.succ_mul,Nat.add_comm]
theorem alc:cX X (nG .Mult) acI:=by
 intro pins s σ H x y v u Q I rx ry h
 obtain⟨l,k,xs,rfl,rfl,hH,h1,h2,hz,q⟩:=h
 cases rx
 obtain⟨t,rfl⟩:=ry
 obtain⟨z,its,n,r,hl,e⟩:=I.KQ hH
 have hlen:its.toArray.size*k.toNat<=bU:=by rw[gB,<-hl];exact hz
 have hcap:¬its.toArray.size*k.toNat>(2^63-1) / 8:=by
  have:(bU:Nat)<=(2^63-1) / 8:=by decide
  lia
 have hfit:¬(!Builtin.List.listFitsIndex k)=au:=by
  rw[fitsIndex_both h1 h2];exact iw
 have al8:¬Vn (its.toArray.size*k.toNat)=au:=by
  rw[aiu hlen];exact iw
 have hnew:XX (λx1 x2=>x1++x2) #[] (cA (if its.toArray.isEmpty=au then 0 else k.toNat) its.toArray)=(cA k.toNat its).flatten.toArray:=by
  have f0:∀m:Nat,XX (λx1 x2=>x1++x2) #[] (cA m its.toArray)=(cA m its).flatten.toArray:=λm=>by
   have:=foldl_rep its m [];rw[iJ] at this;exact this
  rw[f0];cases its with
  |nil=>simp
  |cons a r'=>rw[aY (by simp)]
 refine wpAny_binaryOp_repeat_ref (T:="list") (U:="int") (by decide) ⟨_,e,rfl⟩ (λs'=>XS s' k t) noFill_list_mul F.fills_int_mul ae7 repeat_list F.slot_int_index.lookup
  (X3 ae7 (XS s k t) F.entry_int_rmul (F.args_int_rmul_2 _ _) (int___rmul___int_list k t l its.toArray n)
   ⟨e,rfl,⟨_,e,rfl⟩,X3 F.slot_list_mul ⟨_,e,rfl⟩ F.entry_list_mul (F.args_list_mul_2 _ _) (AutoListH.list___mul___list_int_3 l its.toArray n k t hfit hcap al8) ⟨e,?_⟩⟩)
 rw[hnew]
 exact⟨.ref _,_,I.acG (t':=s.toks) (r.rep k.toNat) (by rw[len_rep,Nat.mul_comm];exact hz),rfl,q _ I.fresh⟩
end
section
variable{prog:bB}{w:bA}{A:bV}{E:Value->aG->Prop}{s:aG}
set_option maxRecDepth 100000 in
end
section
variable{X:Cx}
end
section
variable{κ:Type}[DecidableEq κ]
def mY(kvs:List (κ×V))(k:κ):Option V:=(kvs.find? λkv=>decide (kv.1=k)).map (·.2)
def putK(kvs:List (κ×V))(k:κ)(v:V):List (κ×V):=
 if(kvs.any λkv=>decide (kv.1=k))=au then kvs.map (λkv=>if kv.1=k then(kv.1,v) else kv) else kvs++[(k,v)]
def abW(kvs:List (κ×V))(k:κ):List (κ×V):=kvs.filter λkv=>decide (kv.1≠k)
theorem Jt{p:κ×V}{r:List (κ×V)}{k:κ}(e:p.1=k):mY (p::r) k=aj p.2:=by simp[mY,wg,e]
theorem Ju{p:κ×V}{r:List (κ×V)}{k:κ}(e:¬p.1=k):mY (p::r) k=mY r k:=by simp[mY,wg,e]
theorem Zd(k:κ):∀kvs:List (κ×V),(kvs.any λkv=>decide (kv.1=k))=(mY kvs k).isSome
 |[]=>rfl
 |p::r=>by
  rw[HW];by_cases e:p.1=k
  .simp only[Jt e,dZ e,Bool.true_or,aem]
  .rw[Ju e,iU e,Bool.false_or];exact Zd k r
theorem Ox(kvs:List (κ×V))(k:κ)(v:V):(putK kvs k v).length<=kvs.length+1:=by
 unfold putK;split
 .rw[bC];lia
 .rw[lO,dD,DW];lia
theorem pQ.Ex{o:Option V}{u:Option Value}(r:pQ o u):o.isSome=u.isSome:=by
 cases o with
 |none=>cases u with
  |none=>rfl
  |some _=>exact(show False from r).elim
 |some _=>cases u with
  |none=>exact(show False from r).elim
  |some _=>rfl
theorem pQ.getD{o:Option V}{u:Option Value}{d:V}{d':Value}(r:pQ o u)(rd:RelV d d'):RelV (o.getD d) (u.getD d'):=by
 cases o with
 |none=>cases u with
  |none=>exact rd
  |some _=>exact(show False from r).elim
 |some _=>cases u with
  |none=>exact(show False from r).elim
  |some _=>exact r
theorem KV.val{kvs:List (κ×V)}{vs:List (κ×Value)}(r:KV kvs vs)(k:κ):pQ (mY kvs k) (Be vs k):=by
 unfold KV at r;induction r with
 |nil=>exact nC
 |@cons p q ps qs h t ih=>
  obtain⟨h1,h2⟩:=h
  by_cases e:p.1=k
  .have e':q.1=k:=h1.symm.trans e;have b:Be (q::qs) k=aj q.2:=by simp[Be,wg,e']
   rw[Jt e,b];exact h2
  .have e':¬q.1=k:=λz=>e (h1.trans z)
   have b:Be (q::qs) k=Be qs k:=by simp[Be,wg,e']
   rw[Ju e,b];exact ih
theorem KV.any{kvs:List (κ×V)}{vs:List (κ×Value)}(r:KV kvs vs)(k:κ):(kvs.any λkv=>decide (kv.1=k))=vs.any λkv=>decide (kv.1=k):=by
 unfold KV at r;induction r with
 |nil=>rfl
 |cons h t ih=>rw[HW,HW,ih,h.1]
theorem KV.repl{kvs:List (κ×V)}{vs:List (κ×Value)}(r:KV kvs vs)(k:κ){y:V}{u:Value}(ry:RelV y u):
  KV (kvs.map λkv=>if kv.1=k then(kv.1,y) else kv) (vs.map λkv=>if kv.1=k then(kv.1,u) else kv):=by
 unfold KV at r⊢;induction r with
 |nil=>exact .nil
 |@cons p q ps qs h t ih=>
  rw[cV,cV];refine .cons ?_ ih
  obtain⟨h1,h2⟩:=h
  by_cases e:p.1=k
  .rw[aZ e,aZ (h1.symm.trans e)];exact⟨h1,ry⟩
  .rw[aY e,aY (λz=>e (h1.trans z))];exact⟨h1,h2⟩
theorem KV.put{kvs:List (κ×V)}{vs:List (κ×Value)}(r:KV kvs vs)(k:κ){y:V}{u:Value}(ry:RelV y u):KV (putK kvs k y) (stored vs k u):=by
 unfold putK stored;rw[r.any k];by_cases e:(vs.any λkv=>decide (kv.1=k))=au
 .rw[aZ e,aZ e];exact r.repl k ry
 .rw[aY e,aY e];exact Paired.snoc r ⟨rfl,ry⟩
theorem KV.drop{kvs:List (κ×V)}{vs:List (κ×Value)}(r:KV kvs vs)(k:κ):KV (abW kvs k) (without vs k):=by
 unfold KV at r⊢;unfold abW without;induction r with
 |nil=>exact .nil
 |@cons p q ps qs h t ih=>
  obtain⟨h1,h2⟩:=h
  rw[eF,eF];by_cases e:p.1=k
  .have a:¬decide (p.1≠k)=au:=by simp[e]
   have b:¬decide (q.1≠k)=au:=by simp[h1.symm.trans e]
   rw[aY a,aY b];exact ih
  .have e':¬q.1=k:=λz=>e (h1.trans z)
   have a:decide (p.1≠k)=au:=by simp[e]
   have b:decide (q.1≠k)=au:=by simp[e']
   rw[aZ a,aZ b];exact .cons ⟨h1,h2⟩ ih
theorem KV.length{kvs:List (κ×V)}{vs:List (κ×Value)}(r:KV kvs vs):kvs.length=vs.length:=Paired.length r
end
theorem Cd{P:bB}{w:bA}{k:Key}{u:Value}(r:RelV (kV k) u):(nH P w).is k u=au:=by
 cases k with
 |inl i=>obtain⟨t,e⟩:=(show ∃t,u=wD i t from r);subst e;exact agt P w i t
 |inr x=>obtain⟨t,e⟩:=(show ∃t,u=Jf x t from r);subst e;exact agu P w x t
theorem Yx{P:bB}{w:bA}:∀{ks:List Key}{us:List Value},Vals (ks.map kV) us->ItemsAre (nH P w) ks us
 |[],_,r=>by rw[pI] at r;cases r;exact .nil
 |k::ks,_,r=>by
  rw[cV] at r;cases r with
  |cons h t=>exact .cons (Cd h) (Yx t)
abbrev KT(H:Hp):List (List Key×V)->List (List Key×az×Value)->Prop:=Paired λp q=>p.1=q.1/\H q.2.1=aj (.tup (p.1.map kV))/\RelV p.2 q.2.2
theorem KT.val{H:Hp}{kvs:List (List Key×V)}{xs:List (List Key×az×Value)}(r:KT H kvs xs)(k:List Key):pQ (mY kvs k) ((wW xs k).map (·.2)):=by
 induction r with
 |nil=>exact nC
 |@cons p q ps qs h t ih=>
  obtain⟨h1,_,h2⟩:=h
  by_cases e:p.1=k
  .have e':q.1=k:=h1.symm.trans e;have b:wW (q::qs) k=aj q.2:=by simp[wW,wg,e']
   rw[Jt e,b];exact h2
  .have e':¬q.1=k:=λz=>e (h1.trans z)
   have b:wW (q::qs) k=wW qs k:=by simp[wW,wg,e']
   rw[Ju e,b];exact ih
theorem KT.repl{H:Hp}{kvs:List (List Key×V)}{xs:List (List Key×az×Value)}(r:KT H kvs xs)(k:List Key){y:V}{u:Value}(ry:RelV y u):
  KT H (kvs.map λkv=>if kv.1=k then(kv.1,y) else kv) (xs.map (putAt k u)):=by
 induction r with
 |nil=>exact .nil
 |@cons p q ps qs h t ih=>
  rw[cV,cV];refine .cons ?_ ih
  obtain⟨h1,h2,h3⟩:=h
  unfold putAt;by_cases e:p.1=k
  .rw[aZ e,aZ (h1.symm.trans e)];exact⟨h1,h2,ry⟩
  .rw[aY e,aY (λz=>e (h1.trans z))];exact⟨h1,h2,h3⟩
theorem KT.put{H:Hp}{kvs:List (List Key×V)}{xs:List (List Key×az×Value)}(r:KT H kvs xs)(k:List Key){b:az}{y:V}{u:Value}(hb:H b=aj (.tup (k.map kV)))(ry:RelV y u):
  KT H (putK kvs k y) (storedH xs k b u):=by
 have e:(kvs.any λkv=>decide (kv.1=k))=(wW xs k).isSome:=by
  rw[Zd,(r.val k).Ex,VP]
 unfold putK storedH;rw[e];by_cases q:(wW xs k).isSome=au
 .rw[aZ q,aZ q];exact r.repl k ry
 .rw[aY q,aY q];exact Paired.snoc r ⟨rfl,hb,ry⟩
theorem KT.keeps{H H':Hp}{kvs:List (List Key×V)}{xs:List (List Key×az×Value)}(r:KT H kvs xs)(ht:∀b ys,H b=aj (.tup ys)->H' b=aj (.tup ys)):KT H' kvs xs:=
 Paired.Tq r λ_ _ z=>⟨z.1,ht _ _ z.2.1,z.2.2⟩
section
variable{P:bB}{w:bA}{H:Hp}{h:bh}{a:az}
theorem abX{u:HO}(ok:iH P w H h)(e:Rd H a u):fH P w H h a u:=e.ok ok
theorem Cg{kvs:List (Key×V)}(ok:iH P w H h)(e:Rd H a (.dK kvs)):kvs.length<=bU/\(a==rB)=aD/\∃vs,KV kvs vs/\h.DictOf (nH P w) a vs:=
 show fH P w H h a (.dK kvs) from abX ok e
theorem abY{kvs:List (Key×V)}(ok:iH P w H h)(e:H a=aj (.dK kvs)):kvs.length<=bU/\(a==rB)=aD/\∃vs,KV kvs vs/\h.DictOf (nH P w) a vs:=Cg ok (.inl e)
theorem FQ{ks:List Key}(ok:iH P w H h)(e:H a=aj (.tup (ks.map kV))):(Ew (nH P w)).is h ks a:=by
 obtain⟨_,its,r,o,h1,h2,n,h3⟩:=(show fH P w H h a (.tup (ks.map kV)) from ok a _ e)
 exact⟨o,its.toArray,n,h1,h2,h3,by simpa using Yx r⟩
theorem Gi{kvs:List (List Key×V)}(ok:iH P w H h)(e:Rd H a (.dT kvs)):kvs.length<=bU/\(a==rB)=aD/\
  ∃xs,KT H kvs xs/\h.DictOfH (Ew (nH P w)) a xs:=by
 obtain⟨z,y,xs,r,o,es,ep,h1,h2,h3,h4,h5⟩:=(show fH P w H h a (.dT kvs) from abX ok e)
 refine⟨z,y,xs,r,o,es,ep,h1,h2,h3,h4,λx hx=>?_,h5⟩
 have all:∀{l:List (List Key×V)}{m:List (List Key×az×Value)},KT H l m->∀x∈m,(Ew (nH P w)).is h x.1 x.2.1:=by
  intro l m q;induction q with
  |nil=>intro x hx;exact nomatch hx
  |@cons p q ps qs hq t ih=>
   intro x hx;rcases bJ.mp hx with e|hx
   .subst e;exact FQ ok (by rw[<-hq.1];exact hq.2.1)
   .exact ih x hx
 exact all r x hx
theorem abZ{kvs:List (List Key×V)}(ok:iH P w H h)(e:H a=aj (.dT kvs)):kvs.length<=bU/\(a==rB)=aD/\
  ∃xs,KT H kvs xs/\h.DictOfH (Ew (nH P w)) a xs:=Gi ok (.inl e)
end
def mZ(H:Hp)(a:az)(y:V)(r:Option V):Prop:=
 (∃kvs k,Rd H a (.dK kvs)/\y=kV k/\r=mY kvs k)\/∃kvs k b,Rd H a (.dT kvs)/\y=.ref b/\H b=aj (.tup (k.map kV))/\r=mY kvs k
def rZ(H:Hp)(a:az)(y v:V)(H':Hp):Prop:=
 (∃kvs k,H a=aj (.dK kvs)/\y=kV k/\kvs.length<bU/\H'=upd H a (.dK (putK kvs k v)))\/
 ∃kvs k b,H a=aj (.dT kvs)/\y=.ref b/\H b=aj (.tup (k.map kV))/\kvs.length<bU/\H'=upd H a (.dT (putK kvs k v))
theorem mZ.k{H:Hp}{a:az}{kvs:List (Key×V)}{k:Key}(e:H a=aj (.dK kvs)):mZ H a (kV k) (mY kvs k):=.inl ⟨kvs,k,.inl e,rfl,rfl⟩
theorem mZ.t{H:Hp}{a b:az}{kvs:List (List Key×V)}{k:List Key}(e:H a=aj (.dT kvs))(eb:H b=aj (.tup (k.map kV))):mZ H a (.ref b) (mY kvs k):=.inr ⟨kvs,k,b,.inl e,rfl,eb,rfl⟩
theorem rZ.k{H:Hp}{a:az}{kvs:List (Key×V)}{k:Key}{v:V}(e:H a=aj (.dK kvs))(hl:kvs.length<bU):rZ H a (kV k) v (upd H a (.dK (putK kvs k v))):=.inl ⟨kvs,k,e,rfl,hl,rfl⟩
theorem rZ.t{H:Hp}{a b:az}{kvs:List (List Key×V)}{k:List Key}{v:V}(e:H a=aj (.dT kvs))(eb:H b=aj (.tup (k.map kV)))(hl:kvs.length<bU):
  rZ H a (.ref b) v (upd H a (.dT (putK kvs k v))):=.inr ⟨kvs,k,b,e,rfl,eb,hl,rfl⟩
section
variable{X:Cx}{pins:List (az×Obj)}{σ:St}{H:Hp}{s:aG}{a:az}{y v:V}{u r:Value}{o:Option V}{A:bV}{E:Value->aG->Prop}
theorem Inv.big(I:Inv X pins σ H s):rB<s.heap.objs.size:=by
 have h:fW<s.heap.objs.size:=(I.mod.glob.keeps I.bk).lt;exact Og (by decide) h
theorem ahD{Q:Value->aG->Prop}(hu:A.units+1<gJ)(I:Inv X pins σ H s)(g:mZ H a y (aj v))(ry:RelV y u)(h:∀w' s',Inv X pins σ H s'->RelV v w'->Q w' s'):
  aL (model X.prog X.w) A (wK (.ref a) u) Q E s:=by
 rcases g with⟨kvs,k,e,ey,l⟩|⟨kvs,k,b,e,ey,eb,l⟩
 .subst ey
  obtain⟨z,hd,vs,rel,dd⟩:=Cg I.hok e
  obtain⟨w',hw,rw'⟩:=pQ.some_of (v:=v) (o:=Be vs k) (by rw[l];exact rel.val k)
  exact wpAny_getItem_of (Cd ry) dd.mapOf hw (h w' _ (I.tok _) rw')
 .subst ey
  cases(show u=cY b from ry)
  obtain⟨z,hd,xs,rel,dd⟩:=Gi I.hok e
  obtain⟨w',hw,rw'⟩:=pQ.some_of (v:=v) (o:=(wW xs k).map (·.2)) (by rw[l];exact rel.val k)
  obtain⟨p,hp,hp2⟩:=zO.mp hw
  refine wpAny_getItem_heap (Mp hu) (FQ I.hok eb) dd hp ?_;rw[hp2];exact h w' _ (I.tok _) rw'
theorem acJ{Q:Value->aG->Prop}(hu:A.units+1<gJ)(I:Inv X pins σ H s)(g:mZ H a y o)(ry:RelV y u)(h:∀s',Inv X pins σ H s'->Q (.bool o.isSome) s'):
  aL (model X.prog X.w) A (fj .In u (.ref a)) Q E s:=by
 rcases g with⟨kvs,k,e,ey,l⟩|⟨kvs,k,b,e,ey,eb,l⟩
 .subst ey
  obtain⟨z,hd,vs,rel,dd⟩:=Cg I.hok e
  refine wpAny_in_of (Cd ry) hd dd.mapOf ?_;rw[<-(rel.val k).Ex,<-l];exact h _ (I.tok _)
 .subst ey
  cases(show u=cY b from ry)
  obtain⟨z,hd,xs,rel,dd⟩:=Gi I.hok e
  refine wpAny_in_heap (Mp hu) (FQ I.hok eb) hd dd ?_;have q:=(rel.val k).Ex;rw[VP] at q;rw[<-q,<-l];exact h _ (I.tok _)
theorem aaj{Q:Value->aG->Prop}(hu:A.units+1<gJ)(I:Inv X pins σ H s)(g:mZ H a y o)(ry:RelV y u)(h:∀s',Inv X pins σ H s'->Q (.bool (!o.isSome)) s'):
  aL (model X.prog X.w) A (fj .NotIn u (.ref a)) Q E s:=by
 rcases g with⟨kvs,k,e,ey,l⟩|⟨kvs,k,b,e,ey,eb,l⟩
 .subst ey
  obtain⟨z,hd,vs,rel,dd⟩:=Cg I.hok e
  refine wpAny_notIn_of (Cd ry) hd dd.mapOf ?_;rw[<-(rel.val k).Ex,<-l];exact h _ (I.tok _)
 .subst ey
  cases(show u=cY b from ry)
  obtain⟨z,hd,xs,rel,dd⟩:=Gi I.hok e
  refine wpAny_notIn_heap (Mp hu) (FQ I.hok eb) hd dd ?_;have q:=(rel.val k).Ex;rw[VP] at q;rw[<-q,<-l];exact h _ (I.tok _)
theorem Bg{h':bh}{t':Nat}{ob:HO}(I:Inv X pins σ H s)(mu:GP (H a))(hs:uO a s.heap h')(he:∃q,h'.get? a=aj q)(new:fH X.prog X.w (upd H a ob) h' a ob):
  Inv X pins σ (upd H a ob) {s with heap:=h',toks:=t'}:=
 I.write (x:=a) (e:=a) mu (.inl rfl) (λb q hb z=>(hs.2 b hb).trans z) he new
theorem R3{P:bB}{w:bA}{H':Hp}{h':bh}{kvs:List (Key×V)}{vs:List (Key×Value)}(z:kvs.length<=bU)(hd:(a==rB)=aD)(rel:KV kvs vs)(dd:h'.DictOf (nH P w) a vs):
  fH P w H' h' a (.dK kvs):=⟨z,hd,vs,rel,dd⟩
theorem Yy{H':Hp}{Q:Unit->aG->Prop}(hu:A.units+1<gJ)(I:Inv X pins σ H s)(g:rZ H a y v H')(ry:RelV y u)(rv:RelV v r)(h:∀s',Inv X pins σ H' s'->Q () s'):
  aL (model X.prog X.w) A (setItem (.ref a) u r) Q E s:=by
 rcases g with⟨kvs,k,e,ey,l,eH⟩|⟨kvs,k,b,e,ey,eb,l,eH⟩
 .subst ey eH
  obtain⟨z,hd,vs,rel,dd⟩:=abY I.hok e
  have hz:vs.length<=bU:=by rw[<-rel.length];exact z
  have hl:(putK kvs k v).length<=bU:=by have:=Ox kvs k v;lia
  refine wpAny_setItem_pairs (hsz:=hz) (Cd ry) dd λh' zA hs=>h _ ?_
  have he:∃q,h'.get? a=aj q:=let ⟨q,_,_,hq,_⟩:=zA;⟨q,hq⟩
  exact Bg I (by rw[e];exact nC) hs he (R3 hl hd (rel.put k rv) zA)
 .subst ey eH
  cases(show u=cY b from ry)
  obtain⟨z,hd,xs,rel,dd⟩:=abZ I.hok e
  have hz:xs.length<=bU:=by rw[<-Paired.length rel];exact z
  have hl:(putK kvs k v).length<=bU:=by have:=Ox kvs k v;lia
  refine wpAny_setItem_heap (hsz:=hz) (Mp hu) (FQ I.hok eb) dd λh' zA hs=>h _ ?_
  obtain⟨q,es,ep,hq,h2,h3,h4,_,h5⟩:=zA
  refine Bg I (by rw[e];exact nC) hs ⟨q,hq⟩ ⟨hl,hd,_,(rel.put k eb rv).keeps λc ys ec=>?_,q,es,ep,hq,h2,h3,h4,h5⟩;rw[dm (SM ec e (λz=>nomatch z))];exact ec
end
section
variable{X:Cx}{pins:List (az×Obj)}{σ:St}{H:Hp}{s:aG}{a:az}{kvs:List (Key×V)}{k:Key}{u:Value}{A:bV}{E:Value->aG->Prop}
theorem al9{Q:Value->aG->Prop}(I:Inv X pins σ H s)(e:Rd H a (.dK kvs))(h:∀t s',Inv X pins σ H s'->Q (.int kvs.length t) s'):aL (model X.prog X.w) A (call (.builtin "len") [.ref a]) Q E s:=by
 obtain⟨z,hd,vs,rel,dd⟩:=Cg I.hok e
 refine call_len_dict hd dd (by rw[<-rel.length];rw[jR] at z;lia) ?_;rw[<-rel.length];exact h _ _ (I.tok _)
end
theorem agv{X:Cx}{pins:List (az×Obj)}{σ:St}{H:Hp}{s:aG}{a:az}{y:V}{o:Option V}(I:Inv X pins σ H s)(g:mZ H a y o):s.TypeIs (.ref a) "dict":=by
 rcases g with⟨kvs,k,e,_,_⟩|⟨kvs,k,b,e,_,_,_⟩
 .obtain⟨_,_,vs,_,dd⟩:=Cg I.hok e
  exact dd.typeIs
 .obtain⟨_,_,xs,_,dd⟩:=Gi I.hok e
  exact dd.typeIs
section
variable{X:Cx}{o i e value:Expr}{pos pos' tpos:Pos}{td ty tv:TE}
end
theorem aiv{P:bB}{w:bA}{H:Hp}(h:bh)(hb:rB<h.objs.size):fH P w H (h.push {cls:=.type "dict",data:=.dict #[]}) h.objs.size (.dK []):=
 ⟨lz _,beq_eq_false_iff_ne.mpr (fQ (dX hb)),[],.nil,Heap.DictOf.new h⟩
section
variable{X:Cx}{pos:Pos}
end
structure M1(X:Cx)(o:Expr)(m:Str)(apos:Pos)(e:Expr)(cpos:Pos):Prop where
 base:HY o m X.env (eval o X.env)=eval o X.env
 few:((iM cpos (bG [e] X.env)).all (λx=>!x.1)&&(Js cpos (Im [] X.env)).all (λx=>x.1.isSome)
  &&decide (([e]:List Expr).length+([]:List tX).length+(if([]:List tX).isEmpty then 0 else 1)<30))=au
 line:(apos.endLine==cpos.line)=au
 trees:iM cpos (bG [e] X.env)=[(aD,eval e X.env)]
structure M2(X:Cx)(o:Expr)(m:Str)(apos:Pos)(e f:Expr)(cpos:Pos):Prop where
 base:HY o m X.env (eval o X.env)=eval o X.env
 few:((iM cpos (bG [e,f] X.env)).all (λx=>!x.1)&&(Js cpos (Im [] X.env)).all (λx=>x.1.isSome)
  &&decide (([e,f]:List Expr).length+([]:List tX).length+(if([]:List tX).isEmpty then 0 else 1)<30))=au
 line:(apos.endLine==cpos.line)=au
 trees:iM cpos (bG [e,f] X.env)=[(aD,eval e X.env),(aD,eval f X.env)]
section
variable{X:Cx}{pins:List (az×Obj)}{σ:St}{H:Hp}{s:aG}{a:az}{y d:V}{u r:Value}{o:Option V}{A:bV}{E:Value->aG->Prop}
end
section
variable{X:Cx}{o e f:Expr}{apos cpos:Pos}{td ty tx:TE}
end
section
variable{X:Cx}{pins:List (az×Obj)}{σ:St}{H:Hp}{s:aG}{a:az}{kvs:List (Key×V)}{A:bV}{E:Value->aG->Prop}
end
section
variable{X:Cx}{pins:List (az×Obj)}{σ:St}{H:Hp}{s:aG}{a:az}{y:V}{u:Value}{A:bV}{E:Value->aG->Prop}
end
end L2
namespace Att
open PySem PySem.W PySem.Calls PyProof.Rows
theorem ae8{P:Params}{h:bh}:∀(ns:List Int)(vs:List Value),WellAll P h vs (ns.map WData.int)->IntsAre vs ns:=by
 intro ns;induction ns with
 |nil=>
  intro vs w;rw[pI] at w;cases w;exact .nil
 |cons n ns ih=>
  intro vs w;rw[cV] at w;cases w with
  |cons a b=>
   cases a;exact .cons _ _ (ih _ b)
theorem ahE{l:OpenLaw}{n:Nat}(hn:l.most=aj n){P:Params}{h:bh}{args:List WData}{vals:List Value}
  (hpre:l.row.toRowW.claim.pre args=au)(hwl:WellAll P h vals args):
  ∃a vs ns,vals=[cY a]/\args=[WData.list (ns.map WData.int)]/\h.get? a=aj {cls:=.type "list",data:=.seq vs.toArray}/\IntsAre vs ns/\ns.length<=n:=by
 have hsh:WShape.hasAll [] args [.list .int]=au:=(pre_splitW hpre).1;have hc:l.pre.holds [] {args:=args}=au:=(pre_splitW hpre).2
 obtain⟨d,r,rfl,h1,h2⟩:=hasAllW_cons hsh
 obtain rfl:=hasAllW_nil h2
 obtain⟨xs,rfl,h3⟩:=hasW_list h1
 obtain⟨ns,rfl⟩:=items_int h3
 have hlen:ns.length<=n:=by
  unfold OpenLaw.pre at hc;have h4:(WTm.not (.lt (.lit (.int (n:Int))) (.len (.arg 0)))).holds [] {args:=[.list (ns.map .int)]}=au:=by
   have h4:=(holds_andW hc).1;rw[hn] at h4;exact h4
  have h5:=condW_of h4 (w_not (w_lt w_lit (w_len_list (w_arg rfl))));rw[bC] at h5;refine Nat.le_of_not_lt λq=>?_
  have q':(n:Int)<((ns.length:Nat):Int):=by lia
  first
   |(rw[dZ q'] at h5;exact absurd h5 (by decide))
   |(simp at h5;lia)
 cases hwl with
 |cons w1 w2=>
  cases w2;cases w1 with
  |list ho hall=>exact⟨_,_,ns,rfl,rfl,ho,ae8 ns _ hall,hlen⟩
theorem ahF(l:OpenLaw)(args:List WData):l.row.toRowW.claim.post args (.bool au) args=au:=
 postW_of (r:=l.row.toRowW) (X:=(au==au))
  (show WShape.has [] (.bool au) .bool=au by first|rfl|decide|simp[WShape.has,WShape.arms,WShape.armsAll])
  (show(WTm.eq .res (.lit (.bool au))).value [] {args:=args,res:=aj (.bool au),after:=args}=aj (.bool (au==au)) from w_eq_bool (w_res rfl) w_lit) rfl
theorem agw{l:OpenLaw}{n:Nat}{q:bB}{loose:List Str}{XP:(Str->Option Value)->bh->Prop}{YP:bA->bh->Prop}{d:DefRec}
  (hn:l.most=aj n)(hdf:d.params.defaults=[])
  (call:∀(w:bA)(s₀ s₁:aG)(mg mb:Str->Option Value)(fa:az)(o:Obj)(pm cd doc:Value)(a:az)(vs:List Value)(ns:List Int),
   Ground q loose [] XP w s₀ mg mb s₁.heap->YP w s₁.heap->
   s₁.heap.get? fa=aj o->o.data=.func (docDef d.name d.params d.body d.scope pm cd doc)->s₁.heap.CodeRec cd d.name->mg d.name=aj (.ref fa)->
   s₁.heap.get? a=aj {cls:=.type "list",data:=.seq vs.toArray}->IntsAre vs ns->ns.length<=n->s₁.gens=#[]->
   jT (model l.prog w) Bh (.call (.ref fa) ⟨[.ref a],[]⟩) (λr s'=>r=.ok (.ret (.bool au))/\OldK s₁.heap s'.heap/\s'.os=s₁.os/\AllBare s'.gens) s₁):
  WalkO q loose XP YP l.row.toRowW d [] (λf vs=>X4 f vs):=by
 intro w s₀ s₁ mg mb G Y fa o pm cd doc dV kV ho hd hcd hD hmg hg args vals as hpre hlay hrd hwl hlo;obtain rfl:dV=.none:=Dflts.none hD hdf;obtain rfl:kV=.none:=Dflts.noKw hD
 obtain⟨a,vs,ns,rfl,rfl,hobj,hints,hlen⟩:=ahE hn hpre hwl
 refine enter_call (Ih (call w s₀ s₁ mg mb fa o pm cd doc a vs ns G Y ho (fd_plain hd) hcd hmg hobj hints hlen hg) λr s' hq=>?_)
 obtain⟨rfl,h2,h3,h4⟩:=hq
 exact⟨.inl ⟨.bool au,.bool au,[],rfl,λ_=>rfl,.bool au,ahF l _,λ_=>⟨zT,λ_ hm=>(nomatch hm)⟩⟩,h2,h3,h4⟩
section
variable{prog:bB}{w:bA}{A:bV}{E:Value->aG->Prop}{s:aG}{K:Frag}
def ledger(h:bh)(L d:az):List (az×Obj):=(gC h.objs.size).filterMap λa=>if a=L\/a=d then ao else(h.get? a).map λo=>(a,o)
end
end Att
namespace L2
open PySem PySem.Spec PyProof.Rows
theorem P0:∀{vs:List Value}{ns:List Int},IntsAre vs ns->Vals (ns.map V.int) vs
 |_,_,.nil=>.nil
 |_,_,.cons n t h=>.cons ⟨t,rfl⟩ (P0 h)
def Only(H:Hp):Prop:=∀b,H b=ao\/∃o xs,H b=aj (.lJ o (.lst xs))
theorem aiw{P:bB}{w:bA}{K:aJ}{mg mb:Str->Option Value}{CX:p7}{k:Nat}{fa a:az}{fd:dH}{x:Str}{sp:Sp}{s₁:aG}{vs:List Value}{ns:List Int}
  (KX:K.In s₁.heap)(hns:s₁.heap.Ns fW mg)(hb:s₁.heap.Ns builtinsNs mb)(hbb:∀x:Str,x≠"__name__"->mb x=tK x)(hlim:s₁.heap.NoLimit)(hg:s₁.gens=#[])
  (ha:s₁.heap.get? a=aj {cls:=.type "list",data:=.seq vs.toArray})(hi:IntsAre vs ns)(hl:ns.length<=bU)(hr:jk k Bh)
  (F:∀base:bh,K.In base->base.Ns fW mg->dG P w K mg base CX k fa fd [x] sp)(hbind:∀(s:aG)(u:Value),yE s fd ⟨[u],[]⟩ [(x,u)])
  (hsp:∀H:Hp,Only H->bK K H a (ns.map V.int)->sp [.ref a] H (λv _=>v=.bl au) λ_ _ _=>False)
  (Uu:∀H e s',CX [] H s₁ (λ_ _ _=>False) e s'->False):
  jT (model P w) Bh (.call (.ref fa) ⟨[.ref a],[]⟩) (λr s'=>r=.ok (.ret (.bool au))/\OldK s₁.heap s'.heap/\s'.os=s₁.os/\AllBare s'.gens) s₁:=by
 have rv:=P0 hi;have lenV:=hi.length;have core:∀H:Hp,Only H->bK K H a (ns.map V.int)->iH P w H s₁.heap->(∀b,H b≠ao->b=a)->(H a≠ao->K.lookup a=ao)->
   jT (model P w) Bh (.call (.ref fa) ⟨[.ref a],[]⟩) (λr s'=>r=.ok (.ret (.bool au))/\OldK s₁.heap s'.heap/\s'.os=s₁.os/\AllBare s'.gens) s₁:=by
  intro H hO hS hok hA hK;have aak:∀{b:az}{o:Obj},s₁.heap.get? b=aj o->H b=ao->(vB s₁.heap H).get? b=aj o:=λe n=>aij e n
  have G4:∀{b:az}{o:Obj}{es:Array DictEntry}{ep:Nat},s₁.heap.get? b=aj o->o.data=.dict es ep->H b=ao:=λ{b o es ep} e d=>by
   cases q:H b with
   |none=>rfl
   |some u=>
    have e':b=a:=hA b (by rw[q];simp);subst e';rw[ha] at e;cases e;have d':Data.seq vs.toArray _=Data.dict es ep:=d;cases d'
  have Ld:∀{b:az}{m:Str->Option Value},s₁.heap.Ns b m->(vB s₁.heap H).Ns b m:=λ{b m} ⟨o,es,ep,e,d,r⟩=>⟨o,es,ep,aak e (G4 e d),d,r⟩
  have hKb:K.In (vB s₁.heap H):=λb o e=>aak (KX b o e) (by
   cases q:H b with
   |none=>rfl
   |some u=>
    have e':b=a:=hA b (by rw[q];simp);subst e';rw[hK (by rw[q];simp)] at e;cases e)
  have hM:Mod K mg (vB s₁.heap H):=⟨hKb,Ld hns,⟨mb,Ld hb,hbb⟩,let ⟨mc,h1,h2⟩:=hlim;⟨mc,Ld h1,h2⟩⟩
  have e0:zb P w K mg (vB s₁.heap H) Bh [] s₁ H:=⟨rfl,hM,λb o e=>aju e,afX (aht _ _),trivial,λb hb=>absurd (show b∈([]:List az) from hb) (by simp),hok,.of_eq hg⟩
  refine Ih ((F _ hKb (Ld hns)).run Bh [] s₁ H ⟨[.ref a],[]⟩ [.ref a] [.ref a] _ _ hr e0 (hbind s₁ (.ref a)) (.cons rfl .nil) (hsp H hO hS)) λr s' h=>?_
  cases r with
  |error e=>exact(Uu H e s' h).elim
  |ok fl=>
   cases fl with
   |next=>exact rC h
   |brk=>exact rC h
   |cont=>exact rC h
   |ret u=>
    obtain⟨v,H',os,bare,un,hok',r',q⟩:=h
    have q':v=.bl au:=q;subst q';obtain rfl:u=rm au:=r'
    refine⟨rfl,OldK.of_keep λb o e=>?_,os,bare⟩
    cases q:H b with
    |none=>exact un.keep b o e q (by intro z;exact absurd (show b∈([]:List az) from z) (by simp)) (by simp)
    |some u=>
     rcases hO b with z|⟨ob,xs,z⟩
     .rw[q] at z;cases z
     .have z2:=un.pR b ob _ z
      obtain⟨e1,_⟩:=hok b _ z
      obtain⟨e2,_⟩:=hok' b _ z2
      rw[e] at e1;cases e1;exact e2
 cases hk:K.lookup a with
 |some o=>
  have e:=KX a o hk;rw[ha] at e;cases e;refine core (λ_=>ao) (λ_=>.inl rfl) (.inr ⟨_,vs.toArray,_,hk,rfl,rfl,rfl,by rw[gB,lenV];exact hl,by simpa using rv⟩) (λb u z=>by have z':(ao:Option HO)=aj u:=z;cases z') (λb z=>absurd rfl z) λz=>absurd rfl z
 |none=>
  refine core (λb=>if b=a then aj (.lJ {cls:=.type "list",data:=.seq vs.toArray} (.lst (ns.map V.int))) else ao) (λb=>?_) (.inl (.inr ⟨{cls:=.type "list",data:=.seq vs.toArray},aZ rfl⟩)) (λb u z=>?_) (λb z=>?_) λ_=>hk
  .by_cases hb:b=a
   .exact .inr ⟨_,_,aZ hb⟩
   .exact .inl (aY hb)
  .by_cases hb:b=a
   .have z':=(aZ hb).symm.trans z;cases z';subst hb
    exact⟨ha,by rw[bC];exact hl,vs,_,rv,ha⟩
   .have z':=(aY hb).symm.trans z;cases z'
  .by_cases hb:b=a
   .exact hb
   .exact absurd (aY hb) z
theorem ajK{l:Wg}{n k:Nat}{q:bB}{loose:List Str}{XP:(Str->Option Value)->bh->Prop}{YP:bA->bh->Prop}{d:DefRec}{K:Params->aJ}{CX:bA->p7}{sp:bA->Sp}{x:Str}
  (hn:l.most=aj n)(hn2:n<=bU)(hdf:d.params.defaults=[])(hr:jk k Bh)
  (hY:∀(w:bA)(h:bh),YP w h->(K w.params).In h)
  (F:∀(w:bA)(mg:Str->Option Value)(fa:az)(h:bh),(K w.params).In h->h.Ns fW mg->mg d.name=aj (.ref fa)->
   ∃fd:dH,(∀(s:aG)(u:Value),yE s fd ⟨[u],[]⟩ [(x,u)])/\
    ∀base:bh,(K w.params).In base->base.Ns fW mg->dG l.prog w (K w.params) mg base (CX w) k fa fd [x] (sp w))
  (hsp:∀(w:bA)(H:Hp)(a:az)(ns:List Int),ns.length<=n->Only H->bK (K w.params) H a (ns.map V.int)->sp w [.ref a] H (λv _=>v=.bl au) λ_ _ _=>False)
  (Uu:∀(w:bA)(H:Hp)(s:aG)(e:Value)(s':aG),CX w [] H s (λ_ _ _=>False) e s'->False):
  afx q loose XP YP l.row.toRowW d [] (λf vs=>X4 f vs):=by
 refine Att.agw hn hdf λw s₀ s₁ mg mb fa o pm cd doc a vs ns G Y ho hd hcd hmg hobj hints hlen hg=>?_
 have KX:=hY w _ Y
 obtain⟨fd,hb,hF⟩:=F w mg fa _ KX G.T.g hmg
 exact aiw KX G.T.g G.T.b G.T.builtins G.T.nolimit hg hobj hints (ju hlen hn2) hr hF hb (λH hO hS=>hsp w H a ns hlen hO hS) λH e s'=>Uu w H s₁ e s'
def Bj(s:dw):Arguments:=match s with
 |.FunctionDef _ a _ _ _ _ _ _ _ _=>a
 |_=>{posonlyargs:=[],args:=[],vararg:=ao,kwonlyargs:=[],kw_defaults:=[],kwarg:=ao,defaults:=[]}
def wM(s:dw):List dw:=match s with
 |.FunctionDef _ _ b _ _ _ _ _ _ _=>b
 |_=>[]
def bY(s:dw):jG:=match s with
 |.FunctionDef _ _ _ _ _ _ sc _ _ _=>sc
 |_=>{kind:=.function,names:=[],isGenerator:=aD,isCoroutine:=aD}
abbrev eY:p7:=λ_ _ _ _ _ _=>False
abbrev E0:XK:=λ_ _ _=>False
theorem ama{X:Cx}:Passes eY X E0:=λ_ _ _ _ _ _ _ h=>h.elim
structure fU(K:aJ)(x qual:Str)(st:dw)(f:az)(fd:dH):Prop where
 ex:∃(oc:Value)(od:Option az)(kV doc pm:Value)(an:Option az)(cdv ct:Value)(osl:Array (Option Value)),
  fd=yo x qual (Bj st) (wM st) (bY st) .none kV doc pm an cdv ct/\K.lookup f=aj ⟨oc,od,.func fd,osl⟩/\Np K cdv qual=au
 kp:wu K (.ref f)=au
section
variable{P:bB}{w:bA}{K:aJ}{mg:Str->Option Value}{base:bh}
theorem fU.ok{x qual:Str}{st:dw}{f:az}{fd:dH}{N ps:List Str}{k:Nat}{sp:Sp}(F:fU K x qual st f fd)(S:gY N ps (bY st))(len:∀vs H Q E,sp vs H Q E->vs.length=ps.length)
  (hbody:∀(cdv:Value)(A:bV)(outer:List Env)(s:aG)(H:Hp)(vs:List V)(Q:VK)(E:XK),jk k (A.deeper (envOfC qual (bY st) s.heap.objs.size f cdv))->sp vs H Q E->
   ∃t,jA (zc eY P w K mg base N qual (bY st) f cdv A outer s H E).vN (wM st) t/\t {nx:=λ_ H'=>Q .non H',rt:=Q} (start N vs) H):dG P w K mg base eY (k+1) f fd ps sp:=by
 obtain⟨oc,od,kV,doc,pm,an,cdv,ct,osl,rfl,lk,hcd⟩:=F.ex
 refine al6 lk hcd S len λA outer s H vs Q E hr hsp=>?_
 obtain⟨t,h,q⟩:=hbody cdv A outer s H vs Q E hr hsp
 exact⟨t,h.vN,q⟩
theorem fU.binds{x qual:Str}{st:dw}{f:az}{fd:dH}{ps:List Str}(F:fU K x qual st f fd)
  (h:∀(kV doc pm:Value)(an:Option az)(cdv ct:Value)(us:List Value),us.length=ps.length->bindArgs (yo x qual (Bj st) (wM st) (bY st) .none kV doc pm an cdv ct) ⟨us,[]⟩=pure (ps.zip us)):Binds K fd ps []:=by
 obtain⟨oc,od,kV,doc,pm,an,cdv,ct,osl,rfl,lk,hcd⟩:=F.ex
 exact .all (h kV doc pm an cdv ct)
theorem R4{x qual:Str}{st:dw}{f:az}{oc:Value}{od an:Option az}{osl:Array (Option Value)}{kV doc pm cdv ct:Value}(l:K.lookup f=aj ⟨oc,od,.func (yo x qual (Bj st) (wM st) (bY st) .none kV doc pm an cdv ct),osl⟩)
  (c:Np K cdv qual=au)(k:wu K (.ref f)=au):fU K x qual st f (yo x qual (Bj st) (wM st) (bY st) .none kV doc pm an cdv ct):=⟨⟨oc,od,kV,doc,pm,an,cdv,ct,osl,rfl,l,c⟩,k⟩
end
section
variable{X:Cx}
theorem pv(i:Nat){x:Str}{pos:Pos}(hN:X.N[i]?=aj x:=by rfl)(hv:Uk X.env.scope x:=by first|exact cR rfl|exact t8 (cR rfl)|exact t8 (t8 rfl))(hd:(x==("__debug__":Str))=aD:=by decide)
  (hcd:(x==("__classdict__":Str))=aD:=by decide):PE X (.Name x pos) (uq i):=akP hN hv hd hcd
end
theorem vG{A B:Prop}(h:B):if aD=au then A else B:=by
 rw[aY iw];exact h
theorem vH{A B:Prop}(h:A):if au=au then A else B:=by
 rw[aZ rfl];exact h
def bD(H H':Hp):Prop:=∀b o,H b=aj o->H' b=aj o
theorem bD.refl(H:Hp):bD H H:=λ_ _ h=>h
theorem bD.trans{H H1 H2:Hp}(a:bD H H1)(b:bD H1 H2):bD H H2:=λc o h=>b c o (a c o h)
theorem bD.free{H H':Hp}(e:bD H H'){l:az}(h:H' l=nA):H l=nA:=by
 cases q:H l with
 |none=>rfl
 |some o=>
  rw[e l o q] at h;cases h
theorem bD.seq{K:aJ}{H H':Hp}{a:az}{xs:List V}(e:bD H H')(h:bK K H a xs):bK K H' a xs:=by
 rcases h with(h|⟨o,h⟩)|h
 .exact .inl (.inl (e _ _ h))
 .exact .inl (.inr ⟨o,e _ _ h⟩)
 .exact .inr h
section
variable{X:Cx}
theorem ahG:je X (.builtin "len") (λxs H Q=>∃a kvs,xs=[V.ref a]/\H a=aj (.dK kvs)/\Q (.int kvs.length) H):=by
 intro pins s σ H xs us Q I r h
 obtain⟨a,kvs,rfl,ha,q⟩:=h
 obtain⟨u,rfl,ru⟩:=vals1 r
 cases ru;exact al9 I (.inl ha) λt s' I'=>⟨.int kvs.length,H,I',⟨t,rfl⟩,q⟩
end
section
variable{κ:Type}[DecidableEq κ]
end
def Cx.blk(X:Cx)(N:List Str)(scope:jG)(cl:List (Str×az))(C:az)(s:aG)(H:Hp)(fp:List az):Cx:=
 {X with N:=N,s₀:=s,H₀:=H,env:=Qu scope cl C X.env,outer:=X.stack,ex:=fp,fn:=λ_=>aD,pn:=[],xe:=λ_ _=>False}
theorem Oz(f:Str×Aw->List (Str×az)->Sem (ForInStep (List (Str×az))))
  (hf:∀n k r,f (n,k) r=if k==pG then(do let c <-cellOf env n;pure (.yield ((n,c)::r))) else pure (.yield r)):
  ∀(names:List (Str×Aw))(cs:List (Str×az)),(∀y∈names,y.2=.free->∃c,env.cells.lookup y.1=aj c)->(∀n c,cs.lookup n=aj c->env.cells.lookup n=aj c)->
   ∃cl,(forIn names cs f:Sem (List (Str×az)))=pure cl/\(∀n c,cl.lookup n=aj c->env.cells.lookup n=aj c)/\
    ∀n,((∃c,cs.lookup n=aj c)\/∃y∈names,y.1=n/\y.2=.free)->∃c,cl.lookup n=aj c
 |[],cs,_,h2=>⟨cs,rfl,h2,λn h=>h.elim id λ⟨_,hy,_⟩=>nomatch hy⟩
 |(n,k)::r,cs,h1,h2=>by
  rw[Wh,hf];by_cases hk:k=.free
  .subst hk
   obtain⟨c,hc⟩:=h1 (n,.free) dj rfl
   have hc':env.cells.lookup n=aj c:=hc;have e:cellOf env n=pure c:=by unfold cellOf;rw[hc']
   obtain⟨cl,q1,q2,q3⟩:=Oz f hf r ((n,c)::cs) (λy hy=>h1 y (dB _ hy)) (λm d hm=>by
    rw[zV] at hm;by_cases hb:(m==n)=au
    .rw[hb] at hm;have:=eq_of_beq hb;subst this;cases hm;exact hc'
    .rw[aeS] at hb;rw[hb] at hm;exact h2 m d hm)
   refine⟨cl,?_,q2,λm hm=>q3 m ?_⟩
   .rw[aZ (show(pG==pG)=au from rfl),e];simp only[pure_bind];exact q1
   .by_cases hb:m=n
    .subst hb;exact .inl ⟨c,by simp[zV]⟩
    .rcases hm with⟨d,hm⟩|⟨y,hy,e1,e2⟩
     .refine .inl ⟨d,?_⟩;rw[zV,beq_eq_false_iff_ne.mpr hb];exact hm
     .rcases bJ.mp hy with rfl|hy
      .exact absurd e1.symm hb
      .exact .inr ⟨y,hy,e1,e2⟩
  .have hb:(k==pG)=aD:=beq_eq_false_iff_ne.mpr hk
   obtain⟨cl,q1,q2,q3⟩:=Oz f hf r cs (λy hy=>h1 y (dB _ hy)) h2
   refine⟨cl,?_,q2,λm hm=>q3 m ?_⟩
   .rw[hb];simp only[kE,if_false,pure_bind];exact q1
   .rcases hm with hm|⟨y,hy,e1,e2⟩
    .exact .inl hm
    .rcases bJ.mp hy with rfl|hy
     .exact absurd e2 hk
     .exact .inr ⟨y,hy,e1,e2⟩
theorem Ep(h1:∀y∈scope.names,y.2=.free->∃c,env.cells.lookup y.1=aj c):
  ∃cl,closureFor scope env=pure cl/\(∀n c,cl.lookup n=aj c->env.cells.lookup n=aj c)/\∀y∈scope.names,y.2=.free->∃c,cl.lookup y.1=aj c:=by
 unfold closureFor
 obtain⟨cl,q1,q2,q3⟩:=Oz (env:=env) (λx r=>if(x.2==pG)=au then(do let c <-cellOf env x.1;pure (.yield ((x.1,c)::r))) else pure (.yield r)) (λn k r=>rfl) scope.names [] h1 (λn c h=>by simp at h)
 have q:=congrArg (λt:Sem (List (Str×az))=>t >>= λcs=>pure cs) q1;simp only[pure_bind] at q
 exact⟨cl,q,q2,λy hy e=>q3 y.1 (.inr ⟨y,hy,rfl,e⟩)⟩
theorem Xj{scope:jG}{env:Env}{x:Str}:∀{names:List (Str×Aw)},
  (names.map λ(n,k)=>if(k==pG&&env.scope.kind==.function&&env.kindOf n==aj .cell) then(n,NP) else(n,k)).lookup x=
   (names.lookup x).map λk=>if(k==pG&&env.scope.kind==.function&&env.kindOf x==aj .cell) then NP else k
 |[]=>rfl
 |(n,k)::r=>by
  have ih:=@Xj scope env x r;show List.lookup x ((if(k==pG&&env.scope.kind==.function&&env.kindOf n==aj .cell)=au then(n,NP) else(n,k))::_)=_;cases hx:x==n with
  |true=>
   have e:=eq_of_beq hx;subst e;by_cases hc:(k==pG&&env.scope.kind==.function&&env.kindOf x==aj .cell)=au
   .rw[aZ hc];simp only[zV,beq_self_eq_true,lR,hc,if_true]
   .rw[aY hc];simp only[zV,beq_self_eq_true,lR,hc,if_false];rfl
  |false=>
   by_cases hc:(k==pG&&env.scope.kind==.function&&env.kindOf n==aj .cell)=au
   .rw[aZ hc];simp only[zV,hx];exact ih
   .rw[aY hc];simp only[zV,hx];exact ih
def frees(js:List Nat)(σ:St):St:=js.map λj=>(σ[j]?).join
section
variable{X:Cx}{pins:List (az×Obj)}{σ:St}{H:Hp}{s s1:aG}{NT NF:List Str}{js:List Nat}{scope:jG}{cl:List (Str×az)}{fp:List az}
structure nQ(X:Cx)(NT NF:List Str)(js:List Nat)(scope:jG):Prop where
 kind:scope.kind=.function
 names:∀y∈scope.names,y.2=.local->scope.names.lookup y.1=aj .local
 cell:∀y∈scope.names,y.2≠.cell
 free:∀y∈scope.names,y.2=.free->X.env.scope.names.lookup y.1=aj .cell\/X.env.scope.names.lookup y.1=aj .free
 len:js.length=NF.length
 fr:∀(k:Nat)(j:Nat)(x:Str),js[k]?=aj j->NF[k]?=aj x->X.N[j]?=aj x/\scope.names.lookup x=aj .free
 tg:∀x∈NT,scope.names.lookup x=aj .local
 nd:(NT++NF).Nodup
theorem Inv.blk(I:Inv X pins σ H s)(B:nQ X NT NF js scope)(q2:∀n c,cl.lookup n=aj c->X.env.cells.lookup n=aj c)(q3:∀y∈scope.names,y.2=.free->∃c,cl.lookup y.1=aj c)
  (hf:∀b∈fp,jH X pins H b)(hlt:∀b∈fp,b<s.heap.objs.size){m:Str->Option Value}(hns:s1.heap.Ns s.heap.objs.size m)(keep:∀b o,s.heap.get? b=aj o->s1.heap.get? b=aj o)
  (hos:s1.os=s.os)(hg:AllBare s1.gens):
  Inv (X.blk (NT++NF) scope cl s.heap.objs.size s H fp) [] (cA NT.length ao++frees js σ) H s1:=by
 have look:∀x,(X.blk (NT++NF) scope cl s.heap.objs.size s H fp).env.kindOf x=(scope.names.lookup x).map λk=>if(k==pG&&X.env.scope.kind==.function&&X.env.kindOf x==aj .cell) then NP else k:=λx=>Xj (scope:=scope)
 have ald:∀x,((X.blk (NT++NF) scope cl s.heap.objs.size s H fp).env.kindOf x=aj .cell\/(X.blk (NT++NF) scope cl s.heap.objs.size s H fp).env.kindOf x=aj .free)->scope.names.lookup x=aj .free:=λx h=>by
  rw[look] at h;cases e:scope.names.lookup x with
  |none=>rw[e] at h;simp at h
  |some k=>
   rw[e] at h;by_cases hk:k=.free
   .rw[hk]
   .have hb:(k==pG)=aD:=beq_eq_false_iff_ne.mpr hk;simp only[lR,hb,Wv,kE,if_false,Mu] at h;rcases h with h|h
    .subst h;exact absurd rfl (B.cell _ (vU e))
    .exact absurd h hk
 have ltC:∀c x,X.env.cells.lookup x=aj c->c<s.heap.objs.size:=λc x e=>by
  obtain⟨v,q⟩:=I.cell x c e
  exact q.lt
 refine⟨⟨I.ok.mod,B.kind,I.ok.glob,I.ok.blt,bT _,λx y c h1 h2=>I.ok.inj x y c (q2 x c h1) (q2 y c h2),λx hx=>?_,λx c h _=>(nomatch(show aD=au from h)),I.ok.hd,I.ok.frames,.inl rfl,λb hb=>⟨dX (hlt b hb),λx c e=>(hf b hb).2.2.2.2.1 x c (q2 x c e)⟩,I.bs,ju I.ok.uy I.sz,λb o e hb=>?_,λb hb hb2=>?_,I.stack,I.aab⟩,
  hos,hg,Un.kept keep,⟨m,hns,λi x v h1 h2 h3=>?_⟩,λx c e=>?_,I.hok.fresh (bT _),λx c e=>I.rK x c (q2 x c e),λp hp=>(nomatch(show p∈([]:List (az×Obj)) from hp)),I.hok.kept keep,?_⟩
 .exact q3 _ (vU (ald x hx)) rfl
 .rcases(hf b hb).2.2.2.1 with z|z
  .exact I.ok.Gv b o e z
  .exact absurd (nq (bN e) (ju I.ok.uy z)) (Aa _)
 .obtain⟨_,f1,f2,_⟩:=hf b hb
  rcases bJ.mp (I.Br b hb2) with z|z
  .exact f1 z
  .exact f2 z
 .have h1':(NT++NF)[i]?=aj x:=h1;by_cases hi:i<NT.length
  .rw[o8 (by simpa using hi),Vp] at h2;split at h2<;>cases h2
  .have hi':NT.length<=i:=by lia
   rw[o7 (by simpa using hi')] at h2;rw[o7 hi'] at h1';simp only[qX] at h2;unfold frees at h2;rw[jr] at h2;cases ej:js[i-NT.length]? with
   |none=>rw[ej] at h2;cases h2
   |some j=>
    rw[ej] at h2;have h2':(σ[j]?).join=aj v:=by simpa using h2
    obtain⟨g1,g2⟩:=B.fr _ j x ej h1'
    have hj:σ[j]?=aj (aj v):=by
     cases e:σ[j]? with
     |none=>rw[e] at h2';cases h2'
     |some o=>rw[e] at h2';simp at h2';rw[h2']
    have hk:=B.free _ (vU g2) rfl;have hk':X.env.scope.names.lookup x=aj .cell\/X.env.scope.names.lookup x=aj .free:=hk
    obtain⟨m0,hn0,hl0⟩:=I.loc
    obtain⟨u,r,l⟩:=hl0 j x v g1 hj (.inr hk')
    refine⟨u,r,.inr ⟨?_,?_⟩⟩
    .rw[look,g2];by_cases hc:(pG==pG&&X.env.scope.kind==.function&&X.env.kindOf x==aj .cell)=au
     .left;simp only[lR,hc,if_true]
     .right;simp only[lR,hc,if_false];rfl
    .rcases l with⟨k0,_⟩|⟨_,c,e,z⟩
     .have k0':X.env.scope.names.lookup x=aj .local:=k0;rcases hk' with z|z<;>rw[z] at k0'<;>cases k0'
     .obtain⟨c',hc'⟩:=q3 _ (vU g2) rfl
      have hc2:cl.lookup x=aj c':=hc';have e2:=q2 x c' hc2;rw[e] at e2;cases e2
      obtain⟨o,ho,hd⟩:=z
      exact⟨c,hc2,o,keep c o ho,hd⟩
 .obtain⟨v,o,ho,hd⟩:=I.cell x c (q2 x c e)
  exact⟨v,o,keep c o ho,hd⟩
 .show(cA NT.length ao++frees js σ).length=(NT++NF).length
  unfold frees;simp[B.len]
theorem Inv.Tc(I:Inv X pins σ H s)(hf:∀b∈fp,jH X pins H b)(J:Inv (X.blk N scope cl s.heap.objs.size s H fp) SN σ' H' s'):Inv X pins σ H' s':=
 I.call' J.os J.base J.hok J.bare λb hb=>⟨(hf b hb).2.2.2.1,(hf b hb).2.1,(hf b hb).2.2.2.2.1,(hf b hb).2.2.2.2.2⟩
end
theorem ajL(a:List α)(x y:α)(b:List α)(h:a.length=n):(a++x::b).set n y=a++y::b:=by
 subst h;rw[List.set_append_right _ _ (bT _),Xk];rfl
inductive gR where
 |one|many (n:Nat)
def xJ(K:aJ):gR->V->Hp->List V->Prop
 |.one,x,_,vs=>vs=[x]
 |.many n,x,H,vs=>∃a,x=.ref a/\cz K H a vs/\vs.length=n
def isNm(e:Expr)(x:Str):Prop:=∃pos,e=.Name x pos
def m6(tg:Expr)(NT:List Str):gR->Prop
 |.one=>∃x,isNm tg x/\NT=[x]
 |.many n=>∃es k pos,tg=.Tuple es k pos/\Paired isNm es NT/\NT.length=n
theorem X5:∀{es:List Expr}{NT:List Str},Paired isNm es NT->rD es env=es.map λe=>(aD,assign e env)
 |_,_,.nil=>rfl
 |_,_,.cons ⟨pos,e⟩ t=>by
  subst e
  show(aD,assign _ env)::rD _ env=_
  rw[X5 t];rfl
section
variable{X:Cx}{pins:List (az×Obj)}{H:Hp}{E:Value->aG->Prop}
theorem ahH(p:Paired isNm es NT):∀{pre NF:List Str}{σp fs:St}{s:aG}{vs:List V}{us:List Value}{Q:Unit->aG->Prop},
  X.N=pre++NT++NF->X.N.Nodup->(∀x∈NT,X.env.scope.names.lookup x=aj .local)->σp.length=pre.length->vs.length=NT.length->
  Inv X pins (σp++(cA NT.length ao++fs)) H s->Vals vs us->(∀s',Inv X pins (σp++(vs.map aj++fs)) H s'->Q () s')->
  aL (model X.prog X.w) X.A (Ab (es.map λe=>assign e X.env) us) Q E s:=by
 induction p with
 |nil=>
  intro pre NF σp fs s vs us Q hN nd hl hp hv I r q;cases vs with
  |cons _ _=>simp at hv
  |nil=>
   cases r;exact assignInOrder_nil (q s I)
 |@cons e x es NT he t ih=>
  intro pre NF σp fs s vs us Q hN nd hl hp hv I r q;cases vs with
  |nil=>simp at hv
  |cons v vs=>
   cases r with
   |cons r rr=>
    obtain⟨pos,rfl⟩:=he
    have hx:=hl x dj;have hi:X.N[pre.length]?=aj x:=by
     rw[hN,qg,o7 (bT _)];simp
    refine assignInOrder_cons (Hv (uZ I nd hi (.inl hx) r (λs' I'=>?_) (.inr hx)));have e1:(σp++(cA (x::NT).length ao++fs)).set pre.length (aj v)=(σp++[aj v])++(cA NT.length ao++fs):=by
     exact(ajL σp ao (aj v) (cA NT.length ao++fs) hp).trans (List.append_cons σp (aj v) (cA NT.length ao++fs))
    rw[e1] at I';refine ih (pre:=pre++[x]) (NF:=NF) (σp:=σp++[aj v]) (by rw[hN];simp) nd (λy hy=>hl y (dB _ hy)) (by simp[hp]) (by simpa using hv) I' rr λs2 I2=>q s2 ?_
    have e2:σp++[aj v]++(vs.map aj++fs)=σp++((v::vs).map aj++fs):=by simp
    rw[e2] at I2;exact I2
theorem ale(tk:m6 tg NT T)(hN:X.N=NT++NF)(nd:X.N.Nodup)(hc:X.calm=au)
  (hl:∀x∈NT,X.env.scope.names.lookup x=aj .local)(I:Inv X pins (cA NT.length ao++fs) H s)(r:RelV v u)(hv:xJ X.K T v H vs)
  (q:∀s',Inv X pins (vs.map aj++fs) H s'->Q () s'):aL (model X.prog X.w) X.A (assign tg X.env u) Q E s:=by
 cases T with
 |one=>
  obtain⟨x,⟨pos,rfl⟩,rfl⟩:=tk
  have hv':vs=[v]:=hv;subst hv';have hx:=hl x dj;exact Hv (uZ I nd (i:=0) (by rw[hN];rfl) (.inl hx) r (λs' I'=>q s' I') (.inr hx))
 |many n=>
  obtain⟨es,k,pos,rfl,p,hn⟩:=tk
  obtain⟨a,rfl,hq,hlen⟩:=hv
  cases r
  obtain⟨its,rv,ht,hz⟩:=I.tuple hq
  have e:=X5 (env:=X.env) p;have hpl:=p.length;refine assign_Tuple_tuple (I.ok.hd hc) ht (by rw[e];simp only[bC,gB];rw[<-rv.length];lia) (by rw[e];simp) λh' hx=>?_
  have I1:Inv X pins (cA NT.length ao++fs) H {s with heap:=h'}:=I.kept (t':=s.toks) λb o e=>hx b o (dX (bN e)) e
  rw[e,iK];exact ahH p (pre:=[]) (σp:=[]) (by rw[hN];rfl) nd hl rfl (by lia) I1 (by simpa using rv) q
end
def turnOf(target iter:Expr)(ifs:List Expr)(it:Value)(env:Env)(emit:Sem Unit)(more:Sem PySem.Fin):Sem PySem.Fin:=do
 tW iter.pos
 match <-jn it with
 |none=>pure (.done .next)
 |some v=>
  xY target it v
  assign target env v
  let mut ok:=au
  for c in ifs do
   if ok then ok <-isTrue c env (eval c env)
  if ok then emit
  more
theorem agX(elt target iter:Expr)(ifs:List Expr)(scope:jG)(pos:Pos)(it acc:Value)(env:Env):
  Fb (.ListComp elt [⟨target,iter,ifs,0⟩] scope pos) 0 it acc env=turnOf target iter ifs it env (do let _ <-call (.builtin "list.append") [acc,<-eval elt env]) (again (.compLoop (.ListComp elt [⟨target,iter,ifs,0⟩] scope pos) 0 it acc env)):=by rfl
theorem agY(kx vx target iter:Expr)(ifs:List Expr)(scope:jG)(pos:Pos)(it:Value)(D:az)(env:Env):
  Fb (.DictComp kx vx [⟨target,iter,ifs,0⟩] scope pos) 0 it (.ref D) env=turnOf target iter ifs it env (do
      let kv <-eval kx env
      let vv <-pL [kv] (eval vx env)
      tW {kx.pos with endLine:=vx.pos.endLine,endCol:=vx.pos.endCol}
      pL [kv,vv] (dictSet D kv vv)) (again (.compLoop (.DictComp kx vx [⟨target,iter,ifs,0⟩] scope pos) 0 it (.ref D) env)):=by rfl
theorem ahI(elt target iter:Expr)(ifs:List Expr)(scope:jG)(pos:Pos)(it acc:Value)(env:Env):
  Fb (.SetComp elt [⟨target,iter,ifs,0⟩] scope pos) 0 it acc env=turnOf target iter ifs it env (do let v <-eval elt env;tW elt.pos;let _ <-call (.builtin "set.add") [acc,v]) (again (.compLoop (.SetComp elt [⟨target,iter,ifs,0⟩] scope pos) 0 it acc env)):=by rfl
def lK(X:Cx)(ifs:List Expr)(t:TT):Prop:=
 ∀(pins:List (az×Obj))(s:aG)(σ:St)(H:Hp)(Q:Bool->Hp->Prop),Inv X pins σ H s->t σ H Q->
  aL (model X.prog X.w) X.A (forIn ifs au λc r=>if r=au then do let ok <-isTrue c X.env (eval c X.env);pure (ae9 ok) else pure (ae9 r)) (TP X pins σ Q) X.xe s
def ang:TT:=λ_ H Q=>Q au H
theorem ajM:lK X [] ang:=λ_ _ _ H _ I h=>wpAny_tests_nil ⟨H,I,h⟩
theorem ajN(h:PT X c t):lK X [c] t:=λpins s σ H Q I q=>wpAny_tests_one (h pins s σ H Q I q)
abbrev TM:=St->Hp->(Hp->Prop)->Prop
def PM(X:Cx)(emit:Sem Unit)(t:TM):Prop:=
 ∀(pins:List (az×Obj))(s:aG)(σ:St)(H:Hp)(Q:Hp->Prop),Inv X pins σ H s->t σ H Q->
  aL (model X.prog X.w) X.A emit (λ_ s'=>∃H',Inv X pins σ H' s'/\Q H') X.xe s
def Rk(D:az)(te:TE):TM:=λσ H Q=>te σ H λy H1=>∃xs,H1 D=aj (.lst xs)/\xs.length<bU/\Q (upd H1 D (.lst (xs++[y])))
theorem ahJ(he:PE X elt te):PM X (do let _ <-call (.builtin "list.append") [.ref D,<-eval elt X.env]) (Rk D te):=by
 intro pins s σ H Q I h;refine aB (bF (he pins s σ H _ I h) λv s1 aP=>?_)
 obtain⟨y,H1,I1,r1,xs,hD,hz,q⟩:=aP
 refine aB (bF (Yw (X:=X) pins s1 σ H1 (.ref D) [y] (.ref D) [v] (λ_ H'=>Q H') I1 rfl (.cons r1 .nil) ⟨D,xs,y,rfl,rfl,hD,hz,q⟩) λ_ s2 ⟨_,H2,I2,_,q2⟩=>aW ⟨H2,I2,q2⟩)
def xq(K:aJ)(T:gR)(ts:TT)(em:TM)(fs:St)(J:It)(H0:Hp)(done:Hp->Prop):Prop:=
 ∃W:Nat->Nat->Hp->Prop,(∃m,W 0 m H0)/\∀i m H,W i m H->
  (J.stop i H/\done H)\/(J.go i H/\∀x H',J.xG i H x H'->∃vs,xJ K T x H' vs/\
   ts (vs.map aj++fs) H' λb H2=>if b=au then em (vs.map aj++fs) H2 λH3=>∃m',m'<m/\W (i+1) m' H3 else ∃m',m'<m/\W (i+1) m' H2)
section
variable{X:Cx}{NT NF:List Str}{tg iter e:Expr}{ifs:List Expr}{T:gR}{ts:TT}{em:TM}{emit:Sem Unit}{acc:Value}{fp:List az}{it:az}{J:It}{tn:Nat->bh->Prop}
theorem aix{fs:St}{vs:List V}{pins:List (az×Obj)}{H:Hp}{s:aG}(hv:vs.length=NT.length)(I:Inv X pins (vs.map aj++fs) H s):Inv X pins (cA NT.length ao++fs) H s:=
 I.weak (by simp[hv]) λi v h=>by
  by_cases hi:i<NT.length
  .rw[o8 (by simpa using hi),Vp] at h;split at h<;>cases h
  .rw[o7 (by simp;lia)] at h⊢;simpa[hv] using h
theorem xJ.len{tg:Expr}{K:aJ}{x:V}{H:Hp}{vs:List V}(tk:m6 tg NT T)(h:xJ K T x H vs):vs.length=NT.length:=by
 cases T with
 |one=>obtain⟨y,_,rfl⟩:=tk;rw[show vs=[x] from h];rfl
 |many n=>obtain⟨_,_,_,_,_,e⟩:=tk;obtain⟨_,_,_,e'⟩:=h;lia
theorem Qv{R:qD->aG->Prop}{fs:St}{H:Hp}{s:aG}{done:Hp->Prop}(hx:X.xe=λ_ _=>False)(hT:Fb e 0 (.ref it) acc X.env=turnOf tg iter ifs (.ref it) X.env emit (again (.compLoop e 0 (.ref it) acc X.env)))
  (hq:(Ec e 0 (.ref it) acc X.env).isFrame=aD)(hqu:(Ec e 0 (.ref it) acc X.env).quiet=au)(hA:X.A.under (Ec e 0 (.ref it) acc X.env)=X.A)
  (tk:m6 tg NT T)(hN:X.N=NT++NF)(nd:X.N.Nodup)(hc:X.calm=au)(hl:∀x∈NT,X.env.scope.names.lookup x=aj .local)
  (hts:lK X ifs ts)(hem:PM X emit em)(TT:Turn X.prog X.w X.K tg J fp it tn)(hf:∀b∈fp,jH X [] H b)(I:Inv X [] (cA NT.length ao++fs) H s)(st:tn 0 s.heap)(hb:xq X.K T ts em fs J H done)
  (hR:∀H' s' σ',Inv X [] σ' H' s'->done H'->R (.ok .next) s'):
  jT (model X.prog X.w) X.A (.compLoop e 0 (.ref it) acc X.env) R s:=by
 obtain⟨W,⟨m0,w0⟩,turn⟩:=hb
 have stat:∀{H':Hp},(∀b∈fp,H' b=ao)->∀b∈fp,jH X [] H' b:=λhn b hb=>⟨hn b hb,(hf b hb).2⟩
 have noE:∀{α:Type}{t:Sem α}{Q:α->aG->Prop}{E:Value->aG->Prop}{s:aG},aL (model X.prog X.w) X.A t Q (λ_ _=>False) s->aL (model X.prog X.w) X.A t Q E s:=λh=>oN h (λ_ _ z=>z) λ_ _ z=>z.elim
 have noX:∀{α:Type}{t:Sem α}{Q:α->aG->Prop}{E:Value->aG->Prop}{s:aG},aL (model X.prog X.w) X.A t Q X.xe s->aL (model X.prog X.w) X.A t Q E s:=λh=>noE (by rw[hx] at h;exact h)
 refine codeAny_loop hqu (λn s'=>∃i H',Inv X [] (cA NT.length ao++fs) H' s'/\tn i s'.heap/\(∀b∈fp,H' b=ao)/\W i n H') ?_ m0 ⟨0,H,I,st,λb hb=>(hf b hb).1,w0⟩;rintro n s3 ⟨i,H3,I3,st3,GZ,w3⟩;rw[hA];show aL _ X.A (if(Ec e 0 (.ref it) acc X.env).isFrame=au then(Fb e 0 (.ref it) acc X.env).onRaise (leaving X.env) else(Fb e 0 (.ref it) acc X.env).onRaise (λx=>do noteFrame x X.env;theTreesLotGoes x)) _ _ s3;rw[hq,aY iw];refine wpAny_noted (noE ?_);rw[hT];unfold turnOf;refine aB (tG (aB ?_));rcases turn i n H3 w3 with⟨stop,qn⟩|⟨go,step⟩
 .refine bF (TT.done X rfl rfl rfl hc i [] s3 _ H3 _ I3 (stat GZ) st3 stop) λr s4 aP=>?_
  obtain⟨hr,I4⟩:=aP
  subst hr;exact aW (hR H3 s4 _ I4 qn)
 .refine bF (TT.item X rfl rfl rfl hc i [] s3 _ H3 _ I3 (stat GZ) st3 go) λr s4 aP=>?_
  obtain⟨u,hr,h4⟩:=aP
  subst hr;refine aB (bF h4 λ_ s5 aP=>?_)
  obtain⟨x,H5,I5,r5,y5,zy,Uo⟩:=aP
  have Uq:=I5.pinned (stat Uo) (TT.obj _ _ zy)
  obtain⟨vs,hv,q5⟩:=step x H5 y5
  have hvl:=xJ.len tk hv;refine aB (ale tk hN nd hc hl Uq r5 hv λs6 I6=>?_);refine aB (noX (bF (hts _ s6 _ H5 _ I6 q5) λb s7 aP=>?_))
  obtain⟨H7,I7,q7⟩:=aP
  have aa8:∀{s8:aG}{H8:Hp},Inv X ([]++FP fp s5.heap) (vs.map aj++fs) H8 s8->(∃m',m'<n/\W (i+1) m' H8)->
    (Ec e 0 (.ref it) acc X.env=Ec e 0 (.ref it) acc X.env)/\∃m,m<n/\∃i H',Inv X [] (cA NT.length ao++fs) H' s8/\tn i s8.heap/\(∀b∈fp,H' b=ao)/\W i m H':=λ{s8 H8} I8 n8=>by
   obtain⟨m',hm,w8⟩:=n8
   refine⟨rfl,m',hm,i+1,H8,aix hvl I8.Jq,TT.keep _ _ _ zy λb hb o e=>(I8.pin (b,o) (fP _ (fP _ (Jb hb e)))).1,λb hb=>?_,w8⟩
   obtain⟨o,e,d⟩:=TT.obj _ _ zy b hb
   exact(I8.pin (b,o) (fP _ (fP _ (Jb hb e)))).2.1
  cases b with
  |false=>exact aW (aa8 I7 q7)
  |true=>exact aB (noX (bF (hem _ s7 _ H7 _ I7 q7) λ_ s8 ⟨H8,I8,q8⟩=>aW (aa8 I8 q8)))
end
structure Bk where
 cl:List (Str×az)
 C:az
 s:aG
 H:Hp
 fp:List az
abbrev Cx.bk(X:Cx)(N:List Str)(scope:jG)(b:Bk):Cx:=X.blk N scope b.cl b.C b.s b.H b.fp
section
variable{X:Cx}{NT NF:List Str}{js:List Nat}{elt kx vx tg iter e:Expr}{ifs:List Expr}{T:gR}{wi:TI}{ts:Bk->TT}{te tk' tv:Bk->TE}{scope:jG}{pos:Pos}
def Uv(K:aJ)(wi:TI)(T:gR)(ts:Bk->TT)(te:Bk->TE)(js:List Nat):TE:=λσ H Q=>wi σ H λJ H1=>∀D,H1 D=ao->∀b,xq K T (ts b) (Rk D (te b)) (frees js σ) J (upd H1 D (.lst [])) (Q (.ref D))
theorem aa9{pins:List (az×Obj)}{σ:St}{s2:aG}{H2:Hp}{cl:List (Str×az)}{it:az}{fp:List az}{tn:Nat->bh->Prop}{J:It}{Q:Hp->Prop}{RR:Value->az->qD->aG->Prop}{E:Value->aG->Prop}
  (B:nQ X NT NF js scope)(tk:m6 tg NT T)(hc:X.calm=au)
  (hin:∀b,lK (X.bk (NT++NF) scope b) ifs (ts b)/\PE (X.bk (NT++NF) scope b) elt (te b))
  (q2:∀n c,cl.lookup n=aj c->X.env.cells.lookup n=aj c)(q3:∀y∈scope.names,y.2=.free->∃c,cl.lookup y.1=aj c)
  (I2:Inv X pins σ H2 s2)(TT:Turn X.prog X.w X.K tg J fp it tn)(st2:tn 0 s2.heap)(f2:∀b∈fp,jH X pins H2 b)
  (q:∀b,xq X.K T (ts b) (Rk s2.heap.objs.size (te b)) (frees js σ) J (upd H2 s2.heap.objs.size (.lst [])) Q)
  (hR:∀C H' s' m,Inv X pins σ H' s'->jH X pins H' C->s'.heap.Ns C m->Q H'->RR (.ref s2.heap.objs.size) C (.ok .next) s'):
  aL (model X.prog X.w) X.A (newList []) (λacc s₃=>aL (model X.prog X.w) X.A (Wx scope X.env.globals cl [] X.env.qual ao .none (aj X.env)) (λcenv s₄=>
   jT (model X.prog X.w) X.A (.compStart (.ListComp elt [⟨tg,iter,ifs,0⟩] scope pos) 0 (.ref it) acc {cenv with scope:=relabel scope X.env}) (RR acc cenv.locals) s₄) E s₃) E s2:=by
 refine j0 ?_;have hD:H2 s2.heap.objs.size=ao:=I2.hok.fresh (bT _);have I3:Inv X pins σ (upd H2 s2.heap.objs.size (.lst [])) {s2 with heap:=s2.heap.push {cls:=.type "list",dict:=ao,data:=.seq ([]:List Value).toArray}}:=
  I2.laid (t':=s2.toks) (λb o e=>bR _ e) (bT _) ⟨lz _,[],0,.nil,fV _ rfl⟩
 have hsz:(s2.heap.push {cls:=.type "list",dict:=ao,data:=.seq ([]:List Value).toArray}).objs.size=s2.heap.objs.size+1:=tD ..;refine Vx B.cell (by intro y hy;simp at hy) (λh₁ hns₁ hsb₁=>?_) B.kind;have qT:∀b∈fp,b<s2.heap.objs.size:=λb hb=>by
  obtain⟨o,e,_⟩:=TT.obj 0 _ st2 b hb
  exact bN e
 have f3:∀b∈fp,jH X pins (upd H2 s2.heap.objs.size (.lst [])) b:=λb hb=>⟨by rw[dm (dX (qT b hb))];exact(f2 b hb).1,(f2 b hb).2⟩
 have keep:∀b o,(s2.heap.push {cls:=.type "list",dict:=ao,data:=.seq ([]:List Value).toArray}).get? b=aj o->h₁.get? b=aj o:=λb o e=>
  hsb₁.extBut b o (dX (bN e)) (bR _ e)
 have xK:∀b∈fp,b<(s2.heap.push {cls:=.type "list",dict:=ao,data:=.seq ([]:List Value).toArray}).objs.size:=λb hb=>by have:=qT b hb;rw[hsz];exact vX this
 have I4:=I3.blk (s1:={s2 with heap:=h₁,toks:=s2.toks+([]:List (Str×Value)).length}) B q2 q3 f3 xK hns₁ keep rfl I2.bare;have xM:tn 0 h₁:=TT.keep 0 _ _ st2 λb _ o e=>keep b o (bR _ e)
 obtain⟨i1,i2⟩:=hin ⟨cl,(s2.heap.push {cls:=.type "list",dict:=ao,data:=.seq ([]:List Value).toArray}).objs.size,{s2 with heap:=s2.heap.push {cls:=.type "list",dict:=ao,data:=.seq ([]:List Value).toArray}},upd H2 s2.heap.objs.size (.lst []),fp⟩
 have loop:jT (model X.prog X.w) X.A (.compLoop (.ListComp elt [⟨tg,iter,ifs,0⟩] scope pos) 0 (.ref it) (.ref s2.heap.objs.size) (Qu scope cl (s2.heap.push {cls:=.type "list",dict:=ao,data:=.seq ([]:List Value).toArray}).objs.size X.env))
   (RR (.ref s2.heap.objs.size) (s2.heap.push {cls:=.type "list",dict:=ao,data:=.seq ([]:List Value).toArray}).objs.size) {s2 with heap:=h₁,toks:=s2.toks+([]:List (Str×Value)).length}:=by
  refine Qv (X:=X.blk (NT++NF) scope cl (s2.heap.push {cls:=.type "list",dict:=ao,data:=.seq ([]:List Value).toArray}).objs.size {s2 with heap:=s2.heap.push {cls:=.type "list",dict:=ao,data:=.seq ([]:List Value).toArray}} (upd H2 s2.heap.objs.size (.lst [])) fp)
   (T:=T) (fs:=frees js σ) (done:=Q) rfl (agX elt tg iter ifs scope pos _ _ _) rfl rfl rfl tk rfl B.nd hc (λx hx=>Vy (B.tg x hx)) i1 (ahJ i2) TT (λb hb=>?_) I4 xM (q _) λH' s' σ' J' qd=>?_
  .exact⟨(f3 b hb).1,dX (xK b hb),λhb2=>by
    rcases bJ.mp (I3.Br b hb2) with z|z
    .exact(f3 b hb).2.1 z
    .exact(f3 b hb).2.2.1 z,.inl hb,λx c e=>(f3 b hb).2.2.2.2.1 x c (q2 x c e),λp hp=>(nomatch(show p∈([]:List (az×Obj)) from hp))⟩
  .obtain⟨m,hn,_⟩:=J'.loc
   exact hR _ H' s' m (I3.Tc f3 J') (I3.vD (bT _) J'.free) hn qd
 exact codeAny_compStart_list loop (TT.self _ 0 _ _ _ xM loop)
theorem amb(B:nQ X NT NF js scope)(tk:m6 tg NT T)(hc:X.calm=au)(hi:PI X tg iter wi)
  (hin:∀b,lK (X.bk (NT++NF) scope b) ifs (ts b)/\PE (X.bk (NT++NF) scope b) elt (te b))
  (hs:∀x,qZ iter X.env x=pure x:=by intro _;rfl):PE X (.ListComp elt [⟨tg,iter,ifs,0⟩] scope pos) (Uv X.K wi T ts te js):=by
 intro pins s σ H Q I h
 obtain⟨cl,hclos,q2,q3⟩:=Ep (env:=X.env) (scope:=scope) λy hy e=>I.ok.has y.1 (B.free y hy e)
 rw[eval_ListComp];refine Hq (use:=ao) rfl hs hclos B.kind B.names (bF (hi pins s σ H _ I h) λv s1 h1=>bF h1 λitv s2 aP=>?_)
 obtain⟨it,fp,tn,J,H2,e,I2,TT,st2,f2,q⟩:=aP
 subst e;refine aa9 (Q:=λH'=>Q (.ref s2.heap.objs.size) H') (RR:=λacc C=>Jv (model X.prog X.w) X.A X.xe ao (EP X pins σ Q) acc C) B tk hc hin q2 q3 I2 TT st2 f2 (q _ (I2.hok.fresh (bT _))) λC H' s' m I' fC hn qd=>?_
 refine⟨m,hn,λh' sb=>⟨.ref s2.heap.objs.size,H',?_,rfl,qd⟩⟩
 exact I'.turned (t':=s'.toks) (λb o hb e=>(sb.2 b hb).trans e) fC.1 fC.2.1 fC.2.2.2.1 fC.2.2.2.2.1 fC.2.2.2.2.2
theorem aiy(B:nQ X NT NF js scope)(tk:m6 tg NT T)(hc:X.calm=au)(hi:PI X tg iter wi)
  (hin:∀b,lK (X.bk (NT++NF) scope b) ifs (ts b)/\PE (X.bk (NT++NF) scope b) elt (te b))
  (hsw:wF (.ListComp elt [⟨tg,iter,ifs,0⟩] scope pos) (aj (.Name y pos')) spos.line X.env=pure au)
  (hN:X.N.Nodup)(hI:X.N[i]?=aj y)(hy:X.env.scope.names.lookup y=aj .local)
  (hs:∀x,qZ iter X.env x=pure x:=by intro _;rfl):PS X (.Assign [.Name y pos'] (.ListComp elt [⟨tg,iter,ifs,0⟩] scope pos) spos) (CK (Uv X.K wi T ts te js) (yR i)):=by
 intro pins s σ H D I h
 obtain⟨cl,hclos,q2,q3⟩:=Ep (env:=X.env) (scope:=scope) λy hy e=>I.ok.has y.1 (B.free y hy e)
 rw[adX _ _ _ _ hsw];refine aB (tG (aB ?_));show aL _ X.A (do let _ <-NQ (.ListComp elt [⟨tg,iter,ifs,0⟩] scope pos) scope X.env _ (newList []) aD (eval iter X.env) (aj (assign (.Name y pos') X.env))) _ _ s;refine aB (oN (Hq (use:=aj (assign (.Name y pos') X.env)) (Q:=λ_ s'=>SP X pins D .next s') rfl hs hclos B.kind B.names
  (bF (hi pins s σ H _ I h) λv s1 h1=>bF h1 λitv s2 ⟨it,fp,tn,J,H2,e,I2,TT,st2,f2,q⟩=>?_)) (λ_ s' hq=>aW (aW hq)) λ_ _ e=>e)
 subst e;refine aa9 (Q:=λH'=>D.nx (σ.set i (aj (.ref s2.heap.objs.size))) H') (RR:=λacc C=>Jv (model X.prog X.w) X.A X.xe (aj (assign (.Name y pos') X.env)) (λ_ s'=>SP X pins D .next s') acc C) B tk hc hin q2 q3 I2 TT st2 f2 (q _ (I2.hok.fresh (bT _))) λC H' s' m I' fC hn qd=>?_
 show aL _ X.A (assign (.Name y pos') X.env (.ref s2.heap.objs.size)) _ _ _;refine Hv (PJ I' hN hI (.inl hy) (v:=.ref s2.heap.objs.size) rfl (λs3 I3 aP=>?_) (.inr hy))
 obtain⟨a,sb,ha⟩:=aP
 have Uw:C≠a:=by
  rcases ha with z|z
  .rw[z];exact fC.2.1
  .exact λw=>fC.2.2.2.2.1 y a z w.symm
 refine⟨m,hn.sameBut sb Uw,λh' sb'=>⟨_,H',?_,qd⟩⟩
 exact I3.turned (t':=s3.toks) (λb o hb e=>(sb'.2 b hb).trans e) fC.1 fC.2.1 fC.2.2.2.1 fC.2.2.2.2.1 fC.2.2.2.2.2
end
def Ux(z:Str):It:=⟨λi _=>i<z.cps.size,λi H x H'=>H'=H/\∃c,z.cps[i]?=aj c/\x=.str ⟨#[c]⟩,λi _=>z.cps.size<=i⟩
theorem aiz{P:bB}{w:bA}{K:aJ}{tg:Expr}{z:Str}{t:Tok}{ty:String}{it:az}(hty:ty="str_ascii_iterator"\/ty="str_iterator")(hgo:∀i u,xY tg i u=pure ()):
  Turn P w K tg (Ux z) [it] it (λi h=>h.IsStrIter it ty z t i) where
 mem:=by simp
 obj:=λi h st b hb=>by
  have e:b=it:=by simpa using hb
  subst e
  obtain⟨o,e,c,d⟩:=st
  exact⟨o,e,λv q=>by rw[d] at q;cases q⟩
 keep:=λi h h' st k=>let ⟨o,ho,r⟩:=st;⟨o,k it (by simp) o ho,r⟩
 item:=by
  intro X hP hw hK hc i pins s σ H E I hf st hg;subst hP hw hK
  obtain⟨f0,f1,f2,f3,f4,f5⟩:=hf it (by simp)
  have hi:i<z.cps.size:=hg;have W:vh X.prog X.w X.A it [it] [it] z.cps.size (SignAt z) (λi h=>h.IsStrIter it ty z t i):=by
   rcases hty with rfl|rfl
   .exact Walks.strAscii (I.ok.hd hc) it z t
   .exact Walks.strWide (I.ok.hd hc) it z t
  refine W.item i s _ _ hi st λv h' tk hv st' kk=>?_
  obtain⟨c,u,hc',rfl⟩:=hv
  have I1:Inv X pins σ H {s with heap:=h',toks:=tk}:=I.turned (λb o hb e=>kk b o (by simpa using hb) e) f0 f1 f3 f4 f5
  refine⟨_,rfl,?_⟩
  rw[hgo];exact aW ⟨.str ⟨#[c]⟩,H,I1,⟨u,rfl⟩,⟨rfl,c,hc',rfl⟩,st',λb hb=>(hf b hb).1⟩
 done:=by
  intro X hP hw hK hc i pins s σ H E I hf st hg;subst hP hw hK
  obtain⟨f0,f1,f2,f3,f4,f5⟩:=hf it (by simp)
  have hi:z.cps.size<=i:=hg;rcases hty with rfl|rfl
  .exact wpAny_pyNext_ascii_end (I.ok.hd hc) st (by simpa using hi) λh' eb=>⟨rfl,I.turned (t':=s.toks) (λb o hb e=>eb b o hb e) f0 f1 f3 f4 f5⟩
  .exact wpAny_pyNext_wide_end (I.ok.hd hc) st (by simpa using hi) λh' eb=>⟨rfl,I.turned (t':=s.toks) (λb o hb e=>eb b o hb e) f0 f1 f3 f4 f5⟩
 self:=λ_ _ _ _ _ st h=>by
  rcases hty with rfl|rfl
  .exact wpAny_pyIter_striter_ascii st h
  .exact wpAny_pyIter_striter_wide st h
section
variable{X:Cx}{tg:Expr}
def anh(tl:TE):TI:=λσ H R=>tl σ H λx H1=>∃z,x=.str z/\R (Ux z) H1
theorem aba{l:Expr}{tl:TE}(hl:PE X l tl)(hgo:∀i u,xY tg i u=pure ():=by intro _ _;rfl):PI X tg l (anh tl):=by
 intro pins s σ H R I h;refine bF (hl pins s σ H _ I h) λv s1 aP=>?_
 obtain⟨x,H1,I1,r1,q1⟩:=aP
 obtain⟨z,e,q⟩:=q1
 subst e
 obtain⟨t,rfl⟩:=r1
 have fin:∀(o:Obj)(ty:String),(ty="str_ascii_iterator"\/ty="str_iterator")->Heap.IsStrIter (s1.heap.push o) s1.heap.objs.size ty z t 0->PIE X pins σ tg R (.ref s1.heap.objs.size) {s1 with heap:=s1.heap.push o}:=λo ty hty st=>by
  refine⟨s1.heap.objs.size,[s1.heap.objs.size],_,_,H1,rfl,I1.kept (t':=s1.toks) λb o e=>bR _ e,aiz hty hgo,st,λb hb=>?_,q⟩
  have e:b=s1.heap.objs.size:=by simpa using hb
  subst e;exact I1.vD (bT _) (I1.hok.fresh (bT _))
 cases ha:z.cps.all (·<128)
 .exact wpAny_pyIter_wide ha (fin _ _ (.inr rfl) ⟨_,fV _ rfl,rfl,rfl⟩)
 .exact wpAny_pyIter_ascii ha (fin _ _ (.inl rfl) ⟨_,fV _ rfl,rfl,rfl⟩)
theorem ahK:cX X (fj .LtE) (λx y H Q=>∃i j,x=.str i/\y=.str j/\Q (.bl (!(decide (j.cps.toList<i.cps.toList)))) H):=by
 intro pins s σ H x y v u Q I rx ry h
 obtain⟨i,j,rfl,rfl,q⟩:=h
 obtain⟨t,rfl⟩:=rx
 obtain⟨t',rfl⟩:=ry
 exact PySem.P.le_str (gj I q rfl)
theorem Pg:∀{ys:List Str}{us:List Value},Vals (ys.map V.str) us->StrsAre us ys
 |[],_,h=>by cases h;exact .nil
 |y::ys,_,h=>by
  cases h with
  |cons r rr=>
   obtain⟨t,rfl⟩:=r
   exact .cons y t (Pg rr)
theorem ajO:Df X "str.join" (λx xs H Q=>∃z p ys,x=.str z/\xs=[.ref p]/\bK X.K H p (ys.map V.str)/\(ys.map (·.length)).sum+ys.length*z.length<=16777216/\Q (.str (Txt.join z ys)) H):=by
 intro pins s σ H x xs v us Q I rx r h
 obtain⟨z,p,ys,rfl,rfl,hp,hz,q⟩:=h
 obtain⟨t,rfl⟩:=rx
 obtain⟨u,rfl,ru⟩:=vals1 r
 cases ru
 obtain⟨its,rv,pl,_⟩:=I.list hp
 exact join_list pl.isList (by simpa using Pg rv) hz λt' k=>⟨.str _,H,I.tok _,⟨_,rfl⟩,q⟩
end
section
variable{X:Cx}
theorem part_of(h:t7 v o):∃l:Option (Int×Tok),v=partValue l/\l.map (·.1)=o:=by
 cases h with
 |none=>exact⟨ao,rfl,rfl⟩
 |int i t=>exact⟨aj (i,t),rfl,rfl⟩
theorem alf:vO X (λx lo hi H Q=>∃z,x=.str z/\z.length<=bU/\Q (.str (Txt.slice z lo hi)) H):=by
 intro pins s σ H x v vl vu lo hi sl Q I rx hs pl pu h
 obtain⟨z,rfl,hz,q⟩:=h
 obtain⟨t,rfl⟩:=rx
 obtain⟨l,rfl,rfl⟩:=part_of pl
 obtain⟨u,rfl,rfl⟩:=part_of pu
 refine⟨"str",_,F.slot_str_getitem.lookup,XR s z t,?_⟩
 exact wpAny_getItem_str_slice (l:=l) (u:=u) (st:=ao) hs rfl (post_val_or_str ⟨ju (Txt.slice_le z _ _) hz,λt' k=>⟨.str _,H,I.tok _,⟨t',rfl⟩,q⟩⟩)
theorem Ze:∀{bs:List Bool}{us:List Value},Vals (bs.map V.bl) us->us=bs.map rm
 |[],_,h=>by cases h;rfl
 |b::bs,_,h=>by
  cases h with
  |cons r rr=>
   cases r;rw[Ze rr];rfl
theorem qu(hc:X.calm=au):je X (.builtin "all") (λxs H Q=>∃(p:az)(bs:List Bool),xs=[.ref p]/\bK X.K H p (bs.map V.bl)/\Q (.bl (bs.all id)) H):=by
 intro pins s σ H xs us Q I r h
 obtain⟨p,bs,rfl,hp,q⟩:=h
 obtain⟨u,rfl,ru⟩:=vals1 r
 cases ru
 obtain⟨its,rv,pl,_⟩:=I.list hp
 have hl:=pl.isList;have e0:=Ze rv;subst e0;have hlt:p<s.heap.objs.size:=by obtain⟨_,e,_⟩:=hl;exact bN e
 refine call_all_walk (Hw hl ?_)
 refine⟨s.heap.objs.size,[s.heap.objs.size,p],[s.heap.objs.size],(bs.map rm).toArray.size,_,_,λi=>(bs[i]?).getD au,rfl,X6 (A:=X.A.in1) (I.ok.hd hc) _ p (dX hlt) (bs.map rm).toArray,
  ⟨⟨_,fV _ rfl,rfl,rfl⟩,hl.push _⟩,λi v s' Q' E' hP hQ=>?_,λh' tk hk=>?_⟩
 .have hP':(bs.map rm)[i]?=aj v:=by simpa using hP
  rw[jr] at hP';cases e:bs[i]? with
  |none=>rw[e] at hP';cases hP'
  |some b=>
   rw[e] at hP';cases hP';simp only[e,DN] at hQ;exact sY hQ
 .have e:((gC (bs.map rm).toArray.size).all λi=>(bs[i]?).getD au)=bs.all id:=by
   have:(bs.map rm).toArray.size=bs.length:=by simp
   rw[this,pF,jK,jK];constructor
   .intro h b hb
    obtain⟨i,hi,rfl⟩:=Dw hb
    have:=h i (ql.mpr hi);simpa[iI hi] using this
   .intro h i hi;have hi':=ql.mp hi;simp only[iI hi',DN];exact h _ (vY hi')
  rw[e]
  refine⟨.bl _,H,I.kept λb x e=>hk b x (λhm=>?_) (bR _ e),rfl,q⟩
  rw[jB.mp hm] at e;exact Aa _ (bN e)
end
mutual
def RD(K:aJ)(H:Hp):aA->V->Prop
 |.none,v=>v=.non
 |.bool b,v=>v=.bl b
 |.int i,v=>v=.int i
 |.str x,v=>v=.str x
 |.tuple ds,v=>∃a vs,v=.ref a/\cz K H a vs/\ou K H ds vs
 |.list ds,v=>∃a vs,v=.ref a/\bK K H a vs/\ou K H ds vs
 |.dict _,_=>False
def ou(K:aJ)(H:Hp):List aA->List V->Prop
 |[],vs=>vs=[]
 |d::ds,vs=>∃v r,vs=v::r/\RD K H d v/\ou K H ds r
end
theorem cz.same{K:aJ}{H H':Hp}{a:az}{xs:List V}(e:∀b ys,H b=aj (.tup ys)->H' b=aj (.tup ys))(ef:∀b o u,H b=aj (.lJ o u)->H' b=aj (.lJ o u))(h:cz K H a xs):cz K H' a xs:=by
 rcases h with(h|⟨o,h⟩)|h
 .exact .inl (.inl (e _ _ h))
 .exact .inl (.inr ⟨o,ef _ _ _ h⟩)
 .exact .inr h
mutual
theorem RD.same{K:aJ}{H H':Hp}(e:bD H H'):∀{d:aA}{v:V},RD K H d v->RD K H' d v
 |.none,_,h=>h
 |.bool _,_,h=>h
 |.int _,_,h=>h
 |.str _,_,h=>h
 |.tuple ds,v,h=>by
  obtain⟨a,vs,e1,q,r⟩:=h
  exact⟨a,vs,e1,q.same (λb ys z=>e _ _ z) (λb o u z=>e _ _ z),ou.same e r⟩
 |.list ds,v,h=>by
  obtain⟨a,vs,e1,q,r⟩:=h
  exact⟨a,vs,e1,e.seq q,ou.same e r⟩
theorem ou.same{K:aJ}{H H':Hp}(e:bD H H'):∀{ds:List aA}{vs:List V},ou K H ds vs->ou K H' ds vs
 |[],_,h=>h
 |d::ds,vs,h=>by
  obtain⟨v,r,e1,q,t⟩:=h
  exact⟨v,r,e1,RD.same e q,ou.same e t⟩
end
section
variable{X:Cx}{pins:List (az×Obj)}{σ:St}{H:Hp}{s:aG}
mutual
theorem RD.reads(I:Inv X pins σ H s):∀{d:aA}{v:V}{u:Value},RD X.K H d v->RelV v u->∃as,Reads s.heap u d as
 |.none,_,_,h,r=>by
  cases(show _=V.non from h)
  cases r
  exact⟨_,.none⟩
 |.bool b,_,_,h,r=>by
  cases(show _=V.bl b from h)
  cases r
  exact⟨_,.bool b⟩
 |.int i,_,_,h,r=>by
  cases(show _=V.int i from h)
  obtain⟨t,rfl⟩:=r
  exact⟨_,.int i t⟩
 |.str x,_,_,h,r=>by
  cases(show _=V.str x from h)
  obtain⟨t,rfl⟩:=r
  exact⟨_,.str x t⟩
 |.tuple ds,v,u,h,r=>by
  obtain⟨a,vs,e1,q,t⟩:=h
  subst e1;cases r
  obtain⟨its,rv,⟨o,e,c,n,d⟩,_⟩:=I.tuple q
  obtain⟨as,R⟩:=ou.reads I t rv
  exact⟨_,.tuple e c d (by simpa using R)⟩
 |.list ds,v,u,h,r=>by
  obtain⟨a,vs,e1,q,t⟩:=h
  subst e1;cases r
  obtain⟨its,rv,⟨o,n,e,c,_,d⟩,_⟩:=I.list q
  obtain⟨as,R⟩:=ou.reads I t rv
  exact⟨_,.list e c d (by simpa using R)⟩
theorem ou.reads(I:Inv X pins σ H s):∀{ds:List aA}{vs:List V}{us:List Value},ou X.K H ds vs->Vals vs us->∃as,ReadsAll s.heap us ds as
 |[],_,_,h,r=>by
  cases(show _=[] from h)
  cases r
  exact⟨_,.nil⟩
 |d::ds,vs,us,h,r=>by
  obtain⟨v,rr,e1,q,t⟩:=h
  subst e1;cases r with
  |cons r1 r2=>
   obtain⟨as,R⟩:=RD.reads I q r1
   obtain⟨bs,R2⟩:=ou.reads I t r2
   exact⟨_,.cons R R2⟩
end
end
section
variable{X:Cx}
end
def abb(gw:jG)(N0 NT NF:List Str)(js:List Nat)(scope:jG):Bool:=
 scope.kind==.function&&scope.names.all (λy=>!(y.2==.local)||scope.names.lookup y.1==some .local)&&scope.names.all (λy=>!(y.2==.cell))&&
  scope.names.all (λy=>!(y.2==.free)||(gw.names.lookup y.1==aj .cell||gw.names.lookup y.1==aj .free))&&js.length==NF.length&&
  (js.zip NF).all (λp=>N0[p.1]?==aj p.2&&scope.names.lookup p.2==aj .free)&&NT.all (λx=>scope.names.lookup x==aj .local)&&decide (NT++NF).Nodup
theorem iu.ok(h:abb gw N0 NT NF js scope=au)(ho:X.env.scope=gw)(hN:X.N=N0):nQ X NT NF js scope:=by
 unfold abb at h;simp only[jl] at h
 obtain⟨⟨⟨⟨⟨⟨⟨h1,h2⟩,h3⟩,h4⟩,h5⟩,h6⟩,h7⟩,h8⟩:=h
 refine⟨eq_of_beq h1,λy hy e=>?_,λy hy e=>?_,λy hy e=>?_,by simpa using h5,λk j x ej ex=>?_,λx hx=>?_,of_decide_eq_true h8⟩
 .have:=jK.mp h2 y hy;rw[e] at this;simpa using this
 .have:=jK.mp h3 y hy;rw[e] at this;simp at this
 .have:=jK.mp h4 y hy;rw[e] at this;rw[ho];simpa using this
 .have hm:(j,x)∈js.zip NF:=by
   have:(js.zip NF)[k]?=aj (j,x):=by
    rw[List.getElem?_zip_eq_some]
    exact⟨ej,ex⟩
   exact pA this
  have:=jK.mp h6 _ hm;simp only[jl] at this;rw[hN]
  exact⟨eq_of_beq this.1,eq_of_beq this.2⟩
 .exact eq_of_beq (jK.mp h7 x hx)
structure dh(P:bB)(w:bA)(K:aJ)(mg:Str->Option Value)(base:bh)(x:Str)(k:Nat)(ps:List Str)(sp:Sp):Prop where
 ex:∃(f:az)(fd:dH),mg x=aj (.ref f)/\wu K (.ref f)=au/\Binds K fd ps []/\dG P w K mg base eY k f fd ps sp
section
variable{X:Cx}{x:Str}{k:Nat}{ps:List Str}{sp:Sp}{p pos:Pos}{e:Expr}{es:List Expr}{t:TA}
theorem amc(F:dh X.prog X.w X.K X.mg X.base x k ps sp)(hr:jk k X.A)(hg:Gl X x)(ha:PA X (e::es) t)(hdb:(x==("__debug__":Str))=aD:=by decide)
  (he:bG (e::es) X.env=(aD,eval e X.env)::bG es X.env:=by rfl)(hpl:(iM pos (bG es X.env)).any (·.1)=aD:=by rfl):
  PE X (.Call (.Name x p) (e::es) [] pos) (S7 sp [] E0 t):=by
 obtain⟨f,fd,h1,h2,h3,h4⟩:=F.ex
 exact ajB h4 hr hg h1 h2 h3 .nil ama ha hdb he hpl
theorem agx:je X (.builtin "isinstance") (λxs H Q=>∃x n t b,xs=[x,.ty n]/\mD X.K H x t/\zZ X.K t (.type n)=aj b/\Q (.bl b) H):=by
 intro pins s σ H xs us Q I r h
 obtain⟨x,n,t,b,rfl,ty,e,q⟩:=h
 obtain⟨u,u2,rfl,r1,r2⟩:=vals2 r
 cases r2;exact ahz I r1 ty e λtk=>⟨.bl b,H,I.tok tk,rfl,q⟩
end
structure Fx(K:aJ)(T:gR)(J:It)(n:Nat)(vs:Nat->List V)(G:Hp->Prop):Prop where
 go:∀i H,i<n->G H->J.go i H
 xG:∀i H x H',i<n->G H->J.xG i H x H'->H'=H/\xJ K T x H (vs i)
 stop:∀H,G H->J.stop n H
section
variable{K:aJ}{T:gR}{J:It}{n:Nat}{vs:Nat->List V}{G:Hp->Prop}{ts:TT}{te:TE}{fs:St}{H1:Hp}{D:az}{done:Hp->Prop}
end
theorem ajP(h:n<=m)(hm:m<=16777216:=by decide):n<=bU:=by rw[jR];lia
section
variable{K:aJ}{T:gR}{J:It}{n:Nat}{vs:Nat->List V}{G:Hp->Prop}{te:TE}{fs:St}{H1:Hp}{D:az}{done:Hp->Prop}
end
section
variable{X:Cx}
theorem Df.r{id:String}{r:V->List V->Hp->VK->Prop}(h:Df X id r):De X id r:=h
theorem afy:cX X (fj .IsNot) (λx y H Q=>∃a b,x=.bl a/\y=.bl b/\Q (.bl (a != b)) H):=by
 intro pins s σ H x y v u Q I rx ry h
 obtain⟨a,b,rfl,rfl,q⟩:=h
 cases rx;cases ry;exact isnot_bool (gj I q rfl)
end
def Ext(p:az)(H H':Hp):Prop:=∀b o,H b=aj o->b≠p->H' b=aj o
theorem Ext.refl(p:az)(H:Hp):Ext p H H:=λ_ _ h _=>h
theorem Ext.trans(a:Ext p H H1)(b:Ext p H1 H2):Ext p H H2:=λc o h hc=>b c o (a c o h hc) hc
theorem bD.ext(s:bD H H'):Ext p H H':=λb o h _=>s b o h
theorem Ext.upd:Ext p H (upd H p o):=λb u h hb=>by rw[dm hb];exact h
theorem bD.upd(h:H p=ao):bD H (L2.upd H p o):=λb u e=>by rw[dm (rA e h)];exact e
theorem afz(kx vx gens scope pos):eval (.DictComp kx vx gens scope pos) env=NQ (.DictComp kx vx gens scope pos) scope env (firstIterPos gens pos) newDict (firstAsync gens) (firstIter gens env):=rfl
def TF(D:az)(tk tv:TE):TM:=λσ H Q=>tk σ H λy H1=>tv σ H1 λz H2=>∃kvs k,H2 D=aj (.dK kvs)/\y=kV k/\kvs.length<bU/\Q (upd H2 D (.dK (putK kvs k z)))
theorem alg(hu:X.A.units+1<gJ)(hk:PE X kx tk)(hv:PE X vx tv):PM X (do
      let kv <-eval kx X.env
      let vv <-pL [kv] (eval vx X.env)
      tW {kx.pos with endLine:=vx.pos.endLine,endCol:=vx.pos.endCol}
      pL [kv,vv] (dictSet D kv vv)) (TF D tk tv):=by
 intro pins s σ H Q I h;refine aB (bF (hk pins s σ H _ I h) λkv s1 aP=>?_)
 obtain⟨y,H1,I1,r1,q1⟩:=aP
 refine aB (jL (bF (hv pins s1 σ H1 _ I1 q1) λvv s2 aP=>?_))
 obtain⟨z,H2,I2,r2,kvs,k,hD,ey,hl,q2⟩:=aP
 subst ey;refine aB (tG (jL ?_))
 obtain⟨z1,hd,vs,rel,dd⟩:=abY I2.hok hD
 have hz:vs.length<=bU:=by rw[<-rel.length];exact z1
 have hl2:(putK kvs k z).length<=bU:=by have:=Ox kvs k z;lia
 refine wpAny_dictSet_pairs (hsz:=hz) (Cd r1) dd λh' zA hs=>⟨_,?_,q2⟩
 have he:∃q,h'.get? D=aj q:=let ⟨q,_,_,hq,_⟩:=zA;⟨q,hq⟩
 exact Bg I2 (by rw[hD];exact nC) hs he (R3 hl2 hd (rel.put k r2) zA)
section
variable{X:Cx}{NT NF:List Str}{js:List Nat}{elt kx vx tg iter e:Expr}{ifs:List Expr}{T:gR}{wi:TI}{ts:Bk->TT}{te tk' tv:Bk->TE}{scope:jG}{pos:Pos}
def Uy(K:aJ)(wi:TI)(T:gR)(ts:Bk->TT)(tk' tv:Bk->TE)(js:List Nat):TE:=λσ H Q=>wi σ H λJ H1=>∀D,H1 D=ao->∀b,xq K T (ts b) (TF D (tk' b) (tv b)) (frees js σ) J (upd H1 D (.dK [])) (Q (.ref D))
theorem abd{pins:List (az×Obj)}{σ:St}{s2:aG}{H2:Hp}{cl:List (Str×az)}{it:az}{fp:List az}{tn:Nat->bh->Prop}{J:It}{Q:Hp->Prop}{RR:Value->az->qD->aG->Prop}{E:Value->aG->Prop}
  (B:nQ X NT NF js scope)(tk:m6 tg NT T)(hc:X.calm=au)(hu:X.A.units+1<gJ)
  (hin:∀b,lK (X.bk (NT++NF) scope b) ifs (ts b)/\PE (X.bk (NT++NF) scope b) kx (tk' b)/\PE (X.bk (NT++NF) scope b) vx (tv b))
  (q2:∀n c,cl.lookup n=aj c->X.env.cells.lookup n=aj c)(q3:∀y∈scope.names,y.2=.free->∃c,cl.lookup y.1=aj c)
  (I2:Inv X pins σ H2 s2)(TT:Turn X.prog X.w X.K tg J fp it tn)(st2:tn 0 s2.heap)(f2:∀b∈fp,jH X pins H2 b)
  (q:∀b,xq X.K T (ts b) (TF s2.heap.objs.size (tk' b) (tv b)) (frees js σ) J (upd H2 s2.heap.objs.size (.dK [])) Q)
  (hR:∀C H' s' m,Inv X pins σ H' s'->jH X pins H' C->s'.heap.Ns C m->Q H'->RR (.ref s2.heap.objs.size) C (.ok .next) s'):
  aL (model X.prog X.w) X.A (newDict) (λacc s₃=>aL (model X.prog X.w) X.A (Wx scope X.env.globals cl [] X.env.qual ao .none (aj X.env)) (λcenv s₄=>
   jT (model X.prog X.w) X.A (.compStart (.DictComp kx vx [⟨tg,iter,ifs,0⟩] scope pos) 0 (.ref it) acc {cenv with scope:=relabel scope X.env}) (RR acc cenv.locals) s₄) E s₃) E s2:=by
 refine j0 ?_;have hD:H2 s2.heap.objs.size=ao:=I2.hok.fresh (bT _);have I3:Inv X pins σ (upd H2 s2.heap.objs.size (.dK [])) {s2 with heap:=s2.heap.push {cls:=.type "dict",dict:=ao,data:=.dict #[]}}:=
  I2.laid (t':=s2.toks) (λb o e=>bR _ e) (bT _) (aiv s2.heap I2.big)
 have hsz:(s2.heap.push {cls:=.type "dict",dict:=ao,data:=.dict #[]}).objs.size=s2.heap.objs.size+1:=tD ..;refine Vx B.cell (by intro y hy;simp at hy) (λh₁ hns₁ hsb₁=>?_) B.kind;have qT:∀b∈fp,b<s2.heap.objs.size:=λb hb=>by
  obtain⟨o,e,_⟩:=TT.obj 0 _ st2 b hb
  exact bN e
 have f3:∀b∈fp,jH X pins (upd H2 s2.heap.objs.size (.dK [])) b:=λb hb=>⟨by rw[dm (dX (qT b hb))];exact(f2 b hb).1,(f2 b hb).2⟩
 have keep:∀b o,(s2.heap.push {cls:=.type "dict",dict:=ao,data:=.dict #[]}).get? b=aj o->h₁.get? b=aj o:=λb o e=>
  hsb₁.extBut b o (dX (bN e)) (bR _ e)
 have xK:∀b∈fp,b<(s2.heap.push {cls:=.type "dict",dict:=ao,data:=.dict #[]}).objs.size:=λb hb=>by have:=qT b hb;rw[hsz];exact vX this
 have I4:=I3.blk (s1:={s2 with heap:=h₁,toks:=s2.toks+([]:List (Str×Value)).length}) B q2 q3 f3 xK hns₁ keep rfl I2.bare;have xM:tn 0 h₁:=TT.keep 0 _ _ st2 λb _ o e=>keep b o (bR _ e)
 obtain⟨i1,i2,i3⟩:=hin ⟨cl,(s2.heap.push {cls:=.type "dict",dict:=ao,data:=.dict #[]}).objs.size,{s2 with heap:=s2.heap.push {cls:=.type "dict",dict:=ao,data:=.dict #[]}},upd H2 s2.heap.objs.size (.dK []),fp⟩
 have loop:jT (model X.prog X.w) X.A (.compLoop (.DictComp kx vx [⟨tg,iter,ifs,0⟩] scope pos) 0 (.ref it) (.ref s2.heap.objs.size) (Qu scope cl (s2.heap.push {cls:=.type "dict",dict:=ao,data:=.dict #[]}).objs.size X.env))
   (RR (.ref s2.heap.objs.size) (s2.heap.push {cls:=.type "dict",dict:=ao,data:=.dict #[]}).objs.size) {s2 with heap:=h₁,toks:=s2.toks+([]:List (Str×Value)).length}:=by
  refine Qv (X:=X.blk (NT++NF) scope cl (s2.heap.push {cls:=.type "dict",dict:=ao,data:=.dict #[]}).objs.size {s2 with heap:=s2.heap.push {cls:=.type "dict",dict:=ao,data:=.dict #[]}} (upd H2 s2.heap.objs.size (.dK [])) fp)
   (T:=T) (fs:=frees js σ) (done:=Q) rfl (agY kx vx tg iter ifs scope pos _ _ _) rfl rfl rfl tk rfl B.nd hc (λx hx=>Vy (B.tg x hx)) i1 (alg hu i2 i3) TT (λb hb=>?_) I4 xM (q _) λH' s' σ' J' qd=>?_
  .exact⟨(f3 b hb).1,dX (xK b hb),λhb2=>by
    rcases bJ.mp (I3.Br b hb2) with z|z
    .exact(f3 b hb).2.1 z
    .exact(f3 b hb).2.2.1 z,.inl hb,λx c e=>(f3 b hb).2.2.2.2.1 x c (q2 x c e),λp hp=>(nomatch(show p∈([]:List (az×Obj)) from hp))⟩
  .obtain⟨m,hn,_⟩:=J'.loc
   exact hR _ H' s' m (I3.Tc f3 J') (I3.vD (bT _) J'.free) hn qd
 exact codeAny_compStart_dict loop (TT.self _ 0 _ _ _ xM loop)
theorem amd(B:nQ X NT NF js scope)(tk:m6 tg NT T)(hc:X.calm=au)(hu:X.A.units+1<gJ)(hi:PI X tg iter wi)
  (hin:∀b,lK (X.bk (NT++NF) scope b) ifs (ts b)/\PE (X.bk (NT++NF) scope b) kx (tk' b)/\PE (X.bk (NT++NF) scope b) vx (tv b))
  (hs:∀x,qZ iter X.env x=pure x:=by intro _;rfl):PE X (.DictComp kx vx [⟨tg,iter,ifs,0⟩] scope pos) (Uy X.K wi T ts tk' tv js):=by
 intro pins s σ H Q I h
 obtain⟨cl,hclos,q2,q3⟩:=Ep (env:=X.env) (scope:=scope) λy hy e=>I.ok.has y.1 (B.free y hy e)
 rw[afz];refine Hq (use:=ao) rfl hs hclos B.kind B.names (bF (hi pins s σ H _ I h) λv s1 h1=>bF h1 λitv s2 aP=>?_)
 obtain⟨it,fp,tn,J,H2,e,I2,TT,st2,f2,q⟩:=aP
 subst e;refine abd (hu:=hu) (Q:=λH'=>Q (.ref s2.heap.objs.size) H') (RR:=λacc C=>Jv (model X.prog X.w) X.A X.xe ao (EP X pins σ Q) acc C) B tk hc (hin:=hin) q2 q3 I2 TT st2 f2 (q _ (I2.hok.fresh (bT _))) λC H' s' m I' fC hn qd=>?_
 refine⟨m,hn,λh' sb=>⟨.ref s2.heap.objs.size,H',?_,rfl,qd⟩⟩
 exact I'.turned (t':=s'.toks) (λb o hb e=>(sb.2 b hb).trans e) fC.1 fC.2.1 fC.2.2.2.1 fC.2.2.2.2.1 fC.2.2.2.2.2
theorem aiA(B:nQ X NT NF js scope)(tk:m6 tg NT T)(hc:X.calm=au)(hu:X.A.units+1<gJ)(hi:PI X tg iter wi)
  (hin:∀b,lK (X.bk (NT++NF) scope b) ifs (ts b)/\PE (X.bk (NT++NF) scope b) kx (tk' b)/\PE (X.bk (NT++NF) scope b) vx (tv b))
  (hsw:wF (.DictComp kx vx [⟨tg,iter,ifs,0⟩] scope pos) (aj (.Name y pos')) spos.line X.env=pure au)
  (hN:X.N.Nodup)(hI:X.N[i]?=aj y)(hy:X.env.scope.names.lookup y=aj .local)
  (hs:∀x,qZ iter X.env x=pure x:=by intro _;rfl):PS X (.Assign [.Name y pos'] (.DictComp kx vx [⟨tg,iter,ifs,0⟩] scope pos) spos) (CK (Uy X.K wi T ts tk' tv js) (yR i)):=by
 intro pins s σ H D I h
 obtain⟨cl,hclos,q2,q3⟩:=Ep (env:=X.env) (scope:=scope) λy hy e=>I.ok.has y.1 (B.free y hy e)
 rw[adX _ _ _ _ hsw];refine aB (tG (aB ?_));show aL _ X.A (do let _ <-NQ (.DictComp kx vx [⟨tg,iter,ifs,0⟩] scope pos) scope X.env _ (newDict) aD (eval iter X.env) (aj (assign (.Name y pos') X.env))) _ _ s;refine aB (oN (Hq (use:=aj (assign (.Name y pos') X.env)) (Q:=λ_ s'=>SP X pins D .next s') rfl hs hclos B.kind B.names
  (bF (hi pins s σ H _ I h) λv s1 h1=>bF h1 λitv s2 ⟨it,fp,tn,J,H2,e,I2,TT,st2,f2,q⟩=>?_)) (λ_ s' hq=>aW (aW hq)) λ_ _ e=>e)
 subst e;refine abd (hu:=hu) (Q:=λH'=>D.nx (σ.set i (aj (.ref s2.heap.objs.size))) H') (RR:=λacc C=>Jv (model X.prog X.w) X.A X.xe (aj (assign (.Name y pos') X.env)) (λ_ s'=>SP X pins D .next s') acc C) B tk hc (hin:=hin) q2 q3 I2 TT st2 f2 (q _ (I2.hok.fresh (bT _))) λC H' s' m I' fC hn qd=>?_
 show aL _ X.A (assign (.Name y pos') X.env (.ref s2.heap.objs.size)) _ _ _;refine Hv (PJ I' hN hI (.inl hy) (v:=.ref s2.heap.objs.size) rfl (λs3 I3 aP=>?_) (.inr hy))
 obtain⟨a,sb,ha⟩:=aP
 have Uw:C≠a:=by
  rcases ha with z|z
  .rw[z];exact fC.2.1
  .exact λw=>fC.2.2.2.2.1 y a z w.symm
 refine⟨m,hn.sameBut sb Uw,λh' sb'=>⟨_,H',?_,qd⟩⟩
 exact I3.turned (t':=s3.toks) (λb o hb e=>(sb'.2 b hb).trans e) fC.1 fC.2.1 fC.2.2.2.1 fC.2.2.2.2.1 fC.2.2.2.2.2
end
section
variable{X:Cx}
theorem ajQ{K:aJ}{t:Value}{c d:Value}{p q:Bool}(e1:zZ K t c=aj p)(e2:zZ K t d=aj q):Nq K t [c,d]=aj (p||q):=by
 unfold Nq;rw[e1];cases p with
 |true=>rfl
 |false=>
  unfold Nq;rw[e2];cases q with
  |true=>rfl
  |false=>rfl
end
structure Fy(K:aJ)(T:gR)(J:It)(n:Nat)(vs:Nat->List V)(G:Hp->Prop):Prop where
 go:∀i H,i<n->G H->J.go i H
 xG:∀i H x H',i<n->G H->J.xG i H x H'->bD H H'/\xJ K T x H' (vs i)
 stop:∀H,G H->J.stop n H
section
variable{K:aJ}{T:gR}{J:It}{n:Nat}{vs:Nat->List V}{G:Hp->Prop}{ts:TT}{te:TE}{fs:St}{H1:Hp}{D:az}{done:Hp->Prop}
end
theorem Inv.JQ{X:Cx}{pins:List (az×Obj)}{σ:St}{H H':Hp}{s:aG}{h':bh}{t':Nat}{ch:List az}(I:Inv X pins σ H s)(k:∀b o,b∉ch->s.heap.get? b=aj o->h'.get? b=aj o)(hf:∀b∈ch,jH X pins H b)
  (hs:bD H H')(hfr:∀b o,s.heap.get? b=aj o->H b=ao->H' b=ao)(hn:∀b u,H' b=aj u->H b=aj u\/fH X.prog X.w H' h' b u):Inv X pins σ H' {s with heap:=h',toks:=t'}:=by
 have GR:∀b u,H b=aj u->b∉ch:=λb u e z=>by rw[(hf b z).1] at e;cases e
 refine I.step (g':=s.gens) (d':=s.drawn) (ch:=ch) (λb hb=>⟨(hf b hb).2.2.2.1,(hf b hb).2.1,(hf b hb).2.2.2.2.1,(hf b hb).2.2.2.2.2⟩) (λb o _ _ hc e _=>k b o hc e) (λb o _ _ hc e _=>⟨o.slots,k b o hc e⟩) (λb o _ e n=>hfr b o e n)
  (λb o hc e=>⟨o,k b o hc e⟩) (λ_ _ e=>hs _ _ e) (λ_ _ _ e=>hs _ _ e) (λb ps e=>⟨#[],by rw[hs _ _ e];simp⟩) (λm hm=>?_) (λb u e=>?_) I.bare
 .obtain⟨o,es,ep,ho,r⟩:=hm
  exact⟨o,es,ep,k _ o (λz=>(hf _ z).2.1 rfl) ho,r⟩
 .rcases hn b u e with z|z
  .refine(I.hok b u z).stay (λc v hc q=>k c v ?_ q) (λ_ q=>hs _ _ q) λ_ _ q=>hs _ _ q
   rcases hc with y|y
   .rw[y];exact GR b u z
   .exact GR c _ y
  .exact z
def Uz(K:aJ)(a b:az):It:=⟨λi H=>∃xs ys,bK K H a xs/\bK K H b ys/\i<min xs.length ys.length,
 λi H v H'=>∃p x y,H p=ao/\v=.ref p/\H'=upd H p (.tup [x,y])/\∀xs ys,bK K H a xs->bK K H b ys->xs[i]?=aj x/\ys[i]?=aj y,
 λi H=>∃xs ys,bK K H a xs/\bK K H b ys/\i=min xs.length ys.length⟩
theorem aiB{P:bB}{w:bA}{K:aJ}{es:List Expr}{k:Nat}{ps:Pos}{a b z TI TO i1 i2:az}(D:Qw z TI TO i1 i2 a b):
  Turn P w K (.Tuple es k ps) (Uz K a b) [z,TI,TO,i1,i2] z (λi h=>qH h z TI TO .none/\mR h TI (.ref i1) (.ref i2)/\(∃c d,mR h TO c d)/\h.IsListIter i1 a i/\h.IsListIter i2 b i) where
 mem:=by simp
 obj:=λi h st c hc=>by
  obtain⟨h1,h2,⟨_,_,h3⟩,⟨o4,e4,_,d4⟩,⟨o5,e5,_,d5⟩⟩:=st
  simp only[bJ,iZ,or_false] at hc;rcases hc with rfl|rfl|rfl|rfl|rfl
  .exact⟨_,h1,λv q=>by cases q⟩
  .exact⟨_,h2,λv q=>by cases q⟩
  .exact⟨_,h3,λv q=>by cases q⟩
  .exact⟨_,e4,λv q=>by rw[d4] at q;cases q⟩
  .exact⟨_,e5,λv q=>by rw[d5] at q;cases q⟩
 keep:=λi h h' st kk=>by
  obtain⟨h1,h2,⟨c,d,h3⟩,h4,h5⟩:=st
  exact⟨kk z (by simp) _ h1,kk TI (by simp) _ h2,⟨c,d,kk TO (by simp) _ h3⟩,h4.at λo e=>kk i1 (by simp) o e,h5.at λo e=>kk i2 (by simp) o e⟩
 item:=by
  intro X hP hw hK hc i pins s σ H E I hf st hg;subst hP hw hK
  obtain⟨xs,ys,ha,hb,hi⟩:=hg
  obtain⟨its,r1,p1,_⟩:=I.list ha
  obtain⟨its2,r2,p2,_⟩:=I.list hb
  have l1:=r1.length;have l2:=r2.length;have W:=agy (prog:=X.prog) (w:=X.w) (A:=X.A) (I.ok.hd hc) z TI TO i1 i2 a b D its.toArray its2.toArray
  obtain⟨s1,s2,s3,s4,s5⟩:=st
  refine W.item i s _ E (by simp;lia) ⟨s1,s2,s3,s4,s5,p1.isList,p2.isList⟩ λT vals h' tk hv hT ht hm kk=>?_
  obtain⟨x,y,hx,hy,rfl⟩:=hv
  refine⟨_,rfl,W.go es k ps i T _ _ E hm λh2 st2 oW=>?_⟩
  have gx:xs[i]?=aj (xs.getD i .non):=by
   have:i<xs.length:=by lia
   simp[nF,this]
  have gy:ys[i]?=aj (ys.getD i .non):=by
   have:i<ys.length:=by lia
   simp[nF,this]
  obtain⟨u1,hu1,q1⟩:=r1.get gx
  obtain⟨u2,hu2,q2⟩:=r2.get gy
  have ex:u1=x:=by
   have:its[i]?=aj x:=by simpa using hx
   rw[hu1] at this;exact jb this
  have ey:u2=y:=by
   have:its2[i]?=aj y:=by simpa using hy
   rw[hu2] at this;exact jb this
  subst ex ey;have wf:∀c,c∈[z,TO,i1,i2]->jH X pins H c:=λc hc=>hf c (by simp at hc⊢;rcases hc with rfl|rfl|rfl|rfl<;>simp)
  have G5:H T=ao:=I.hok.fresh hT;have nT:T∉[z,TO,i1,i2]:=W.apart i T _ hm;have kT:h2.get? T=h'.get? T:=by
   obtain⟨o,e,_⟩:=id ht
   rw[oW T o nT e];exact e.symm
  obtain⟨oT,eT,cT,nT',dT⟩:=id ht
  refine⟨.ref T,upd H T (.tup [xs.getD i .non,ys.getD i .non]),I.JQ (λc o hc e=>oW c o hc (kk c o hc e)) wf (bD.upd G5) (λc o e n=>?_) (λc u e=>?_),rfl,⟨T,_,_,G5,rfl,rfl,λxs' ys' h1 h2=>?_⟩,?_,λc hc=>?_⟩
  .rw[dm]
   .exact n
   .intro z;subst z;exact absurd (bN e) (Er.mpr hT)
  .by_cases G6:c=T
   .subst G6;rw[f9] at e;cases e;refine .inr ⟨by show 2<=bU;decide,[u1,u2],.cons q1 (.cons q2 .nil),oT,kT.trans eT,cT,nT',by simpa using dT⟩
   .rw[dm G6] at e;exact .inl e
  .rw[I.Qt h1 ha,I.Qt h2 hb]
   exact⟨gx,gy⟩
  .exact⟨st2.1,st2.2.1,st2.2.2.1,st2.2.2.2.1,st2.2.2.2.2.1⟩
  .rw[dm]
   .exact(hf c hc).1
   .intro z;subst z
    obtain⟨o,e,_⟩:∃o,s.heap.get? c=aj o/\True:=by
     simp only[bJ,iZ,or_false] at hc
     obtain⟨c1,d1,s3⟩:=s3
     obtain⟨o4,e4,_⟩:=s4
     obtain⟨o5,e5,_⟩:=s5
     rcases hc with rfl|rfl|rfl|rfl|rfl
     .exact⟨_,s1,trivial⟩
     .exact⟨_,s2,trivial⟩
     .exact⟨_,s3,trivial⟩
     .exact⟨_,e4,trivial⟩
     .exact⟨_,e5,trivial⟩
    exact absurd (bN e) (Er.mpr hT)
 done:=by
  intro X hP hw hK hc i pins s σ H E I hf st hg;subst hP hw hK
  obtain⟨xs,ys,ha,hb,hi⟩:=hg
  obtain⟨its,r1,p1,_⟩:=I.list ha
  obtain⟨its2,r2,p2,_⟩:=I.list hb
  have l1:=r1.length;have l2:=r2.length;have W:=agy (prog:=X.prog) (w:=X.w) (A:=X.A) (I.ok.hd hc) z TI TO i1 i2 a b D its.toArray its2.toArray
  obtain⟨s1,s2,s3,s4,s5⟩:=st
  have e:i=min its.toArray.size its2.toArray.size:=by simp;lia
  subst e;refine W.done s _ E ⟨s1,s2,s3,s4,s5,p1.isList,p2.isList⟩ λh' tk kk=>⟨rfl,?_⟩
  have wf:∀c,c∈[z,TO,i1,i2]->jH X pins H c:=λc hc=>hf c (by simp at hc⊢;rcases hc with rfl|rfl|rfl|rfl<;>simp)
  exact I.JQ kk wf (bD.refl H) (λ_ _ _ n=>n) λ_ _ e=>.inl e
 self:=λ_ _ _ _ _ st h=>MJ st.1 h
def ani(K:aJ)(t:TA):TI:=λσ H R=>t σ H λvs H1=>∃a b xs ys,vs=[.ref a,.ref b]/\bK K H1 a xs/\bK K H1 b ys/\R (Uz K a b) H1
theorem alh{X:Cx}{es:List Expr}{k:Nat}{ps:Pos}{x y:Expr}{t:TA}{p pos:Pos}(hg:Gl X "zip")(hm:X.mg "zip"=ao)(ha:PA X [x,y] t)(hs:bG [x,y] X.env=[(aD,eval x X.env),(aD,eval y X.env)]:=by rfl)(hs2:bG [y] X.env=[(aD,eval y X.env)]:=by rfl):
  PI X (.Tuple es k ps) (.Call (.Name "zip" p) [x,y] [] pos) (ani X.K t):=by
 intro pins s σ H R I h;refine Call_ (wR I hg hm adY (LQ (bF (ha pos pins s σ H _ I h) λus s1 aP=>?_) (by rw[hs,hs2]) (by rw[hs2];rfl)))
 obtain⟨vs,H1,I1,r1,q1⟩:=aP
 obtain⟨a,b,xs,ys,e,h1,h2,q⟩:=q1
 subst e;cases r1 with
 |cons r rr=>
  cases rr with
  |cons r' rr=>
   cases rr;cases r;cases r'
   obtain⟨its,v1,p1,_⟩:=I1.list h1
   obtain⟨its2,v2,p2,_⟩:=I1.list h2
   have UG:a<s1.heap.objs.size:=by obtain⟨_,e,_⟩:=p1.isList;exact bN e
   have qT:b<s1.heap.objs.size:=by obtain⟨_,e,_⟩:=p2.isList;exact bN e
   refine call_zip_2 p1.isList p2.isList λh' g1 g2 g3 g4 g5 hsz kk=>?_
   refine MJ g1 ?_;have I2:Inv X pins σ H1 {s1 with heap:=h'}:=I1.kept (t':=s1.toks) kk
   refine⟨s1.heap.objs.size+4,[s1.heap.objs.size+4,s1.heap.objs.size+2,s1.heap.objs.size+3,s1.heap.objs.size,s1.heap.objs.size+1],_,_,H1,rfl,I2,aiB (zipApart_new UG qT),⟨g1,g2,⟨_,_,g3⟩,g4,g5⟩,λc hc=>?_,q⟩
   refine I1.vD ?_ (I1.hok.fresh ?_)
   all_goals
    simp only[bJ,iZ,or_false] at hc;rcases hc with rfl|rfl|rfl|rfl|rfl<;>lia
theorem agZ(I:Inv X pins σ H s)(rx:RelV x u)(ty:mD X.K H x t)(e:Nq X.K t its=aj b)
  (hc:s.heap.IsTuple c its.toArray)(h:∀tk,Q (.bool b) {s with toks:=tk}):aL (model X.prog X.w) A (call (.builtin "isinstance") [u,.ref c]) Q E s:=by
 obtain⟨⟨oc,od,oda,osl⟩,g1,g2,g3,g4⟩:=hc
 simp only at g2 g4;subst g2 g4;cases ty with
 |non=>cases(show u=jw from rx);exact tB aeu I.jg nC g1 e (λz=>nomatch z) h
 |bl y=>cases(show u=rm y from rx);exact tB aev I.jg nC g1 e (λz=>nomatch z) h
 |int i=>obtain⟨t,q⟩:=(show ∃t,u=wD i t from rx);cases q;exact tB aeO I.jg nC g1 e (λz=>nomatch z) h
 |str y=>obtain⟨t,q⟩:=(show ∃t,u=Jf y t from rx);cases q;exact tB aeP I.jg nC g1 e (λz=>nomatch z) h
 |flt y=>obtain⟨t,q⟩:=(show ∃t,u=Xq y t from rx);cases q;exact tB aei I.jg nC g1 e (λz=>nomatch z) h
 |@lst a xs ea=>
  cases(show u=cY a from rx)
  obtain⟨_,_,n,_,h1⟩:=(show fH X.prog X.w H s.heap a (.lst xs) from I.hok a _ ea)
  exact tB Ms I.jg ⟨_,h1,rfl⟩ g1 e (λz=>nomatch z) h
 |@lJ a ob xs ea=>
  cases(show u=cY a from rx)
  obtain⟨_,_,_,n,_,h1⟩:=(show fH X.prog X.w H s.heap a (.lJ ob (.lst xs)) from I.hok a _ ea)
  exact tB Ms I.jg ⟨_,h1,rfl⟩ g1 e (λz=>nomatch z) h
 |@tup a xs ea=>
  cases(show u=cY a from rx)
  obtain⟨_,_,_,p⟩:=(show fH X.prog X.w H s.heap a (.tup xs) from I.hok a _ ea)
  obtain⟨o,h1,h2,_⟩:=p
  exact tB aej I.jg ⟨o,h1,h2⟩ g1 e (λz=>nomatch z) h
 |@dK a kvs ea=>
  cases(show u=cY a from rx)
  obtain⟨_,_,vs,_,p⟩:=(show fH X.prog X.w H s.heap a (.dK kvs) from I.hok a _ ea)
  obtain⟨o,es,ep,h1,h2,_⟩:=p
  exact tB Mt I.jg ⟨o,h1,h2.1⟩ g1 e (λz=>nomatch z) h
 |@dT a kvs ea=>
  cases(show u=cY a from rx)
  obtain⟨_,_,xs,_,o,es,ep,h1,h2,_⟩:=(show fH X.prog X.w H s.heap a (.dT kvs) from I.hok a _ ea)
  exact tB Mt I.jg ⟨o,h1,h2.1⟩ g1 e (λz=>nomatch z) h
 |@ins a C dx fs ea cl ha hn htk hm=>
  cases(show u=cY a from rx)
  obtain⟨mA,O,_⟩:=aag I.hok ea
  obtain⟨od,J,_⟩:=O.look
  exact tB (aeQ (cl.get _) cl.hd ha hn htk hm) I.jg J g1 e (λz=>nomatch z) h
theorem afY:je X (.builtin "isinstance") (λxs H Q=>∃x c m n t p q,xs=[x,.ref c]/\H c=aj (.tup [.ty m,.ty n])/\mD X.K H x t/\zZ X.K t (.type m)=aj p/\zZ X.K t (.type n)=aj q/\Q (.bl (p||q)) H):=by
 intro pins s σ H xs us Q I r h
 obtain⟨x,c,m,n,t,p,q,rfl,hc,ty,e1,e2,k⟩:=h
 obtain⟨u,u2,rfl,r1,r2⟩:=vals2 r
 cases r2
 obtain⟨_,its,rv,ob,g1,g2,g3⟩:=(show fH X.prog X.w H s.heap c (.tup [.ty m,.ty n]) from I.hok c _ hc)
 cases rv with
 |cons a1 rv=>
  cases rv with
  |cons a2 rv=>
   cases rv;cases a1;cases a2;exact agZ I r1 ty (ajQ e1 e2) ⟨ob,g1,g2,g3⟩ λtk=>⟨.bl (p||q),H,I.tok tk,rfl,k⟩
end L2
namespace L2
open PySem PySem.Spec PyProof.Rows PySem.W
section
variable{N:Nat}{lt:Nat->Nat->Bool}{α β:Type}
def cZ(N:Nat)(lt:Nat->Nat->Bool):KasT α->(α->Prop)->Prop
 |.ret a,R=>R a
 |.ask i j k,R=>i<N/\j<N/\cZ N lt (k (lt i j)) R
theorem cZ.mono:∀{t:KasT α},cZ N lt t R->(∀a,R a->S a)->cZ N lt t S
 |.ret a,h,f=>f a h
 |.ask i j k,h,f=>⟨h.1,h.2.1,cZ.mono h.2.2 f⟩
theorem cZ.bind:∀{t:KasT α},cZ N lt t (λa=>cZ N lt (f a) R)->cZ N lt (t.bind f) R
 |.ret a,h=>h
 |.ask i j k,h=>⟨h.1,h.2.1,cZ.bind h.2.2⟩
theorem cZ.wp(ask:∀i j,i<N->j<N->∀C:Bool->aG->Prop,C (lt i j) s->cmp i j C s)(q:∀a,R a->Q a s):∀{t:KasT α},cZ N lt t R->t.kasWp cmp Q s
 |.ret a,h=>q a h
 |.ask i j k,h=>ask i j h.1 h.2.1 _ (cZ.wp ask q h.2.2)
def KP(N:Nat)(p:Array Nat):Prop:=p.toList.Perm (gC N)
theorem KP.ix(h:KP N p)(h0:0<N)(i:Nat):p.getD i 0<N:=by
 by_cases hi:i<p.size
 .have:p.getD i 0∈p.toList:=by simp[ag0,hi]
  exact ql.mp (h.mem_iff.mp this)
 .simpa[ag0,hi] using h0
theorem KP.rev(h:KP N p)(i j:Nat):KP N (kas_rev p i j):=((mirror_perm p i j _).toList).trans h
theorem KP.bub(h:KP N p)(i j:Nat):KP N (bubble p i j):=((bubble_perm p i j).toList).trans h
theorem R7(h:KP N p)(h0:0<N):∀f n,cZ N lt (kas_asc p f n) λ_=>True
 |0,n=>trivial
 |f+1,n=>by
  refine⟨h.ix h0 _,h.ix h0 _,?_⟩
  dsimp only;split
  .exact trivial
  .exact R7 h h0 f (n+1)
theorem JR(h0:0<N):∀f (p:Array Nat) n q,KP N p->cZ N lt (kas_desc f p n q) λr=>KP N r.1
 |0,p,n,q,h=>h
 |f+1,p,n,q,h=>by
  refine⟨h.ix h0 _,h.ix h0 _,?_⟩
  dsimp only;split
  .split
   .exact JR h0 f _ _ _ (h.rev _ _)
   .exact JR h0 f _ _ _ h
  .refine⟨h.ix h0 _,h.ix h0 _,?_⟩
   dsimp only;split
   .exact h
   .exact JR h0 f _ _ _ h
theorem Zf(h0:0<N)(h:KP N p)(n nrem:Nat):cZ N lt (kas_tail3 n nrem p) λr=>KP N r.2:=
 cZ.bind (cZ.mono (R7 (h.rev 0 n) h0 _ _) λ_ _=>h.rev 0 n)
theorem Xx(h0:0<N)(h:KP N p)(n nrem:Nat):cZ N lt (kas_descPart n nrem p) λr=>KP N r.2:=by
 refine cZ.bind (cZ.mono (JR h0 _ p _ _ h) λr hr=>?_);split
 .exact Zf h0 (KP.rev hr _ _) _ _
 .exact Zf h0 hr _ _
theorem aiC(h0:0<N)(h:KP N p)(nrem:Nat):cZ N lt (kas_count nrem p) λr=>KP N r.2:=by
 refine cZ.bind (cZ.mono (R7 h h0 _ _) λn _=>?_);split
 .exact h
 .split
  .refine⟨h.ix h0 _,h.ix h0 _,?_⟩
   dsimp only;split
   .exact h
   .exact Xx h0 (h.rev _ _) _ _
  .exact Xx h0 h _ _
theorem Qx(h0:0<N)(h:KP N p)(k:Nat):∀f l r,cZ N lt (kas_place p k f l r) λ_=>True
 |0,l,r=>trivial
 |f+1,l,r=>by
  unfold kas_place;split
  .exact trivial
  .refine⟨h.ix h0 _,h.ix h0 _,?_⟩
   dsimp only;split
   .exact Qx h0 h k f _ _
   .exact Qx h0 h k f _ _
theorem abe(h0:0<N):∀f (p:Array Nat) k,KP N p->cZ N lt (kas_bin f p k) (KP N)
 |0,p,k,h=>h
 |f+1,p,k,h=>cZ.bind (cZ.mono (Qx h0 h k _ _ _) λl _=>abe h0 f _ _ (h.bub _ _))
theorem aal(h0:0<N):cZ N lt (kas_sort N) (KP N):=by
 refine cZ.bind (cZ.mono (aiC h0 (p:=afZ (gC N)) (uM _) N) λr hr=>?_);split
 .exact abe h0 _ _ _ hr
 .exact hr
end
def kLt:Key->Key->Bool
 |.inl i,.inl j=>decide (i<j)
 |.inr x,.inr y=>decide (x.cps.toList<y.cps.toList)
 |_,_=>aD
def dg:List Key->List Key->Bool
 |a::r,b::t=>if a=b then dg r t else kLt a b
 |_,_=>aD
def bH:Key->Bool
 |.inl _=>au
 |.inr _=>aD
section
variable{prog:bB}{w:bA}{A:bV}{E:Value->aG->Prop}{s:aG}{Q:Bool->aG->Prop}
theorem Zg(ra:RelV (kV a) u)(rb:RelV (kV b) v)(ht:bH a=bH b)(h:Q (kLt a b) s):aL (model prog w) A (oneLt' f u v) Q E s:=by
 cases a with
 |inl i=>
  cases b with
  |inr y=>cases ht
  |inl j=>
   obtain⟨t,rfl⟩:=ra
   obtain⟨t',rfl⟩:=rb
   cases f with
   |true=>exact oneLt_int h
   |false=>exact kat_one _ _ (lt_int h)
 |inr x=>
  cases b with
  |inl y=>cases ht
  |inr y=>
   obtain⟨t,rfl⟩:=ra
   obtain⟨t',rfl⟩:=rb
   cases f with
   |true=>exact oneLt_str h
   |false=>exact kat_one _ _ (lt_str h)
theorem Rm(ht:bH a=bH b):sE (kV a) (kV b)=decide (a=b):=by
 cases a with
 |inl i=>
  cases b with
  |inr y=>cases ht
  |inl j=>show(i==j)=_;rw[pF];simp
 |inr x=>
  cases b with
  |inl y=>cases ht
  |inr y=>show(x==y)=_;rw[pF];simp
theorem Ax(a:Key):pO (kV a)=au:=by cases a<;>rfl
theorem Zh:∀{ks js:List Key}{us vs:List Value}{i:Nat},Vals (ks.map kV) us->Vals (js.map kV) vs->ks.map bH=js.map bH->Q (dg ks js) s->KatLex prog w A au aD Q (us.zip vs) i s
 |[],[],_,_,_,ra,rb,_,h=>by
  cases ra;cases rb;exact kat_nil h
 |[],_::_,_,_,_,_,_,e,_=>by cases e
 |_::_,[],_,_,_,_,_,e,_=>by cases e
 |a::ks,b::js,us,vs,i,ra,rb,e,h=>by
  cases ra with
  |cons r1 ra=>
   cases rb with
   |cons r2 rb=>
    have e1:bH a=bH b:=(pH e).1;have e2:=(pH e).2;refine kat_cons (J7 r1 r2 (Ax a) (Ax b) prog w _ _ ?_);rw[Rm e1];unfold dg at h;by_cases hab:a=b
    .rw[aZ hab] at h;rw[dZ hab];exact kat_yes (Zh ra rb e2 h)
    .rw[aY hab] at h;rw[iU hab];exact kat_no (Zg r1 r2 e1 h)
end
section
variable{prog:bB}{w:bA}{A:bV}{E:Value->aG->Prop}{s:aG}{vs:List Value}{κ:SortKind}{lt:Nat->Nat->Bool}{Rl:List Nat->Prop}
def Kp(a:az)(h h':bh):Prop:=∀b o,b≠a->h.get? b=aj o->h'.get? b=aj o
theorem ag1(ho:s.heap.get? a=aj (seqObj "list" vs.toArray n))(h64:vs.length<64)(hg:2<=vs.length->cZ vs.length lt (kas_sort vs.length) λp=>KP vs.length p/\Rl p.toList)(hsm:vs.length<2->Rl (gC vs.length))
  (hk:2<=vs.length->∀s':aG,Kp a s.heap s'.heap->∀Q:SortKind->aG->Prop,Q κ s'->aL (model prog w) A (keyKind' vs.toArray) Q (λ_ _=>False) s')
  (hl:2<=vs.length->∀s':aG,Kp a s.heap s'.heap->∀i j,i<vs.length->j<vs.length->∀C:Bool->aG->Prop,C (lt i j) s'->kas_ask prog w A κ vs i j C s')
  (h:∀(p:List Nat)(h':bh)(c:Nat),p.Perm (gC vs.length)->Rl p->Kp a s.heap h'->h'.get? a=aj (seqObj "list" (p.map λi=>vs.getD i jw).toArray c)->P (.done (.ret .none)) {s with heap:=h'}):
  aL (model prog w) A (lW.«list.sort» ⟨[.ref a],[]⟩) P E s:=by
 have lta:a<s.heap.objs.size:=bN ho
 obtain⟨e1,ho1⟩:∃e1,(s.heap.update a (lU λ_=>(#[]:Array Value))).get? a=aj (seqObj "list" #[] e1):=⟨_,get?_update_seq ho λ_=>#[]⟩
 have sz:vs.length<=bU:=by rw[jR];lia
 have kp:Kp a s.heap (((s.heap.update a (lU λ_=>(#[]:Array Value))).push (seqObj "tuple" vs.toArray 0)).push (seqObj "list" #[] 0)):=λb o hb e=>
  bR _ (bR _ (((pB s.heap a _).2 b hb).trans e))
 have G7:(((s.heap.update a (lU λ_=>(#[]:Array Value))).push (seqObj "tuple" vs.toArray 0)).push (seqObj "list" #[] 0)).get? a=aj (seqObj "list" #[] e1):=bR _ (bR _ ho1);rw[list_sort_plain];refine aB (listItems_at ho rfl (aB (listUpdate_at ho rfl (aB (seqEpoch_at ho1 rfl (aB (wpAny_newTuple (aB (W6 (jL ?_) (lz _))) (by show vs.length<=_;exact sz))))) (by rw[gB];exact sz) (lz _))));show aL (model prog w) A _ P E {s with heap:=((s.heap.update a (lU λ_=>(#[]:Array Value))).push (seqObj "tuple" vs.toArray 0)).push (seqObj "list" #[] 0)};dsimp only;have fin:∀(p:List Nat),p.Perm (gC vs.length)->Rl p->∀out:Array Value,out=(p.map λi=>vs.getD i jw).toArray->
   P (.done (.ret .none)) {s with heap:=(((s.heap.update a (lU λ_=>(#[]:Array Value))).push (seqObj "tuple" vs.toArray 0)).push (seqObj "list" #[] 0)).update a (lU λ_=>out)}:=λp hp hrl out eo=>by
  subst eo;refine h p _ _ hp hrl (λb o hb e=>((pB _ a _).2 b hb).trans (kp b o hb e)) (get?_update_seq G7 _)
 by_cases h2:vs.toArray.size<2
 .rw[aZ h2,aZ h2];refine aB (aW ?_);rw[StateT.run_pure];refine aB (aW ?_);dsimp only;have hz:(pairsOf vs).size<=bU:=by rw[pairsOf_size];exact sz
  refine aB (seqEpoch_at G7 rfl (aB (listUpdate_at G7 rfl ?_ (hsz2:=by rw[Array.size_map];show(pairsOf vs).size<=_;lia))));simp only[bne_self_eq_false,kE,if_false];refine aW (fin (gC vs.length) (uM _) (hsm (by simpa using h2)) _ ?_);apply Array.toList_inj.mp
  show((vs.toArray.zip vs.toArray).map (·.2)).toList=_
  rw[Array.toList_map,Array.toList_zip,List.map_snd_zip (bT _)];show vs=_;refine DP (by simp) λi h1 h3=>?_
  simp[nF,h1]
 .have h2':2<=vs.length:=by simpa using h2
  rw[aY h2,aY h2];refine aB (oN (hk h2' _ kp (λk s'=>k=κ/\s'={s with heap:=((s.heap.update a (lU λ_=>(#[]:Array Value))).push (seqObj "tuple" vs.toArray 0)).push (seqObj "list" #[] 0)}) ⟨rfl,rfl⟩) (λk s0 hk0=>?_) λ_ _ x=>x.elim)
  obtain⟨rfl,rfl⟩:=hk0
  refine aB (oN (kat_run (ks:=vs) (vs:=vs) (Q:=λst' s'=>∃p:Array Nat,(KP vs.length p/\Rl p.toList)/\arrOf st'=p.map (kas_item (vs.toArray.zip vs.toArray))/\failedOf st'=ao/\s'={s with heap:=((s.heap.update a (lU λ_=>(#[]:Array Value))).push (seqObj "tuple" vs.toArray 0)).push (seqObj "list" #[] 0)})
   rfl h2' h64 (G:=λp s'=>(KP vs.length p/\Rl p.toList)/\s'={s with heap:=((s.heap.update a (lU λ_=>(#[]:Array Value))).push (seqObj "tuple" vs.toArray 0)).push (seqObj "list" #[] 0)}) (λp st' s' a1 a2 a3 a4=>⟨p,a4.1,a2,a3,a4.2⟩) (cZ.wp (lt:=lt) (hl h2' _ kp) (λp hp=>⟨hp,rfl⟩) (hg h2'))) ?_ λ_ _ e=>e)
  rintro⟨⟨⟩,st'⟩ s' ⟨p,⟨hp,hrl⟩,har,hf,rfl⟩
  dsimp only;have hout:=kat_snds (ks:=vs) (vs:=vs) rfl har;have hps:p.toList.length=vs.length:=by rw[hp.length_eq,pD]
  rw[hout];refine aB (seqEpoch_at G7 rfl (aB (listUpdate_at G7 rfl ?_ (lz _) (by rw[gB,bC,hps];lia))));rw[hf];simp only[bne_self_eq_false,kE,if_false];exact aW (fin p.toList hp hrl _ rfl)
theorem OD(h64:vs.length<64)(hg:2<=vs.length->cZ vs.length lt (kas_sort vs.length) λp=>KP vs.length p/\Rl p.toList)(hsm:vs.length<2->Rl (gC vs.length))
  (hc:∀R:List Value->aG->Prop,(∀us h1 tk,s.heap.objs.size<=h1.objs.size->(∀b o,s.heap.get? b=aj o->h1.get? b=aj o)->us=vs->R us {s with heap:=h1,toks:=tk})->aL (model prog w) A.in1 (collect (.ref r)) R E s)
  (hk:2<=vs.length->∀s':aG,(∀b o,s.heap.get? b=aj o->s'.heap.get? b=aj o)->∀Q:SortKind->aG->Prop,Q κ s'->aL (model prog w) A.in1.in1 (keyKind' vs.toArray) Q (λ_ _=>False) s')
  (hl:2<=vs.length->∀s':aG,(∀b o,s.heap.get? b=aj o->s'.heap.get? b=aj o)->∀i j,i<vs.length->j<vs.length->∀C:Bool->aG->Prop,C (lt i j) s'->kas_ask prog w A.in1.in1 κ vs i j C s')
  (h:∀(p:List Nat)(D:az)(h':bh)(c tk:Nat),p.Perm (gC vs.length)->Rl p->s.heap.objs.size<=D->(∀b o,s.heap.get? b=aj o->h'.get? b=aj o)->h'.get? D=aj (seqObj "list" (p.map λi=>vs.getD i jw).toArray c)->Q (.ref D) {s with heap:=h',toks:=tk}):
  aL (model prog w) A (call (.builtin "sorted") [.ref r]) Q E s:=by
 refine adK kind_sorted plain_sorted entry_sorted (args_sorted1 _) ?_;unfold lW.«sorted»;refine aB (m:=checkCount "sorted" 1 1 _) (aW (aB (hc _ λus h1 tk hsz kk eu=>?_)));subst eu;refine aB (W6 ?_ (by rw[jR];lia));have hoL:(h1.push (seqObj "list" us.toArray 0)).get? h1.objs.size=aj (seqObj "list" us.toArray 0):=fV _ rfl;have ltD:∀b o,s.heap.get? b=aj o->b≠h1.objs.size:=λb o e=>dX (bN (kk b o e))
 have up:∀s':aG,Kp h1.objs.size (h1.push (seqObj "list" us.toArray 0)) s'.heap->∀b o,s.heap.get? b=aj o->s'.heap.get? b=aj o:=λs' k b o e=>k b o (ltD b o e) (bR _ (kk b o e))
 refine aB (jL (lQ slot_list_sort ⟨_,hoL,rfl⟩ entry_list_sort (ag1 (κ:=κ) (lt:=lt) (s:={s with heap:=h1.push (seqObj "list" us.toArray 0),toks:=tk}) hoL h64 hg hsm (λh2 s' k=>hk h2 s' (up s' k)) (λh2 s' k=>hl h2 s' (up s' k)) λp h' c hp hrl k e=>⟨_,rfl,?_⟩) (args_list_sort _)));exact aW ⟨_,rfl,h p h1.objs.size h' c tk hp hrl hsz (up {s with heap:=h'} k) e⟩
end
def xr(h:bh)(d:az)(es:Array DictEntry)(ep:Nat):Prop:=∃o,h.get? d=aj o/\o.ExactDict/\o.data=.dict es ep
section
variable{prog:bB}{w:bA}{A:bV}{E:Value->aG->Prop}{s:aG}{d it:az}{es:Array DictEntry}{ep i:Nat}
theorem xr.ty(h:xr s.heap d es ep):s.TypeIs (.ref d) "dict":=let ⟨o,ho,hc,_⟩:=h;⟨o,ho,hc.1⟩
theorem aiD(hd:(d==rB)=aD)(hm:xr s.heap d es ep)
  (hQ:Q (.ref s.heap.objs.size) {s with heap:=s.heap.push {cls:=.type "dict_keyiterator",data:=.fields #[.ref d,.int 0 0,.int es.size 0,.int ep 0]}}):aL (model prog w) A (Bt (.ref d)) Q E s:=by
 obtain⟨o,ho,hc,hdat⟩:=id hm
 have hT:=hm.ty;refine VR hT aeT (lQ aeT hT F.entry_dict_iter ?_ (F.args_dict_iter_1 _));unfold lW.«dict.__iter__»;refine aB ?_;unfold ao8;refine aB (wpAny_notOrdered_dict hT ?_);show aL _ _ (pure (cY d)) _ _ s
 refine aW ?_;show aL _ _ (adZ d >>= _) _ _ s
 unfold adZ;rw[aY (by rw[hd];exact iw)];refine aB (aW (aB (VV ho hdat (aB (Wi ho hdat ?_)))));refine aB (j0 (aW ⟨_,rfl,"dict_keyiterator",_,⟨_,fV _ rfl,rfl⟩,F.slot_dict_keyiterator_next.lookup,?_⟩));simpa[iC] using hQ
theorem aiE(hit:s.heap.IsKeyIter it d i es.size ep)(hm:xr s.heap d es ep)(hlt:i<es.size)
  (hQ:∀h',h'.IsKeyIter it d (i+1) es.size ep->uO it s.heap h'->Q (aj es[i].key) {s with heap:=h'}):aL (model prog w) A (jn (.ref it)) Q E s:=by
 obtain⟨o,ho,hc,hd⟩:=id hit;obtain⟨od,hod,hcd,hdd⟩:=id hm
 unfold jn;refine aB (yj (qW (name:=bZ "__next__") hit.typeIs LK (lQ LK hit.typeIs adB ?_ (adA _))));refine aB (aW ?_);refine aB ?_;refine aB ?_
 first|refine aB (LC hit.typeIs (aW (aB (ye ho hd ?_))))|refine aB (Mi hit.typeIs (aW (aB (ye ho hd ?_))))
 have own:adC "dict_keyiterator"=aD:=by decide
 simp only[own,kE,if_false];show aL _ _ (if(cY d==jw)=au then _ else _) _ _ s
 rw[aY (show ¬((cY d==jw)=au) from iw)];refine aB (aW (aB (VV hod hdd ?_)));rw[aY (by simp)];refine aB (aW (aB (Wi hod hdd ?_)));rw[aY (by simp)];refine aW ?_;simp only[show ¬((i:Int)<0) from by lia,if_false,zR,kY hlt];refine aB ?_
 first|refine aB (LC hit.typeIs (aW (aB (Vu hit.typeIs ?_))))|refine aB (Mi hit.typeIs (aW (aB (Vu hit.typeIs ?_))))
 show aL _ _ (setField (.ref it) 1 (iC ((i:Int)+1)) >>= _) _ _ s;refine aB (uN ho hd (by simp) ?_);have hit':(s.heap.update it (W7 (·.setIfInBounds 1 (iC ((i:Int)+1))))).IsKeyIter it d (i+1) es.size ep:=⟨_,sW _ ho (Vv (Dy hd _)),(V0 ..).trans hc,by rw[Dy hd];simp[iC]⟩
 refine aB (jL ?_);refine aB (Vu (s:={s with heap:=s.heap.update it (W7 (·.setIfInBounds 1 (iC ((i:Int)+1))))}) hit'.typeIs ?_);show aL _ _ (pure es[i].key) _ _ _;exact aW (aW ⟨_,rfl,aW (hQ _ hit' (pB ..))⟩)
theorem ajR(hh:A.handled=ao)(hit:s.heap.IsKeyIter it d i es.size ep)(hm:xr s.heap d es ep)(hge:es.size<=i)
  (hQ:∀h',Ei it s.heap h'->Q ao {s with heap:=h'}):aL (model prog w) A (jn (.ref it)) Q E s:=by
 obtain⟨o,ho,hc,hd⟩:=id hit;obtain⟨od,hod,hcd,hdd⟩:=id hm
 unfold jn;refine aB (yj (qW (name:=bZ "__next__") hit.typeIs LK (lQ LK hit.typeIs adB ?_ (adA _))));refine aB (aW ?_);refine aB ?_;refine aB ?_
 first|refine aB (LC hit.typeIs (aW (aB (ye ho hd ?_))))|refine aB (Mi hit.typeIs (aW (aB (ye ho hd ?_))))
 have own:adC "dict_keyiterator"=aD:=by decide
 simp only[own,kE,if_false];show aL _ _ (if(cY d==jw)=au then _ else _) _ _ s
 rw[aY (show ¬((cY d==jw)=au) from iw)];refine aB (aW (aB (VV hod hdd ?_)));rw[aY (by simp)];refine aB (aW (aB (Wi hod hdd ?_)));rw[aY (by simp)];refine aW ?_;simp only[show ¬((i:Int)<0) from by lia,if_false,zR,Vs hge];refine aB ?_
 first|refine aB (LC hit.typeIs (aW ?_))|refine aB (Mi hit.typeIs (aW ?_))
 show aL _ _ (setField (.ref it) 0 .none >>= _) _ _ s;refine aB (uN ho hd (by simp) ?_);show aL _ _ (FW (.type "StopIteration") [] >>= _) _ _ _;refine aB ?_;simp only[FW,Qy];refine aB (j0 ?_ (by size_fits));refine aB (m:=DY _ _) (Io (a:=jw) (by first|rfl|(simp only[DY];rfl)) ?_);refine j0 ?_ (by size_fits);simp only[Qz];refine aB (W8 ?_);rw[show A.in1.handled=ao from hh];refine aB (aW (Xy ?_));refine aB (MK (T:="StopIteration") (b:=au) ⟨_,fV _ rfl,rfl⟩ Wy ?_);exact aW (hQ _ (((pB ..).extBut.push _).push _))
theorem ahL(hh:A.handled=ao)(hne:d≠it):vh prog w A it [it,d] [it] es.size (λi v=>(es[i]?).map (·.key)=aj v) (λi h=>h.IsKeyIter it d i es.size ep/\xr h d es ep) where
 sub:=λb hb=>by simp at hb;simp[hb]
 frame:=λ_ _ _ st hk=>⟨st.1.at λo e=>hk it (by simp) o e,let ⟨o,ho,r⟩:=st.2;⟨o,hk d (by simp) o ho,r⟩⟩
 item:=λi s Q E hi st hQ=>aiE st.1 st.2 hi λh' hit' hs'=>hQ _ h' s.toks (by simp[hi]) ⟨hit',let ⟨o,ho,r⟩:=st.2;⟨o,(hs'.2 d hne).trans ho,r⟩⟩ λb o hb e=>(hs'.2 b λz=>hb (by simp[z])).trans e
 done:=λs Q E st hQ=>ajR hh st.1 st.2 (bT _) λh' he'=>hQ h' s.toks λb o hb e=>he' b o (λz=>hb (by simp[z])) e
 self:=λ_ _ _ _ st hQ=>wpAny_pyIter_keyiter st.1 hQ
theorem ajS(lo:(d==rB)=aD):KdlSrc prog w "dict" d d es.size (λi v=>(es[i]?).map (·.key)=aj v) (λh=>xr h d es ep) where
 type:=λ_ hm=>hm.ty
 there:=λ_ hm=>let ⟨_,ho,_⟩:=hm;⟨bN ho,bN ho⟩
 keep:=λ_ _ hm hk=>let ⟨o,ho,r⟩:=hm;⟨o,hk d (.inl rfl) o ho,r⟩
 notList:=by decide
 notTuple:=by decide
 hint:=λ_ _ _ _ hm hq=>kdl_hint_dict hm.ty hq
 iter:=λ_ _ hh hm=>⟨_,_,(λ_ _ hq=>aiD lo hm hq),ahL hh (let ⟨_,ho,_⟩:=hm;dX (bN ho)),⟨⟨_,fV _ rfl,rfl,rfl⟩,let ⟨o,ho,r⟩:=hm;⟨o,bR _ ho,r⟩⟩⟩
theorem agz(K:KdlSrc prog w T r d n P OK)(hh:A.handled=ao)(hok:OK s.heap)(hn:n<=bU)
  (h:∀(h':bh)(tk:Nat)(acc:Array Value),s.heap.objs.size<=h'.objs.size->(∀b o,s.heap.get? b=aj o->h'.get? b=aj o)->ItemsOf P acc n->R acc.toList {s with heap:=h',toks:=tk}):
  aL (model prog w) A (collect (.ref r)) R E s:=by
 have hlt:=K.there _ hok;unfold collect;refine aB (wpAny_runValue (uL entry_proto_collect' ?_));rw[uJ adE _];show aL _ A.in1 (newList [] >>= λl=>again (.builtin "list.__iadd__" ⟨[l,.ref r],[]⟩)) _ _ s;refine aB (j0 ?_);refine aW ⟨q9 Mj _,uL entry_list_iadd' ?_⟩;rw[uJ Mj _];have hS:(s.heap.push {cls:=.type "list",data:=.seq ([]:List Value).toArray}).get? s.heap.objs.size=aj {cls:=.type "list",data:=.seq #[]}:=fV _ rfl;show aL _ A.in1 (LR (.ref s.heap.objs.size) (.ref r) (.ref s.heap.objs.size)) _ _ _;have key:=kdl_extend (A:=A) (s:={s with heap:=s.heap.push {cls:=.type "list",data:=.seq ([]:List Value).toArray}}) (R:=λ(q:qD)(s':aG)=>∃(h':bh)(tk:Nat)(acc':Array Value)(c':Nat),q=.ok (.ret (.ref s.heap.objs.size))/\s'={s with heap:=h',toks:=tk}/\(∀b o,s.heap.get? b=aj o->h'.get? b=aj o)/\h'.get? s.heap.objs.size=aj {cls:=.type "list",dict:=ao,data:=.seq acc' c',slots:=#[]}/\ItemsOf P acc' n)
  K hh (K.keep _ _ hok λb _ o e=>bR _ e) s.heap.objs.size (tL hlt.1) (tL hlt.2) (.ref s.heap.objs.size) 0 hS (λh' tk acc' c' hk hS' hacc=>⟨h',tk,acc',c',rfl,rfl,λb o e=>hk b o (dX (bN e)) (bR _ e),hS',hacc⟩) hn
 refine oN key (λfin s' x=>?_) λe s' x=>?_
 .cases fin with
  |done f=>
   obtain⟨h',tk,acc',c',e,rfl,hk,hS',hacc⟩:=x
   cases e;show aL _ A (load s.heap.objs.size >>= _) _ _ _
   exact aB (Ja hS' (aW (h h' tk acc' (Af (bN hS')) hk hacc)))
  |again c₁=>
   refine⟨x.1,Ih x.2 λq s₂ y=>?_⟩
   obtain⟨h',tk,acc',c',rfl,rfl,hk,hS',hacc⟩:=y
   show aL _ A (load s.heap.objs.size >>= _) _ _ _;exact aB (Ja hS' (aW (h h' tk acc' (Af (bN hS')) hk hacc)))
 .obtain⟨_,_,_,_,e',_⟩:=x;cases e'
end
theorem Qa:∀{us:List Value}{ns:List Str},StrsAre us ns->Vals (ns.map V.str) us
 |_,_,.nil=>.nil
 |_,_,.cons _ t r=>.cons ⟨t,rfl⟩ (Qa r)
section
variable{X:Cx}
theorem aeU:je X (.builtin "sorted") (λxs H Q=>∃(p:az)(ns:List Int),xs=[.ref p]/\bK X.K H p (ns.map V.int)/\ns.length<64/\∀(l:az)(ns':List Int),H l=ao->ns'.Perm ns->ns'.Pairwise (·<=·)->Q (.ref l) (upd H l (.lst (ns'.map V.int)))):=by
 intro pins s σ H xs us Q I r h
 obtain⟨p,ns,rfl,hp,h64,q⟩:=h
 obtain⟨u,rfl,ru⟩:=vals1 r
 cases ru
 obtain⟨its,rv,pl,_⟩:=I.list hp
 have hi:IntsAre its ns:=intsAre_of rv;have hl:=rv.length;rw[bC] at hl;refine sorted_ints pl.isList hi (by lia) λout ns' a1 a2 a3=>?_
 obtain⟨e,he⟩:=sortedAll_at s.heap its out
 have hz:ns'.length<=bU:=by rw[a2.length_eq,jR];lia
 exact⟨.ref (s.heap.objs.size+1),_,I.laid (o:=.lst (ns'.map V.int)) (t':=s.toks) (λ_ _=>sortedAll_old) (Ej _) ⟨by rw[bC];exact hz,out.toList,e,P0 a1,by simpa[seqObj] using he⟩,rfl,q _ ns' (I.hok.fresh (Ej _)) a2 a3⟩
theorem aeV:je X (.builtin "sorted") (λxs H Q=>∃(p:az)(ns:List Str),xs=[.ref p]/\bK X.K H p (ns.map V.str)/\ns.length<64/\∀(l:az)(ns':List Str),H l=ao->ns'.Perm ns->sortedS ns'=au->Q (.ref l) (upd H l (.lst (ns'.map V.str)))):=by
 intro pins s σ H xs us Q I r h
 obtain⟨p,ns,rfl,hp,h64,q⟩:=h
 obtain⟨u,rfl,ru⟩:=vals1 r
 cases ru
 obtain⟨its,rv,pl,_⟩:=I.list hp
 have hi:StrsAre its ns:=Pg rv;have hl:=rv.length;rw[bC] at hl;refine sorted_strs pl.isList hi (by lia) λout ns' a1 a2 a3=>?_
 obtain⟨e,he⟩:=sortedAll_at s.heap its out
 have hz:ns'.length<=bU:=by rw[a2.length_eq,jR];lia
 exact⟨.ref (s.heap.objs.size+1),_,I.laid (o:=.lst (ns'.map V.str)) (t':=s.toks) (λ_ _=>sortedAll_old) (Ej _) ⟨by rw[bC];exact hz,out.toList,e,Qa a1,by simpa[seqObj] using he⟩,rfl,q _ ns' (I.hok.fresh (Ej _)) a2 a3⟩
theorem jk.iQ(r:jk k A):A.units+1<gJ:=by have:=r.un;lia
abbrev Row:=az×List Key
def TupAt(h:bh)(r:Row):Prop:=∃its,Vals (r.2.map kV) its/\IsTup h r.1 its.toArray
theorem TupAt.keep(t:TupAt h r)(k:∀b o,h.get? b=aj o->h'.get? b=aj o):TupAt h' r:=by
 obtain⟨its,v,o,e,c⟩:=t
 exact⟨its,v,o,k _ _ e,c⟩
theorem aam:∀{rows:List Row},(∀r∈rows,TupAt h r/\r.2.map bH=b::sh)->∃fs,KatTups h (rows.map λr=>cY r.1) fs/\fs.length=rows.length/\∀f∈fs,∃k,RelV (kV k) f/\bH k=b
 |[],_=>⟨[],KatTups.nil,rfl,by simp⟩
 |r::rows,ha=>by
  obtain⟨fs,t,l,g⟩:=aam (rows:=rows) λq hq=>ha q (dB _ hq)
  obtain⟨⟨its,v,o,e,c,n,d⟩,s⟩:=ha r dj
  obtain⟨a,ks⟩:=r
  cases ks with
  |nil=>cases s
  |cons k ks=>
   cases v with
   |@cons _ u _ us v1 v2=>
    refine⟨u::fs,KatTups.cons e c d (by simp) t,by simp[l],λf hf=>?_⟩
    rcases bJ.mp hf with rfl|hf
    .exact⟨k,v1,(pH s).1⟩
    .exact g f hf
theorem Yz(r:RelV (kV k) f)(e:bH k=b):Looks M h (typeOf f) (if b=au then .type "int" else .type "str"):=by
 subst e;cases k with
 |inl i=>obtain⟨t,rfl⟩:=r;exact Looks.of_pure rfl
 |inr i=>obtain⟨t,rfl⟩:=r;exact Looks.of_pure rfl
theorem QB(rows:List Row)(hi:i<rows.length):(rows.map λr=>cY r.1).getD i jw=.ref rows[i].1:=by simp[nF,hi]
def rowAt(rows:List Row)(i:Nat):List Key:=((rows[i]?).map (·.2)).getD []
theorem YB{prog:bB}{w:bA}{A:bV}{s':aG}{rows:List Row}{b:Bool}{sh:List Bool}(ha:∀r∈rows,TupAt s'.heap r/\r.2.map bH=b::sh)(h0:0<rows.length)(Q:SortKind->aG->Prop)(q:Q (tuples' au) s'):
  aL (model prog w) A (keyKind' (rows.map λr=>cY r.1).toArray) Q (λ_ _=>False) s':=by
 obtain⟨fs,t,l,g⟩:=aam ha
 refine kat_kind (T:=if b=au then .type "int" else .type "str") t (by lia) (λv hv=>?_) (by cases b<;>rfl) (by cases b<;>exact q)
 obtain⟨k,r,e⟩:=g v hv
 exact Yz r e
theorem ajT(ha:∀r∈rows,TupAt s'.heap r/\r.2.map bH=sh)(hi:i<rows.length)(hj:j<rows.length)(C:Bool->aG->Prop)(q:C (dg (rowAt rows i) (rowAt rows j)) s'):
  kas_ask prog w A (tuples' au) (rows.map λr=>cY r.1) i j C s':=by
 obtain⟨⟨its,v,o,e,c,n,d⟩,s1⟩:=ha rows[i] (vY hi)
 obtain⟨⟨its2,v2,o2,e2,c2,n2,d2⟩,s2⟩:=ha rows[j] (vY hj)
 unfold kas_ask;rw[QB rows hi,QB rows hj];have l1:=v.length;have l2:=v2.length;have l3:rows[i].2.length=rows[j].2.length:=by
  have:=congrArg wA (s1.trans s2.symm);simpa using this
 refine kat_lt e d e2 d2 ?_;have ez:decide (its.toArray.size<its2.toArray.size)=aD:=by
  rw[iU];simp only[gB];rw[bC] at l1 l2;lia
 rw[ez];have q':C (dg rows[i].2 rows[j].2) s':=by
  unfold rowAt at q;rw[iI hi,iI hj] at q;exact q
 exact Zh (by simpa using v) (by simpa using v2) (s1.trans s2.symm) q'
theorem Qc{rows:List Row}{p:List Nat}(h:p.Perm (gC rows.length)):(p.map λi=>rows.getD i (0,[])).Perm rows:=by
 have e:(gC rows.length).map (λi=>rows.getD i (0,[]))=rows:=DP (by simp) λi h1 h2=>by simp[nF,h2]
 exact(h.map _).trans (by rw[e])
theorem YC{rows:List Row}{p:List Nat}(h:p.Perm (gC rows.length)):(p.map λi=>(rows.map λr=>cY r.1).getD i jw)=(p.map λi=>rows.getD i (0,[])).map λr=>cY r.1:=by
 rw[iK];refine uK λi hi=>?_
 have hlt:=ql.mp (h.mem_iff.mp hi);rw[QB rows hlt];simp[nF,hlt]
theorem Rn:∀{rows:List Row}{us:List Value},Vals (rows.map λr=>V.ref r.1) us->us=rows.map λr=>cY r.1
 |[],_,h=>by cases h;rfl
 |r::rows,_,h=>by
  cases h with
  |cons a b=>
   cases a;rw[Rn b];rfl
theorem Qd:∀(rows:List Row),Vals (rows.map λr=>V.ref r.1) (rows.map λr=>cY r.1)
 |[]=>.nil
 |r::rows=>.cons rfl (Qd rows)
end
section
variable{K:aJ}{T:gR}{J:It}{n:Nat}{vs:Nat->List V}{G:Hp->Prop}{ts:TT}{em:TM}{fs:St}{H0 H1:Hp}{D:az}{done:Hp->Prop}
end
theorem aiF(A:bV)(s:aG)(ra:RelV (kV a) u)(rb:RelV (kV b) v)(ht:bH a=bH b):Pb A s u v (decide (a=b)):=by
 rw[<-Rm ht];exact J7 ra rb (Ax a) (Ax b)
theorem Zi(A:bV)(s:aG)(ra:RelV (kV a) u)(rb:RelV (kV b) v)(ht:bH a=bH b)(prog:bB)(w:bA)(E:Value->aG->Prop)(Q:Value->aG->Prop)(h:Q (.bool (kLt a b)) s):
  aL (model prog w) A (yp .Lt u v) Q E s:=by
 cases a with
 |inl i=>
  cases b with
  |inr y=>cases ht
  |inl j=>
   obtain⟨t,rfl⟩:=ra
   obtain⟨t',rfl⟩:=rb
   exact(lt_int h:aL (model prog w) A (fj .Lt _ _) Q E s)
 |inr x=>
  cases b with
  |inl y=>cases ht
  |inr y=>
   obtain⟨t,rfl⟩:=ra
   obtain⟨t',rfl⟩:=rb
   exact(lt_str h:aL (model prog w) A (fj .Lt _ _) Q E s)
section
open PySem.SeqAt
open PySem.AutoSeq1 (wpAny_loadPart')
open PySem.MeetsSeq PySem.MeetsSeq2 PySem.MeetsSeq3
theorem afA(l b:az)(items items2:Array Value)(n n2:Nat)(dd dd2:Option az)(sl sl2:Array (Option Value))(ns ms:List Key)(hi:Vals (ns.map kV) items.toList)(hj:Vals (ms.map kV) items2.toList)(hty:ns.map bH=ms.map bH):
  Meets (lW.«tuple.__lt__» ⟨[.ref l,.ref b],[]⟩)
   (λ_ R s=>s.heap.get? l=aj {cls:=.type "tuple",dict:=dd,data:=.seq items n,slots:=sl}/\s.heap.get? b=aj {cls:=.type "tuple",dict:=dd2,data:=.seq items2 n2,slots:=sl2}/\R (.ok (.ret (.bool (dg ns ms)))) s):=
 .of_wp λprog w A R s h=>by
  obtain⟨hp,g,d,tk,os⟩:=s;obtain⟨hl,hb,h⟩:=h
  have f2:=adM;have z0:ns.length=ms.length:=by have:=congrArg wA hty;simpa using this
  have z1:items.size=ns.length:=by have:=hi.length;rw[bC] at this;simpa using this.symm
  have z2:items2.size=ms.length:=by have:=hj.length;rw[bC] at this;simpa using this.symm
  wp_walk using M8 hl,M8 hb,aeW _ (λrest b s'=>b.1=ao/\s'=⟨hp,g,d,tk,os⟩/\∃(vs ws:List Value)(ns' ms':List Key),rest=vs.zip ws/\
   Vals (ns'.map kV) vs/\Vals (ms'.map kV) ws/\ns'.map bH=ms'.map bH/\R (.ok (.ret (.bool (dg ns' ms')))) ⟨hp,g,d,tk,os⟩) _
  case turn=>
   rintro⟨y,x⟩ rest b s' ⟨hb',rfl,vs,ws,ns',ms',hz,Le,hwi,hlen,hR⟩
   cases ns' with
   |nil=>cases Le;rw[List.zip_nil_left] at hz;cases hz
   |cons a ns'=>
    cases ms' with
    |nil=>cases hlen
    |cons c ms'=>
     cases Le with
     |cons r1 acK=>
      cases hwi with
      |cons r2 acL=>
       rw[VH] at hz;injection hz with hyx hrest
       injection hyx with hy hx
       subst hy hx;have t1:bH a=bH c:=(pH hlen).1;have t2:=(pH hlen).2;unfold dg at hR;refine aB (aiF A.in1 ⟨hp,g,d,tk,os⟩ r1 r2 t1 prog w _ _ ?_);by_cases hac:a=c
       .rw[aZ hac] at hR;rw[dZ hac];wp_walk
        exact⟨rfl,rfl,_,_,_,_,hrest,acK,acL,t2,hR⟩
       .rw[aY hac] at hR;rw[iU hac];have UJ:=Zi A.in1 ⟨hp,g,d,tk,os⟩ r1 r2 t1 prog w;wp_walk using UJ
        exact⟨_,rfl,by simpa using hR⟩
  case fin=>
   rintro⟨b1,b2⟩ s' ⟨hb',rfl,vs,ws,ns',ms',hz,Le,hwi,hlen,hR⟩
   simp only at hb';subst hb';have hv:dg ns' ms'=decide (items.size<items2.size):=by
    rw[iU (by lia)];cases ns' with
    |nil=>unfold dg;rfl
    |cons a ns'=>
     cases ms' with
     |nil=>cases hlen
     |cons c ms'=>
      cases Le with
      |cons r1 acK=>
       cases hwi with
       |cons r2 acL=>
        rw[VH] at hz;cases hz
   rw[hv] at hR;wp_walk
   exact⟨_,rfl,by simpa[aoT] using hR⟩
  case h=>
   exact⟨rfl,rfl,items.toList,items2.toList,ns,ms,rfl,hi,hj,hty,h⟩
end
theorem ag2(hl:IsTup s.heap l items)(hb:IsTup s.heap b items2)(hi:Vals (ns.map kV) items.toList)(hj:Vals (ms.map kV) items2.toList)(hty:ns.map bH=ms.map bH)
  (hu:A.units<gJ)(h:Q (.bool (dg ns ms)) s):aL (model prog w) A (fj .Lt (.ref l) (.ref b)) Q E s:=by
 obtain⟨⟨cls,dd,data,sl⟩,ho,hc,n,hd⟩:=id hl
 obtain⟨⟨cls2,dd2,data2,sl2⟩,ho2,hc2,n2,hd2⟩:=id hb
 simp only at hc hd hc2 hd2;subst hc hd hc2 hd2;exact adT (op:=.Lt) ⟨_,ho,rfl⟩ ⟨_,ho2,rfl⟩ PySem.F.slot_tuple_lt PySem.F.entry_tuple_lt (PySem.F.args_tuple_lt_2 _ _) (afA l b items items2 n n2 dd dd2 sl sl2 ns ms hi hj hty)
  ⟨ho,ho2,show rm (dg ns ms)≠ad4/\Q (.bool (dg ns ms)) s from⟨(λx=>nomatch x),h⟩⟩ hu
mutual
def RX(H:Hp):aA->V->Prop
 |.none,v=>v=.non
 |.bool b,v=>v=.bl b
 |.int i,v=>v=.int i
 |.str x,v=>v=.str x
 |.list ds,v=>∃a vs,v=.ref a/\H a=aj (.lst vs)/\mJ H ds vs
 |.tuple ds,v=>∃a vs,v=.ref a/\H a=aj (.tup vs)/\mJ H ds vs
 |.dict _,_=>False
def mJ(H:Hp):List aA->List V->Prop
 |[],vs=>vs=[]
 |d::ds,vs=>∃v r,vs=v::r/\RX H d v/\mJ H ds r
end
mutual
theorem RX.same(s:bD H H'):∀{d:aA}{v:V},RX H d v->RX H' d v
 |.none,_,h=>h
 |.bool _,_,h=>h
 |.int _,_,h=>h
 |.str _,_,h=>h
 |.list ds,_,h=>by
  obtain⟨a,vs,e,q,r⟩:=h
  exact⟨a,vs,e,s _ _ q,mJ.same s r⟩
 |.tuple ds,_,h=>by
  obtain⟨a,vs,e,q,r⟩:=h
  exact⟨a,vs,e,s _ _ q,mJ.same s r⟩
theorem mJ.same(s:bD H H'):∀{ds:List aA}{vs:List V},mJ H ds vs->mJ H' ds vs
 |[],_,h=>h
 |d::ds,vs,h=>by
  obtain⟨v,r,e,q,t⟩:=h
  exact⟨v,r,e,RX.same s q,mJ.same s t⟩
end
mutual
theorem RX.rd{K:aJ}{H:Hp}:∀{d:aA}{v:V},RX H d v->RD K H d v
 |.none,_,h=>h
 |.bool _,_,h=>h
 |.int _,_,h=>h
 |.str _,_,h=>h
 |.list ds,_,h=>by
  obtain⟨a,vs,e,q,r⟩:=h
  exact⟨a,vs,e,bK.of q,mJ.rd r⟩
 |.tuple ds,_,h=>by
  obtain⟨a,vs,e,q,r⟩:=h
  exact⟨a,vs,e,cz.of q,mJ.rd r⟩
theorem mJ.rd{K:aJ}{H:Hp}:∀{ds:List aA}{vs:List V},mJ H ds vs->ou K H ds vs
 |[],_,h=>h
 |d::ds,vs,h=>by
  obtain⟨v,r,e,q,t⟩:=h
  exact⟨v,r,e,RX.rd q,mJ.rd t⟩
end
def G8:aA->Value
 |.none=>.type "NoneType"
 |.bool _=>.type "bool"
 |.int _=>.type "int"
 |.str _=>.type "str"
 |.list _=>.type "list"
 |.tuple _=>.type "tuple"
 |.dict _=>.type "dict"
theorem RX.ty{K:aJ}{H:Hp}{d:aA}{v:V}(h:RX H d v):mD K H v (G8 d):=by
 cases d with
 |none=>cases(show v=.non from h);exact .non
 |bool b=>cases(show v=.bl b from h);exact .bl b
 |int i=>cases(show v=.int i from h);exact .int i
 |str x=>cases(show v=.str x from h);exact .str x
 |list ds=>obtain⟨a,vs,rfl,e,_⟩:=h;exact .lst e
 |tuple ds=>obtain⟨a,vs,rfl,e,_⟩:=h;exact .tup e
 |dict ds=>exact(show False from h).elim
section
variable{X:Cx}
theorem ag3(hu:X.A.units<gJ):cX X (fj .Lt) (λx y H Q=>∃a b ks js,x=.ref a/\y=.ref b/\H a=aj (.tup (ks.map kV))/\H b=aj (.tup (js.map kV))/\ks.map bH=js.map bH/\Q (.bl (dg ks js)) H):=by
 intro pins s σ H x y v u Q I rx ry h
 obtain⟨a,b,ks,js,rfl,rfl,ha,hb,ht,q⟩:=h
 cases rx;cases ry
 obtain⟨_,its,r1,p1⟩:=(show fH X.prog X.w H s.heap a (.tup (ks.map kV)) from I.hok a _ ha)
 obtain⟨_,its2,r2,p2⟩:=(show fH X.prog X.w H s.heap b (.tup (js.map kV)) from I.hok b _ hb)
 exact ag2 p1 p2 (by simpa using r1) (by simpa using r2) ht hu (gj I q rfl)
theorem X7(hu:X.A.units<gJ):cX X (fj .Lt) (λx y H Q=>(∃a b,x=kV a/\y=kV b/\bH a=bH b/\Q (.bl (kLt a b)) H)\/∃a b ks js,x=.ref a/\y=.ref b/\H a=aj (.tup (ks.map kV))/\H b=aj (.tup (js.map kV))/\ks.map bH=js.map bH/\Q (.bl (dg ks js)) H):=by
 refine cX.or ?_ (ag3 hu);intro pins s σ H x y v u Q I rx ry h
 obtain⟨a,b,rfl,rfl,ht,q⟩:=h
 exact Zi X.A s rx ry ht _ _ _ _ (gj I q rfl)
end
structure Ord(lt:Nat->Nat->Bool):Prop where
 CN:∀a b,lt a b=au->lt b a=aD
 trans:∀a b c,lt b a=aD->lt c b=aD->lt c a=aD
section
variable{N:Nat}{lt:Nat->Nat->Bool}(O:Ord lt)
abbrev at0(p:Array Nat)(i:Nat):Nat:=p.getD i 0
def Up(lt:Nat->Nat->Bool)(p:Array Nat)(n:Nat):Prop:=∀i j,i<j->j<n->lt (at0 p j) (at0 p i)=aD
def Dn(lt:Nat->Nat->Bool)(p:Array Nat)(n:Nat):Prop:=∀i j,i<j->j<n->lt (at0 p i) (at0 p j)=aD
def Lk(lt:Nat->Nat->Bool)(p:Array Nat)(i j:Nat):Prop:=∀a b,i<=a->a<j->i<=b->b<j->lt (at0 p a) (at0 p b)=aD
theorem vf(p:Array Nat)(i:Nat):at0 p i=(p[i]?).getD 0:=sV
theorem wU(hj:j<=p.size)(k:Nat):at0 (kas_rev p i j) k=if i<=k/\k<j then at0 p (i+j-1-k) else at0 p k:=by
 rw[vf,vf,vf];unfold kas_rev;rw[getElem?_mirror_all hj];split<;>rfl
theorem abf(hk:k<p.size)(hl:l<=k)(x:Nat):at0 (bubble p k (k-l)) x=if x=l then at0 p k else if l<x/\x<=k then at0 p (x-1) else at0 p x:=by
 rw[vf,vf,vf,vf,getElem?_bubble hk (k-l) (by lia)];have e:k-(k-l)=l:=by lia
 rw[e];split
 .rfl
 .split<;>rfl
theorem KP.size(h:KP N p):p.size=N:=by
 have:=h.length_eq;rw[pD] at this;simpa using this
include O
theorem Ord.Dg(a:Nat):lt a a=aD:=by
 cases e:lt a a with
 |false=>rfl
 |true=>rw[O.CN a a e] at e;cases e
theorem Up.succ(h:Up lt p n)(hn:1<=n)(hs:lt (at0 p n) (at0 p (n-1))=aD):Up lt p (n+1):=λi j hij hj=>by
 by_cases e:j<n
 .exact h i j hij e
 .have ej:j=n:=by lia
  subst ej;by_cases ei:i=j-1
  .rw[ei];exact hs
  .exact O.trans _ _ _ (h i (j-1) (by lia) (by lia)) hs
theorem Dn.succ(h:Dn lt p n)(hn:1<=n)(hs:lt (at0 p (n-1)) (at0 p n)=aD):Dn lt p (n+1):=λi j hij hj=>by
 by_cases e:j<n
 .exact h i j hij e
 .have ej:j=n:=by lia
  subst ej;by_cases ei:i=j-1
  .rw[ei];exact hs
  .exact O.trans _ _ _ hs (h i (j-1) (by lia) (by lia))
theorem Dn.like(h:Dn lt p n)(l:Lk lt p i j)(hj:j<=p.size)(hn:j<=n):Dn lt (kas_rev p i j) n:=λa b hab hb=>by
 rw[wU hj,wU hj];by_cases ha:i<=a/\a<j
 .rw[aZ ha];by_cases hb':i<=b/\b<j
  .rw[aZ hb'];exact l _ _ (by lia) (by lia) (by lia) (by lia)
  .rw[aY hb'];exact h _ _ (by lia) (by lia)
 .rw[aY ha];by_cases hb':i<=b/\b<j
  .rw[aZ hb'];exact h _ _ (by lia) (by lia)
  .rw[aY hb'];exact h _ _ (by lia) (by lia)
theorem Dn.turn(h:Dn lt p n)(hn:n<=p.size):Up lt (kas_rev p 0 n) n:=λa b hab hb=>by
 rw[wU hn,wU hn,aZ ⟨by lia,by lia⟩,aZ ⟨by lia,by lia⟩];exact h _ _ (by lia) (by lia)
theorem R8(h:KP N p)(h0:0<N):∀f n,1<=n->Up lt p n->cZ N lt (kas_asc p f n) λm=>Up lt p m/\n<=m/\m<=n+f/\(m=n+f\/lt (at0 p m) (at0 p (m-1))=au)
 |0,n,hn,u=>⟨u,bT _,bT _,.inl rfl⟩
 |f+1,n,hn,u=>by
  refine⟨h.ix h0 _,h.ix h0 _,?_⟩
  dsimp only;split
  .rename_i e
   exact⟨u,bT _,by lia,.inr e⟩
  .rename_i e
   refine(R8 h h0 f (n+1) (by lia) (u.succ O hn (by simpa using e))).mono λm hm=>?_
   obtain⟨a,b,c,d⟩:=hm
   refine⟨a,by lia,by lia,?_⟩
   rcases d with d|d
   .left;lia
   .exact .inr d
theorem JS(h0:0<N):∀f (p:Array Nat) n q,KP N p->1<=n->q<n->n+f<=N->Dn lt p n->Lk lt p (n-(q+1)) n->cZ N lt (kas_desc f p n q) λr=>KP N r.1/\1<=r.2.1/\r.2.2<r.2.1/\r.2.1<=n+f/\Dn lt r.1 r.2.1/\Lk lt r.1 (r.2.1-(r.2.2+1)) r.2.1
 |0,p,n,q,h,hn,hq,hf,d,l=>⟨h,hn,hq,bT _,d,l⟩
 |f+1,p,n,q,h,hn,hq,hf,d,l=>by
  have sz:=h.size;have one:∀(p:Array Nat),Lk lt p (n+1-(0+1)) (n+1):=λp a b h1 h2 h3 h4=>by
   have e1:a=n:=by lia
   have e2:b=n:=by lia
   rw[e1,e2];exact O.Dg _
  refine⟨h.ix h0 _,h.ix h0 _,?_⟩
  dsimp only;split
  .rename_i e;have e':lt (at0 p (n-1)) (at0 p n)=aD:=O.CN _ _ e;split
   .have hj:n<=p.size:=by lia
    have dl:=d.like O l hj (bT _);have hs:lt (at0 (kas_rev p (n-(q+1)) n) (n-1)) (at0 (kas_rev p (n-(q+1)) n) n)=aD:=by
     rw[wU hj,wU hj,aZ ⟨by lia,by lia⟩,aY (by lia)];exact O.trans _ _ _ e' (l _ _ (by lia) (by lia) (by lia) (by lia))
    refine(JS h0 f _ (n+1) 0 (h.rev _ _) (by lia) (by lia) (by lia) (dl.succ O hn hs) (one _)).mono λr hr=>?_
    obtain⟨a1,a2,a3,a4,a5,a6⟩:=hr
    exact⟨a1,a2,a3,by lia,a5,a6⟩
   .refine(JS h0 f _ (n+1) 0 h (by lia) (by lia) (by lia) (d.succ O hn e') (one _)).mono λr hr=>?_
    obtain⟨a1,a2,a3,a4,a5,a6⟩:=hr
    exact⟨a1,a2,a3,by lia,a5,a6⟩
  .rename_i e;have e1:lt (at0 p n) (at0 p (n-1))=aD:=by simpa using e
   refine⟨h.ix h0 _,h.ix h0 _,?_⟩
   dsimp only;split
   .exact⟨h,hn,hq,(by show n<=n+(f+1);lia),d,l⟩
   .rename_i e';have e2:lt (at0 p (n-1)) (at0 p n)=aD:=by simpa using e'
    have l2:Lk lt p (n+1-(q+1+1)) (n+1):=λa b h1 h2 h3 h4=>by
     have e3:n+1-(q+1+1)=n-(q+1):=by lia
     rw[e3] at h1 h3;by_cases ha:a=n
     .by_cases hb:b=n
      .rw[ha,hb];exact O.Dg _
      .rw[ha];exact O.trans _ _ _ (l (n-1) b (by lia) (by lia) (by lia) (by lia)) e1
     .by_cases hb:b=n
      .rw[hb];exact O.trans _ _ _ e2 (l a (n-1) (by lia) (by lia) (by lia) (by lia))
      .exact l a b (by lia) (by lia) (by lia) (by lia)
    refine(JS h0 f _ (n+1) (q+1) h (by lia) (by lia) (by lia) (d.succ O hn e2) l2).mono λr hr=>?_
    obtain⟨a1,a2,a3,a4,a5,a6⟩:=hr
    exact⟨a1,a2,a3,by lia,a5,a6⟩
theorem Zj(h0:0<N)(h:KP N p)(n:Nat)(hn:1<=n)(hN:n<=N)(d:Dn lt p n):cZ N lt (kas_tail3 n N p) λr=>KP N r.2/\Up lt r.2 r.1/\1<=r.1/\r.1<=N:=by
 have sz:=h.size;refine cZ.bind ((R8 O (h.rev 0 n) h0 (N-n) n hn (d.turn O (by lia))).mono λm hm=>?_)
 exact⟨h.rev 0 n,hm.1,by lia,by lia⟩
theorem Xz(h0:0<N)(h:KP N p)(n:Nat)(hn:1<=n)(hN:n+1<=N)(d:Dn lt p (n+1)):cZ N lt (kas_descPart n N p) λr=>KP N r.2/\Up lt r.2 r.1/\1<=r.1/\r.1<=N:=by
 have l0:Lk lt p (n+1-(0+1)) (n+1):=λa b h1 h2 h3 h4=>by
  have e1:a=n:=by lia
  have e2:b=n:=by lia
  rw[e1,e2];exact O.Dg _
 refine cZ.bind ((JS O h0 (N-(n+1)) p (n+1) 0 h (by lia) (by lia) (by lia) d l0).mono λr hr=>?_)
 obtain⟨a1,a2,a3,a4,a5,a6⟩:=hr
 have sz:=a1.size;split
 .exact Zj O h0 (a1.rev _ _) _ a2 (by lia) (a5.like O a6 (by lia) (bT _))
 .exact Zj O h0 a1 _ a2 (by lia) a5
theorem aiG(h0:0<N)(h:KP N p):cZ N lt (kas_count N p) λr=>KP N r.2/\Up lt r.2 r.1/\1<=r.1/\r.1<=N:=by
 have sz:=h.size;refine cZ.bind ((R8 O h h0 (N-1) 1 (bT _) (λi j hij hj=>absurd hj (by lia))).mono λn hn=>?_)
 obtain⟨u,h1,h2,h3⟩:=hn
 split
 .rename_i e;have:=eq_of_beq e
  exact⟨h,u,h1,by show n<=N;lia⟩
 .rename_i e;have en:n≠N:=λx=>e (by rw[x];simp)
  have hl:lt (at0 p n) (at0 p (n-1))=au:=by
   rcases h3 with h3|h3
   .lia
   .exact h3
  have hl':=O.CN _ _ hl;split
  .refine⟨h.ix h0 _,h.ix h0 _,?_⟩
   dsimp only;split
   .exact⟨h,u,h1,by show n<=N;lia⟩
   .rename_i e';have e1:lt (at0 p 0) (at0 p (n-1))=aD:=by simpa using e'
    have like:Lk lt p 0 n:=λa b _ ha _ hb=>by
     have g1:lt (at0 p a) (at0 p 0)=aD:=by
      by_cases hz:a=0
      .rw[hz];exact O.Dg _
      .exact u 0 a (by lia) ha
     have g2:lt (at0 p (n-1)) (at0 p b)=aD:=by
      by_cases hz:b=n-1
      .rw[hz];exact O.Dg _
      .exact u b (n-1) (by lia) (by lia)
     have g3:lt (at0 p 0) (at0 p b)=aD:=O.trans (at0 p b) (at0 p (n-1)) (at0 p 0) g2 e1;have g4:lt (at0 p a) (at0 p (n-1))=aD:=by
      by_cases hz:a=n-1
      .rw[hz];exact O.Dg _
      .cases q:lt (at0 p a) (at0 p (n-1)) with
       |false=>rfl
       |true=>
        exfalso;have k1:lt (at0 p 0) (at0 p (n-1))=aD:=e1;have k2:lt (at0 p a) (at0 p 0)=aD:=g1;have:=O.trans (at0 p (n-1)) (at0 p 0) (at0 p a) k1 k2;rw[this] at q;cases q
     exact O.trans (at0 p b) (at0 p (n-1)) (at0 p a) g2 g4
    have dn:Dn lt p n:=λi j hij hj=>like i j (lz _) (by lia) (lz _) hj
    have dr:=dn.like O like (by lia) (bT _);refine Xz O h0 (h.rev 0 n) n h1 (by lia) (dr.succ O h1 ?_);rw[wU (by lia),wU (by lia),aZ ⟨by lia,by lia⟩,aY (by lia)];exact O.trans _ _ _ hl' (like _ _ (by lia) (by lia) (by lia) (by lia))
  .have e1:n=1:=by lia
   subst e1;refine Xz O h0 h 1 (bT _) (by lia) λi j hij hj=>?_
   have ei:i=0:=by lia
   have ej:j=1:=by lia
   rw[ei,ej];exact hl'
theorem QC(h0:0<N)(h:KP N p)(k:Nat)(u:Up lt p k):∀f l r,l<=r->r<=k->r-l<=f->(∀i,i<l->lt (at0 p k) (at0 p i)=aD)->(∀i,r<=i->i<k->lt (at0 p i) (at0 p k)=aD)->
  cZ N lt (kas_place p k f l r) λm=>m<=k/\(∀i,i<m->lt (at0 p k) (at0 p i)=aD)/\∀i,m<=i->i<k->lt (at0 p i) (at0 p k)=aD
 |0,l,r,hlr,hr,hf,g1,g2=>by
  have e:l=r:=by lia
  subst e
  exact⟨hr,g1,g2⟩
 |f+1,l,r,hlr,hr,hf,g1,g2=>by
  unfold kas_place;split
  .have e:l=r:=by lia
   subst e
   exact⟨hr,g1,g2⟩
  .refine⟨h.ix h0 _,h.ix h0 _,?_⟩
   dsimp only;split
   .rename_i e;have e':=O.CN _ _ e;refine QC h0 h k u f l ((l+r) / 2) (by lia) (by lia) (by lia) g1 λi hi hk=>?_
    by_cases hz:i=(l+r) / 2
    .rw[hz];exact e'
    .exact O.trans _ _ _ e' (u _ i (by lia) hk)
   .rename_i e;have e':lt (at0 p k) (at0 p ((l+r) / 2))=aD:=by simpa using e
    refine QC h0 h k u f ((l+r) / 2+1) r (by lia) hr (by lia) (λi hi=>?_) g2;by_cases hz:i=(l+r) / 2
    .rw[hz];exact e'
    .exact O.trans _ _ _ (u i _ (by lia) (by lia)) e'
theorem abg(h0:0<N):∀f (p:Array Nat) k,KP N p->k+f<=N->Up lt p k->cZ N lt (kas_bin f p k) λr=>KP N r/\Up lt r (k+f)
 |0,p,k,h,hk,u=>⟨h,u⟩
 |f+1,p,k,h,hk,u=>by
  have sz:=h.size;refine cZ.bind ((QC O h0 h k u k 0 k (lz _) (bT _) (by lia) (λi hi=>absurd hi (M9 _)) (λi h1 h2=>absurd h2 (by lia))).mono λl hl=>?_)
  obtain⟨hlk,g1,g2⟩:=hl
  have ub:Up lt (bubble p k (k-l)) (k+1):=λi j hij hj=>by
   rw[abf (by lia) hlk,abf (by lia) hlk];by_cases hi:i=l
   .rw[aY (by lia),aZ ⟨by lia,by lia⟩,aZ hi];exact g2 _ (by lia) (by lia)
   .by_cases hj':j=l
    .rw[aZ hj',aY hi,aY (by lia)];exact g1 _ (by lia)
    .by_cases hli:l<i
     .rw[aY hj',aZ ⟨by lia,by lia⟩,aY hi,aZ ⟨hli,by lia⟩];exact u _ _ (by lia) (by lia)
     .by_cases hlj:l<j
      .rw[aY hj',aZ ⟨hlj,by lia⟩,aY hi,aY (by lia)];exact u _ _ (by lia) (by lia)
      .rw[aY hj',aY (by lia),aY hi,aY (by lia)];exact u _ _ (by lia) (by lia)
  refine(abg h0 f _ (k+1) (h.bub _ _) (by lia) ub).mono λr hr=>?_
  have e:k+(f+1)=k+1+f:=by lia
  rw[e];exact hr
theorem ajU(h0:0<N):cZ N lt (kas_sort N) λp=>KP N p/\Up lt p N:=by
 refine cZ.bind ((aiG O h0 (p:=afZ (gC N)) (uM _)).mono λr hr=>?_)
 obtain⟨a1,a2,a3,a4⟩:=hr
 split
 .have e:max r.1 1=r.1:=by lia
  rw[e]
  refine(abg O h0 (N-r.1) r.2 r.1 a1 (by lia) a2).mono λp hp=>?_
  have e2:r.1+(N-r.1)=N:=by lia
  rw[e2] at hp;exact hp
 .have e:r.1=N:=by lia
  rw[e] at a2
  exact⟨a1,a2⟩
end
theorem Ro(h:kLt a b=au):kLt b a=aD:=by
 cases a with
 |inl i=>
  cases b with
  |inr y=>cases h
  |inl j=>have:=of_decide_eq_true h;exact iU (by lia)
 |inr x=>
  cases b with
  |inl y=>cases h
  |inr y=>exact KeyOrd.klt_asymm (O:=strKind.toKeyOrd) (a:=x.cps.toList) (b:=y.cps.toList) h
theorem abh(a:Key):kLt a a=aD:=by
 cases e:kLt a a with
 |false=>rfl
 |true=>rw[Ro e] at e;cases e
theorem abi(t1:bH a=bH b)(t2:bH b=bH c)(h:kLt a c=au):kLt a b=au\/kLt b c=au:=by
 cases a with
 |inl i=>
  cases b with
  |inr y=>cases t1
  |inl j=>
   cases c with
   |inr y=>cases t2
   |inl k=>
    have h1:=of_decide_eq_true h;by_cases h2:i<j
    .exact .inl (dZ h2)
    .exact .inr (dZ (by lia))
 |inr x=>
  cases b with
  |inl y=>cases t1
  |inr y=>
   cases c with
   |inl k=>cases t2
   |inr z=>exact strKind.negTrans x.cps.toList y.cps.toList z.cps.toList h
theorem str_of_list{x y:Str}(h:x.cps.toList=y.cps.toList):x=y:=by
 cases x;cases y;simp at h;simp[h]
theorem J8(t:bH a=bH b)(h1:kLt a b=aD)(h2:kLt b a=aD):a=b:=by
 cases a with
 |inl i=>
  cases b with
  |inr y=>cases t
  |inl j=>
   have g1:=of_decide_eq_false h1;have g2:=of_decide_eq_false h2;have:i=j:=by lia
   rw[this]
 |inr x=>
  cases b with
  |inl y=>cases t
  |inr y=>
   have:=strKind.total x.cps.toList y.cps.toList h1 h2;rw[str_of_list this]
theorem aan:∀{a b:List Key},dg a b=au->dg b a=aD
 |[],_,h=>by unfold dg at h;cases h
 |_::_,[],h=>by unfold dg at h;cases h
 |a::r,b::t,h=>by
  unfold dg at h⊢;by_cases e:a=b
  .rw[aZ e] at h;rw[aZ e.symm];exact aan h
  .rw[aY e] at h;rw[aY (fQ e)];exact Ro h
theorem abj:∀{a b c:List Key},a.map bH=b.map bH->b.map bH=c.map bH->dg a c=au->dg a b=au\/dg b c=au
 |[],_,_,_,_,h=>by unfold dg at h;cases h
 |_::_,_,[],_,_,h=>by unfold dg at h;cases h
 |_::_,[],_::_,t,_,_=>by cases t
 |a::r,b::u,c::t,t1,t2,h=>by
  have q1:=(pH t1).1;have q2:=(pH t2).1;have q3:=(pH t1).2;have q4:=(pH t2).2;by_cases e:a=c
  .subst e;have h':dg r t=au:=by
    unfold dg at h
    rwa [aZ rfl] at h
   by_cases e2:a=b
   .subst e2;rcases abj q3 q4 h' with g|g
    .left;unfold dg;rw[aZ rfl];exact g
    .right;unfold dg;rw[aZ rfl];exact g
   .cases g:kLt a b with
    |true=>left;unfold dg;rw[aY e2];exact g
    |false=>
     right;unfold dg;rw[aY (fQ e2)];cases g2:kLt b a with
     |true=>rfl
     |false=>exact absurd (J8 q1 g g2) e2
  .have h':kLt a c=au:=by
    unfold dg at h
    rwa [aY e] at h
   rcases abi q1 q2 h' with g|g
   .left;unfold dg;rw[aY (λz=>by rw[z,abh] at g;cases g)];exact g
   .right;unfold dg;rw[aY (λz=>by rw[z,abh] at g;cases g)];exact g
theorem abk:∀{a b:List Key},a.map bH=b.map bH->dg a b=aD->dg b a=aD->a=b
 |[],[],_,_,_=>rfl
 |[],_::_,t,_,_=>by cases t
 |_::_,[],t,_,_=>by cases t
 |a::r,b::u,t,h1,h2=>by
  have q1:=(pH t).1;have q2:=(pH t).2;by_cases e:a=b
  .subst e;unfold dg at h1 h2;rw[aZ rfl] at h1 h2;rw[abk q2 h1 h2]
  .unfold dg at h1 h2;rw[aY e] at h1;rw[aY (fQ e)] at h2;exact absurd (J8 q1 h1 h2) e
def ug(rows:List Row)(i:Nat):List Key:=(rows.getD i (rows.headD (0,[]))).2
def rM(rows:List Row)(i j:Nat):Bool:=dg (ug rows i) (ug rows j)
def runK{α:Type}(lt:Nat->Nat->Bool):KasT α->α
 |.ret a=>a
 |.ask i j k=>runK lt (k (lt i j))
theorem cZ.run:∀{t:KasT α},cZ N lt t R->cZ N lt t (λa=>R a/\a=runK lt t)/\R (runK lt t)
 |.ret a,h=>⟨⟨h,rfl⟩,h⟩
 |.ask i j k,h=>let r:=cZ.run h.2.2;⟨⟨h.1,h.2.1,r.1⟩,r.2⟩
def j6(ks:List (List Key)):List Nat:=if ks.length<2 then gC ks.length else(runK (λi j=>dg (ks.getD i (ks.headD [])) (ks.getD j (ks.headD []))) (kas_sort ks.length)).toList
def mF(ks:List (List Key)):List (List Key):=(j6 ks).map λi=>ks.getD i (ks.headD [])
theorem Jh(ks:List (List Key)):(j6 ks).Perm (gC ks.length):=by
 unfold j6;split
 .exact uM _
 .exact(cZ.run (aal (lt:=λi j=>dg (ks.getD i (ks.headD [])) (ks.getD j (ks.headD []))) (by lia))).2
theorem YD(ks:List (List Key)):(mF ks).Perm ks:=by
 have:=(Jh ks).map λi=>ks.getD i (ks.headD [])
 refine this.trans (Wj ?_);refine DP (by simp) λi h1 h2=>?_
 simp[h2]
theorem Zk(rows:List Row)(i:Nat):ug rows i=(rows.map (·.2)).getD i ((rows.map (·.2)).headD []):=by
 unfold ug;cases h:rows[i]? with
 |none=>cases rows<;>simp_all [nF]
 |some r=>simp[nF,h]
theorem Qe(hn:n=rows.length)(h2:2<=n):cZ n (rM rows) (kas_sort n) λp=>KP n p/\p.toList=j6 (rows.map (·.2)):=by
 subst hn;have e:rM rows=λi j=>dg ((rows.map (·.2)).getD i ((rows.map (·.2)).headD [])) ((rows.map (·.2)).getD j ((rows.map (·.2)).headD [])):=by
  funext i j;rw[rM,Zk,Zk]
 refine(cZ.run (aal (lt:=rM rows) (N:=rows.length) (by lia))).1.mono λp hp=>⟨hp.1,?_⟩
 unfold j6;rw[aY (by rw[bC];lia),hp.2,e,bC]
theorem Ph{rows:List Row}{n:Nat}(hn:n=rows.length)(h:n<2):gC n=j6 (rows.map (·.2)):=by
 subst hn;unfold j6;rw[aZ (by rw[bC];exact h),bC]
theorem aao{rows:List Row}{p:List Nat}(h:p.Perm (gC rows.length))(hr:p=j6 (rows.map (·.2))):(p.map λi=>rows.getD i (0,[])).map (·.2)=mF (rows.map (·.2)):=by
 unfold mF;rw[<-hr,iK];refine uK λi hi=>?_
 have hlt:=ql.mp (h.mem_iff.mp hi);simp[nF,hlt]
section
variable{X:Cx}
theorem Zm(ha:∀r∈rows,TupAt s'.heap r/\r.2.map bH=sh)(hi:i<rows.length)(hj:j<rows.length)(C:Bool->aG->Prop)(q:C (rM rows i j) s'):
  kas_ask prog w A (tuples' au) (rows.map λr=>cY r.1) i j C s':=by
 refine ajT ha hi hj C ?_;have e1:ug rows i=rowAt rows i:=by simp[ug,rowAt,nF,hi]
 have e2:ug rows j=rowAt rows j:=by simp[ug,rowAt,nF,hj]
 unfold rM at q;rw[e1,e2] at q;exact q
theorem aez:je X (.builtin "sorted") (λxs H Q=>∃(p:az)(rows:List Row)(b:Bool)(sh:List Bool),xs=[.ref p]/\bK X.K H p (rows.map λr=>V.ref r.1)/\rows.length<64/\(∀r∈rows,H r.1=aj (.tup (r.2.map kV))/\r.2.map bH=b::sh)/\
  ∀(l:az)(rows':List Row),H l=ao->rows'.Perm rows->rows'.map (·.2)=mF (rows.map (·.2))->Q (.ref l) (upd H l (.lst (rows'.map λr=>V.ref r.1)))):=by
 intro pins s σ H xs us Q I r h
 obtain⟨p,rows,b,sh,rfl,hp,h64,ha,q⟩:=h
 obtain⟨u,rfl,ru⟩:=vals1 r
 cases ru
 obtain⟨its,rv,pl,_⟩:=I.list hp
 have e0:=Rn rv;subst e0;have tu:∀r∈rows,TupAt s.heap r/\r.2.map bH=b::sh:=λr hr=>by
  obtain⟨_,its,v,t⟩:=(show fH X.prog X.w H s.heap r.1 (.tup (r.2.map kV)) from I.hok r.1 _ (ha r hr).1)
  exact⟨⟨its,v,t⟩,(ha r hr).2⟩
 refine OD (κ:=tuples' au) (lt:=rM rows) (vs:=rows.map λr=>cY r.1) (Rl:=λp=>p=j6 (rows.map (·.2))) (by simpa using h64) (λh2=>Qe (by rw[bC]) h2) (λh2=>Ph (by rw[bC]) h2) (λR hR=>?_) (λh2 s' k Q' q'=>YB (λr hr=>⟨(tu r hr).1.keep k,(tu r hr).2⟩) (by rw[bC] at h2;lia) Q' q')
  (λh2 s' k i j hi hj C q'=>Zm (sh:=b::sh) (λr hr=>⟨(tu r hr).1.keep k,(tu r hr).2⟩) (by simpa using hi) (by simpa using hj) C q') λp D h' c tk hp' hrl hD k e=>?_
 .refine collect_list pl.isList (hR _ _ s.toks ?_ (λb o e=>?_) rfl)
  .rw[aeX,size_push'];lia
  .have hlt:b≠s.heap.objs.size:=dX (bN e);rw[aec _ _ _ _ hlt];exact bR _ e
 .rw[bC] at hp';rw[YC hp'] at e
  refine⟨.ref D,_,I.laid (o:=.lst ((p.map λi=>rows.getD i (0,[])).map λr=>V.ref r.1)) k hD ⟨?_,_,c,Qd _,by simpa[seqObj] using e⟩,rfl,q D _ (I.hok.fresh hD) (Qc hp') (aao hp' hrl)⟩
  rw[bC,bC,hp'.length_eq,pD,jR];lia
theorem Wk(hc:X.calm=au):je X (.builtin "sorted") (λxs H Q=>∃(d:az)(kvs:List (List Key×V))(b:Bool)(sh:List Bool),xs=[.ref d]/\H d=aj (.dT kvs)/\kvs.length<64/\(∀kv∈kvs,kv.1.map bH=b::sh)/\
  ∀(l:az)(rows:List Row),H l=ao->(rows.map (·.2)).Perm (kvs.map (·.1))->rows.map (·.2)=mF (kvs.map (·.1))->(∀r∈rows,H r.1=aj (.tup (r.2.map kV)))->Q (.ref l) (upd H l (.lst (rows.map λr=>V.ref r.1)))):=by
 intro pins s σ H xs us Q I r h
 obtain⟨d,kvs,b,sh,rfl,hd,h64,ha,q⟩:=h
 obtain⟨u,rfl,ru⟩:=vals1 r
 cases ru
 obtain⟨z,lo,ys,rel,o,es,ep,g1,g2,g3,g4,g5,g6⟩:=abZ I.hok hd
 have raw:xr s.heap d es ep:=⟨o,g1,g2,g3⟩
 obtain⟨rows,r1,r2,r3⟩:∃rows:List Row,rows.map (·.2)=kvs.map (·.1)/\(∀r∈rows,H r.1=aj (.tup (r.2.map kV)))/\es.toList.map (·.key)=rows.map λr=>cY r.1:=by
  clear g5 g6 h64 ha q z hd;rw[g4];clear g4 raw g3;induction rel with
  |nil=>exact⟨[],rfl,by simp,rfl⟩
  |@cons p q ps qs h t ih=>
   obtain⟨rows,a1,a2,a3⟩:=ih
   refine⟨(q.2.1,p.1)::rows,by simp[a1],λr hr=>?_,?_⟩
   .rcases bJ.mp hr with rfl|hr
    .exact h.2.1
    .exact a2 r hr
   .rw[cV,cV,a3];rfl
 have hlen:rows.length=kvs.length:=by
  have:=congrArg wA r1;simpa using this
 have hes:es.size=rows.length:=by
  have:=congrArg wA r3;simpa using this
 have tu:∀r∈rows,TupAt s.heap r/\r.2.map bH=b::sh:=λr hr=>by
  obtain⟨_,its,v,t⟩:=(show fH X.prog X.w H s.heap r.1 (.tup (r.2.map kV)) from I.hok r.1 _ (r2 r hr))
  have:r.2∈kvs.map (·.1):=by rw[<-r1];exact ji.mpr ⟨r,hr,rfl⟩
  obtain⟨kv,hk,e⟩:=ji.mp this
  exact⟨⟨its,v,t⟩,by rw[<-e];exact ha kv hk⟩
 refine OD (κ:=tuples' au) (lt:=rM rows) (vs:=rows.map λr=>cY r.1) (Rl:=λp=>p=j6 (rows.map (·.2))) (by rw[bC];lia) (λh2=>Qe (by rw[bC]) h2) (λh2=>Ph (by rw[bC]) h2) (λR hR=>?_) (λh2 s' k Q' q'=>YB (λr hr=>⟨(tu r hr).1.keep k,(tu r hr).2⟩) (by rw[bC] at h2;lia) Q' q')
  (λh2 s' k i j hi hj C q'=>Zm (sh:=b::sh) (λr hr=>⟨(tu r hr).1.keep k,(tu r hr).2⟩) (by simpa using hi) (by simpa using hj) C q') λp D h' c tk hp' hrl hD k e=>?_
 .refine agz (ajS (es:=es) (ep:=ep) lo) (I.ok.hd hc) raw (by rw[jR];lia) λh' tk acc hsz kk hacc=>hR _ h' tk hsz kk ?_
  refine aeA λi=>?_
  by_cases hi:i<es.size
  .have e1:acc.size=es.size:=hacc.1;have:=hacc.2 i (acc[i]'(by lia)) (by simp[e1,hi]);rw[Vw,kY (by lia)];rw[<-this,<-r3,jr,Vw]
  .have e1:acc.size=es.size:=hacc.1;rw[Dv (by simp;lia),Dv (by simp;lia)]
 .rw[bC] at hp';rw[YC hp'] at e
  refine⟨.ref D,_,I.laid (o:=.lst ((p.map λi=>rows.getD i (0,[])).map λr=>V.ref r.1)) k hD ⟨?_,_,c,Qd _,by simpa[seqObj] using e⟩,rfl,q D _ (I.hok.fresh hD) (((Qc hp').map _).trans (by rw[r1])) ((aao hp' hrl).trans (by rw[r1])) λr hr=>r2 r ((Qc hp').mem_iff.mp hr)⟩
  rw[bC,bC,hp'.length_eq,pD,jR];lia
end
abbrev vI:=List (Option aA)
def rN(H:Hp)(Γ:vI)(σ:St):Prop:=σ.length=Γ.length/\∀(i:Nat)(d:aA),Γ[i]?=aj (aj d)->∃v,σ[i]?=aj (aj v)/\RX H d v
theorem rN.same(h:rN H Γ σ)(s:bD H H'):rN H' Γ σ:=⟨h.1,λi d e=>let ⟨v,a,b⟩:=h.2 i d e;⟨v,a,b.same s⟩⟩
theorem rN.set(h:rN H Γ σ)(hv:RX H d v):rN H (Γ.set i (aj d)) (σ.set i (aj v)):=by
 refine⟨by rw[vZ,vZ];exact h.1,λj e he=>?_⟩
 by_cases hj:i=j
 .subst hj;rw[DG] at he;simp only[if_true] at he;split at he
  .rename_i hl;cases he
   refine⟨v,?_,hv⟩
   rw[DG];simp only[if_true];rw[aZ (by rw[h.1];exact hl)]
  .cases he
 .rw[zQ hj] at he;rw[zQ hj];exact h.2 j e he
def er(Z:List az)(H:Hp):Hp:=λb=>if b∈Z then ao else H b
theorem ir(h:er Z H b=aj o):H b=aj o:=by
 unfold er at h;split at h
 .cases h
 .exact h
theorem Cj(Z:List az)(H:Hp):bD (er Z H) H:=λb o h=>ir h
theorem JT(s:bD H H'):bD (er Z H) (er Z H'):=λb o h=>by
 unfold er at h⊢;split at h
 .cases h
 .rename_i n;rw[aY n];exact s _ _ h
theorem FZ(H:Hp):er [] H=H:=by
 funext b;simp[er]
def J9(t:TE)(Γ:vI)(d:aA):Prop:=∀Z σ H (Q:VK),(∀b,b∈Z->H b≠ao)->rN (er Z H) Γ σ->(∀v H',bD H H'->RX (er Z H') d v->Q v H')->t σ H Q
def aap(t:TA)(Γ:vI)(ds:List aA):Prop:=∀Z σ H (Q:List V->Hp->Prop),(∀b,b∈Z->H b≠ao)->rN (er Z H) Γ σ->(∀vs H',bD H H'->mJ (er Z H') ds vs->Q vs H')->t σ H Q
section
variable{Γ:vI}{K:aJ}
theorem J9.run(h:J9 t Γ d)(e:rN H Γ σ)(q:∀v H',bD H H'->RX H' d v->Q v H'):t σ H Q:=
 h [] σ H Q (λ_ m=>by cases m) (by rw[FZ];exact e) λv H' s r=>q v H' s (by rw[FZ] at r;exact r)
end
end L2
namespace HT
open PySem PySem.Spec PyProof.Rows
section
variable{prog:bB}{w:bA}{A:bV}{E:Value->aG->Prop}{s:aG}
theorem aed{t sl:az}{items:Array Value}{vl vu:Value}{lo hi:Option Int}{Q:Value->aG->Prop}(ht:IsTup s.heap t items)(hs:s.heap.IsSliceOf sl vl vu .none)(pl:t7 vl lo)(pu:t7 vu hi)
  (hw:cg items.size 0 lo=0/\cg items.size items.size hi=items.size)(h:Q (.ref t) s):aL (model prog w) A (wK (.ref t) (.ref sl)) Q E s:=by
 obtain⟨os,hos,hcs,hds⟩:=id hs
 have hTs:s.TypeIs (.ref sl) "slice":=⟨os,hos,hcs⟩
 unfold wK
 try with_reducible refine jL ?_
 first|refine aB (aW ?_)|skip
 refine aB (aey ht.typeIs (by decide) ?_);refine aB (qW (name:=bZ "__getitem__") ht.typeIs Lz
  (lQ Lz ht.typeIs entry_tuple_getitem ?_ (args_tuple_getitem _ _)))
 show aL _ _ (adJ (.ref t) >>= _) _ _ s;refine aB (tupleItemsOf_ ht ?_);refine aB (Ii hTs ?_);rw[aZ (by decide)];refine aB (Wb hs pl pu ?_);have hyes:((((cg items.size 0 lo:Nat):Int)==0&&(1:Int)==1&&(cg items.size items.size hi-cg items.size 0 lo)==items.size)=au):=by
  rw[hw.1,hw.2];simp
 show aL _ _ (if(((cg items.size 0 lo:Nat):Int)==0&&(1:Int)==1&&(cg items.size items.size hi-cg items.size 0 lo)==items.size)=au then _ else _) _ _ s;rw[aZ hyes];unfold aoV;refine aB (aB (Ii ht.typeIs (aW ?_)));rw[aZ (by decide)];refine aB (qp ?_);exact aW ⟨_,rfl,aW h⟩
end
end HT
namespace L2
open PySem PySem.Spec PyProof.Rows PySem.W
section
variable{X:Cx}
def anj(K:aJ):V->Option Int->Option Int->Hp->VK->Prop:=λx lo hi H Q=>∃a xs,x=.ref a/\cz K H a xs/\(rY xs lo hi=xs->Q (.ref a) H)/\∀p,H p=ao->Q (.ref p) (upd H p (.tup (rY xs lo hi)))
theorem ajV:vO X (anj X.K):=by
 intro pins s σ H x v vl vu lo hi sl Q I rx hs pl pu h
 obtain⟨a,xs,rfl,hx,q1,q2⟩:=h
 by_cases hw:HT.cg xs.length 0 lo=0/\HT.cg xs.length xs.length hi=xs.length
 .cases rx
  obtain⟨its,r,ht,hz⟩:=I.tuple hx
  have hlen:its.toArray.size=xs.length:=by rw[gB];exact r.length.symm
  refine⟨"tuple",_,PyProof.Rows.slot_tuple_getitem.lookup,ht.typeIs,?_⟩
  refine HT.aed ht hs pl pu (by rw[hlen];exact hw) ?_
  refine⟨.ref a,H,I,rfl,q1 ?_⟩
  unfold rY;rw[hw.1,hw.2];simp
 .exact ak5 pins s σ H _ v vl vu lo hi sl Q I rx hs pl pu ⟨a,xs,rfl,hx,hw,q2⟩
end
end L2
namespace HT
open PySem PySem.Spec PyProof.Rows
open Sem (wp)
open Builtin
end HT
namespace L2
open PySem PySem.Spec PyProof.Rows PySem.W
section
variable{X:Cx}
end
section
variable{Γ:vI}{K:aJ}
end
section
variable{Γ:vI}{K:aJ}
end
section
variable{Γ:vI}{K:aJ}
end
section
variable{X:Cx}
theorem ag4(hu:X.A.units+64<gJ):cX X (fj .NotEq) (λx y H Q=>∃d e,RX H d x/\RX H e y/\lg d=au/\lg e=au/\Q (.bl (!PyData.eqv d e)) H):=by
 intro pins s σ H x y v u Q I rx ry h
 obtain⟨d,e,hd,he,h1,h2,q⟩:=h
 obtain⟨as,ra⟩:=RD.reads I (hd.rd (K:=X.K)) rx
 obtain⟨bs,rb⟩:=RD.reads I (he.rd (K:=X.K)) ry
 exact ne_dataH ra rb h1 h2 hu ⟨.bl _,H,I,rfl,q⟩
end
section
variable{Γ:vI}{K:aJ}
def ali(t:TE)(Γ:vI)(d:aA):Prop:=∀σ H (Q:VK),rN H Γ σ->(∀v H',bD H H'->RX H' d v->Q v H')->t σ H Q
theorem J9.r(h:J9 t Γ d):ali t Γ d:=λσ H Q e q=>h.run e q
theorem aap.run(h:aap t Γ ds)(e:rN H Γ σ)(q:∀vs H',bD H H'->mJ H' ds vs->Q vs H'):t σ H Q:=
 h [] σ H Q (λ_ m=>by cases m) (by rw[FZ];exact e) λv H' s r=>q v H' s (by rw[FZ] at r;exact r)
end
theorem JV{xs:Array Nat}(h:xs.toList.Pairwise (·<·)){i k d:Nat}(hik:i<k)(hk:k<xs.size):xs.getD i d<xs.getD k d:=by
 have h1:=zK.mp h i k (by simpa using Og hik hk) (by simpa using hk) hik;have hi:i<xs.size:=Og hik hk;rw[sV,sV,kY hk,kY hi];simpa using h1
theorem QD{xs:Array Nat}{j:Nat}(h:xs.toList.Pairwise (·<·)):∀f lo hi,lo<=hi->hi<=xs.size->hi-lo<=f->(∀i,i<lo->xs.getD i j<j)->(∀i,hi<=i->i<xs.size->j<=xs.getD i j)->
  Hz xs j f lo hi<=xs.size/\(∀i,i<Hz xs j f lo hi->xs.getD i j<j)/\∀i,Hz xs j f lo hi<=i->i<xs.size->j<=xs.getD i j
 |0,lo,hi,h1,h2,h3,h4,h5=>by
  unfold Hz
  exact⟨by lia,h4,λi a b=>h5 i (by lia) b⟩
 |f+1,lo,hi,h1,h2,h3,h4,h5=>by
  unfold Hz;by_cases hlt:lo<hi
  .rw[aZ hlt];dsimp only;by_cases hm:xs.getD ((lo+hi) / 2) j<j
   .rw[aZ hm];refine QD h f _ _ (by lia) h2 (by lia) (λi hi'=>?_) h5;by_cases e:i=(lo+hi) / 2
    .rw[e];exact hm
    .exact Og (JV h (by lia) (by lia)) hm
   .rw[aY hm];refine QD h f _ _ (by lia) (by lia) (by lia) h4 (λi hi' hs=>?_);by_cases e:i=(lo+hi) / 2
    .rw[e];lia
    .have:=JV (d:=j) h (show(lo+hi) / 2<i by lia) hs;lia
  .rw[aY hlt]
   exact⟨by lia,h4,λi a b=>h5 i (by lia) b⟩
theorem Qf(j:Nat)(h:xs.toList.Pairwise (·<·)):jC xs j<=xs.size/\(∀i,i<jC xs j->xs.getD i j<j)/\∀i,jC xs j<=i->i<xs.size->j<=xs.getD i j:=
 QD h xs.size 0 xs.size (lz _) (bT _) (by lia) (λi hi=>by lia) (λi a b=>by lia)
theorem aaq(h:xs.toList.Pairwise (·<·)):jC xs 0=0:=by
 obtain⟨_,b,_⟩:=Qf 0 h
 cases e:jC xs 0 with
 |zero=>rfl
 |succ n=>have:=b 0 (by lia);lia
theorem X8{xs:Array Nat}(h:xs.toList.Pairwise (·<·)){i:Nat}(hi:i<xs.size):jC xs (xs[i]+1)=i+1:=by
 obtain⟨a,b,c⟩:=Qf (xs[i]+1) h
 have e:∀k d,(hk:k<xs.size)->xs.getD k d=xs[k]:=λk d hk=>by rw[sV,kY hk];rfl
 have mono:∀p q,(hp:p<xs.size)->(hq:q<xs.size)->p<q->xs[p]<xs[q]:=λp q hp hq pq=>by
  have:=JV (d:=0) h pq hq
  rwa [e p 0 hp,e q 0 hq] at this
 by_cases h1:jC xs (xs[i]+1)<=i
 .have:=c i h1 hi;rw[e i _ hi] at this;lia
 .by_cases h2:jC xs (xs[i]+1)=i+1
  .exact h2
  .have hs:i+1<xs.size:=by lia
   have:=b (i+1) (by lia);rw[e _ _ hs] at this;have:=mono i (i+1) hi hs (by lia);lia
structure jJ(b:Bool)(t:u5):Prop where
 led:t.led=b
 UL:t.dummies=#[]
 UT:t.place.toList.Pairwise (·<·)
theorem jJ.standIn(h:jJ b t)(n:Nat):jJ b (t.standIn n):=⟨h.led,rfl,by simpa[SetTable.standIn] using adU⟩
theorem jJ.orStandIn(h:jJ b t)(n:Nat):jJ b (t.orStandIn n):=by
 unfold SetTable.orStandIn;split
 .exact h
 .exact h.standIn n
theorem has_none(j:Nat):af0 #[] j=aD:=rfl
theorem Yb(hd:t.dummies=#[])(f:Nat->Int)(h:Int):∀fuel (p:SetTable.Probe) j d,p.dummy=ao->V1 t f h fuel p=aj (.empty j d)->d=ao/\t.slot j=.empty
 |0,p,j,d,_,e=>by simp[V1] at e
 |fuel+1,p,j,d,hp,e=>by
  unfold V1 at e;have adv:(t.advance p).dummy=ao:=by
   unfold SetTable.advance;split<;>exact hp
  cases hs:t.slot p.j with
  |empty=>
   rw[hs] at e;simp only[Mu,apl] at e
   exact⟨by rw[<-e.2];exact hp,by rw[<-e.1];exact hs⟩
  |dummy=>
   unfold afB at hs;rw[hd] at hs;simp only[has_none] at hs;split at hs
   .cases hs
   .simp at hs
  |live i=>
   rw[hs] at e;simp only at e;split at e
   .cases e
   .exact Yb hd f h fuel _ j d adv e
theorem ag5{xs:Array Nat}{j:Nat}(h:xs.toList.Pairwise (·<·))(hn:xs[jC xs j]?≠aj j):(SetTable.insertAt xs (jC xs j) j).toList.Pairwise (·<·):=by
 obtain⟨a,b,c⟩:=Qf j h
 rw[SetTable.toList_insertAt];have h':=h;rw[<-List.take_append_drop (jC xs j) xs.toList,ad5] at h'
 obtain⟨h1,h2,h3⟩:=h'
 have e:∀k d,(hk:k<xs.size)->xs.getD k d=xs.toList[k]'(by simpa using hk):=λk d hk=>by rw[sV,kY hk];simp
 have lo:∀x,x∈xs.toList.take (jC xs j)->x<j:=λx hx=>by
  obtain⟨i,hi,rfl⟩:=Dw hx
  have hi':i<jC xs j:=by simp at hi;lia
  have:=b i hi';rw[e i j (by lia)] at this;rw[List.getElem_take];exact this
 have hi:∀x,x∈xs.toList.drop (jC xs j)->j<x:=λx hx=>by
  obtain⟨i,hi,rfl⟩:=Dw hx
  have hs:jC xs j+i<xs.size:=by simp at hi;lia
  have h0:=c (jC xs j) (bT _) (by lia);have ne:xs.getD (jC xs j) j≠j:=λz=>hn (by
   have hb:jC xs j<xs.size:=by lia
   rw[sV,kY hb] at z;rw[kY hb];simpa using z)
  rw[List.getElem_drop,<-e _ j hs];by_cases z:i=0
  .subst z;simp only[Nat.add_zero];lia
  .have:=JV (d:=j) h (show jC xs j<jC xs j+i by lia) hs;lia
 rw[ad5]
 refine⟨h1,qY.mpr ⟨hi,h2⟩,λx hx y hy=>?_⟩
 rcases bJ.mp hy with rfl|hy
 .exact lo x hx
 .exact h3 x hx y hy
theorem jJ.layNew(h:jJ b t)(es:Array (Int×Value))(hs:Int)(x:Value):jJ b (layNew t es hs x).2.1:=by
 unfold PySem.layNew;cases hf:t.freeSlot hs with
 |none=>exact h.standIn _
 |some q=>
  obtain⟨slot,wd⟩:=q
  have free:t.slot slot=.empty:=by
   unfold SetTable.freeSlot at hf;split at hf
   .rename_i j d hp
    obtain⟨rfl,hj⟩:=Yb h.UL _ _ _ _ _ _ rfl hp
    simp only[Mu,afC] at hf;rw[<-hf.1];exact hj
   .cases hf
  have hn:t.place[jC t.place slot]?≠aj slot:=λz=>by
   unfold afB at free;simp[z] at free
  show jJ b ((t.put slot).1.orStandIn _);refine jJ.orStandIn (t:=(t.put slot).1) ⟨h.led,?_,ag5 h.UT hn⟩ _
  show(if af0 t.dummies slot then _ else t.dummies)=#[]
  rw[h.UL];rfl
theorem jJ.relayAll(h:jJ b t)(es:Array (Int×Value))(n:Nat):jJ b (relayAll t es n).2.1:=by
 unfold HJ;split
 .rename_i t' order hr;dsimp only;split
  .unfold SetTable.relaid SetTable.laid at hr;cases ho:SetTable.layClean (SetTable.sizeAbove n-1) (es.map (·.1)) with
   |none=>simp[ho] at hr
   |some owner=>
    simp only[ho,Option.bind_eq_bind,j4,Option.pure_def,Mu,afC] at hr;rw[<-hr.1]
    refine⟨h.led,rfl,?_⟩
    simp only[List.map_filterMap];refine apq _ (λx y hxy=>?_) adU;intro u hu v hv;simp only[zO] at hu hv
    obtain⟨p,⟨_,_,rfl⟩,rfl⟩:=hu
    obtain⟨q,⟨_,_,rfl⟩,rfl⟩:=hv
    exact hxy
  .exact h.standIn _
 .exact h.standIn _
theorem jJ.plain(h:jJ b t)(v:Bool):jJ b {t with plain:=v}:=⟨h.led,h.UL,h.UT⟩
theorem jJ.fresh(b:Bool):jJ b (.fresh 0 0 b):=⟨rfl,rfl,.nil⟩
end L2
namespace L2
open PySem PySem.Spec PySem.W
section
variable{prog:bB}{w:bA}{T:Type}[DecidableEq T](knd:yh prog w T)
def bt(w:bA):Bool:=!(w.params.followText "set-order")
inductive j9:List (Int×Value)->List T->Prop
 |nil:j9 [] []
 |cons {e:Int×Value} {k:T} {es:List (Int×Value)} {ks:List T}:(knd.is k e.2=au/\e.1=knd.hash k/\e.2.scannable=au)->j9 es ks->j9 (e::es) (k::ks)
def nW(h:bh)(a:az)(ks:List T):Prop:=∃o es ep t,h.get? a=aj o/\o.ExactSet/\o.data=.set es ep t/\(∃ks',j9 knd es.toList ks'/\ks'.Perm ks)/\es.size<qt/\t.fits es.size=au/\jJ (bt w) t
def lB(ks:List T)(k:T):List T:=if k∈ks then ks else ks++[k]
variable{knd}
theorem j9.elems(h:j9 knd es ks):ElemsOf knd es:=by
 induction h with
 |nil=>intro e he;cases he
 |cons a _ ih=>
  intro e he;rcases bJ.mp he with rfl|he
  .exact⟨⟨_,a.1,a.2.1⟩,a.2.2⟩
  .exact ih e he
theorem j9.len(h:j9 knd es ks):es.length=ks.length:=by
 induction h with
 |nil=>rfl
 |cons _ _ ih=>simp[ih]
theorem j9.perm(p:es'.Perm es):∀{ks:List T},j9 knd es ks->∃ks',j9 knd es' ks'/\ks'.Perm ks:=by
 induction p with
 |nil=>intro ks h;exact⟨ks,h,.refl _⟩
 |cons x _ ih=>
  intro ks h;cases h with
  |cons a r=>
   obtain⟨ks',h1,h2⟩:=ih r
   exact⟨_::ks',.cons a h1,h2.cons _⟩
 |swap x y l=>
  intro ks h;cases h with
  |cons a r=>
   cases r with
   |cons b r=>exact⟨_::_::_,.cons b (.cons a r),.swap ..⟩
 |trans _ _ ih1 ih2=>
  intro ks h
  obtain⟨k2,h1,p1⟩:=ih2 h
  obtain⟨k3,h2,p2⟩:=ih1 h1
  exact⟨k3,h2,p2.trans p1⟩
theorem j9.push(h:j9 knd es ks)(hk:knd.is k x=au)(hx:x.scannable=au):j9 knd (es++[(knd.hash k,x)]) (ks++[k]):=by
 induction h with
 |nil=>exact .cons ⟨hk,rfl,hx⟩ .nil
 |cons a _ ih=>exact .cons a ih
theorem j9.mem(h:j9 knd es ks)(hm:x∈es)(hp:knd.is k x.2=au):k∈ks:=by
 induction h with
 |nil=>cases hm
 |cons a _ ih=>
  rcases bJ.mp hm with rfl|hm
  .cases knd.inj _ _ _ hp a.1;exact dj ..
  .exact dB _ (ih hm)
theorem j9.none(h:j9 knd es ks)(e:es.findIdx? (λe=>knd.is k e.2)=.none):k∉ks:=by
 have e':=List.findIdx?_eq_none_iff.mp e;clear e;induction h with
 |nil=>intro h;cases h
 |cons a _ ih=>
  intro hm;rcases bJ.mp hm with rfl|hm
  .have:=e' _ (dj ..);rw[a.1] at this;cases this
  .exact ih (λx hx=>e' x (dB _ hx)) hm
variable{A:bV}{E:Value->aG->Prop}{s:aG}
theorem aar{h:bh}{a:az}{o:Obj}{es es':Array (Int×Value)}{ep:Nat}{t t':u5}{ks:List T}(ho:h.get? a=aj o)(ex:o.ExactSet)(hd:o.data=.set es ep t)(e:∃ks',j9 knd es'.toList ks'/\ks'.Perm ks)
  (hb:es'.size<qt)(hf:t'.fits es'.size=au)(tb:jJ (bt w) t'):
  ∃o',(h.update a (Pj es' t')).get? a=aj o'/\o'.ExactSet/\o'.data=.set es' (ep+1) t'/\nW knd (h.update a (Pj es' t')) a ks:=by
 have g:=sW (Pj es' t') ho (by rw[putSet_of es' t' hd];rfl);rw[putSet_of es' t' hd] at g
 exact⟨_,g,ex,rfl,_,es',ep+1,t',g,ex,rfl,e,hb,hf,tb⟩
theorem ajW{a:az}{k:T}{x:Value}{ks:List T}{Q:Bool->aG->Prop}(hk:knd.is k x=au)(hx:x.scannable=au)(hS:nW knd s.heap a ks)(room:ks.length+1<qt)
  (h:∀b h',uO a s.heap h'->nW knd h' a (lB ks k)->Q b {s with heap:=h'}):aL (model prog w) A (setAddHashed a x (knd.hash k)) Q E s:=by
 obtain⟨o,es,ep,t,ho,ex,hd,⟨k0,ek,pk⟩,hb,hf,tb⟩:=hS
 have sz:es.size=ks.length:=by rw[<-kZ,ek.len,pk.length_eq]
 have el:=ek.elems;have mono:∀{u:Unit->aG->Prop}{s1:aG}(g:Bool),u () s1->∀r:Sem Unit,(r=rule "set.scan.the-table-gave-way"\/r=pure ())->aL (model prog w) A r u E s1:=λg hu r hr=>by
  rcases hr with rfl|rfl
  .exact qp hu
  .exact aW hu
 unfold setAddHashed setAddHashedIn;refine jL (aB (DK ho hd hf ?_));simp only[byScan_of hx hb el,if_true];unfold setAddByScan;refine aB (aB (qp (aB (wpAny_setScan_of hk ho hd hf el ?_))));cases hr:es.toList.findIdx? (λe=>knd.is k e.2) with
 |some j=>
  obtain⟨hj,hp,_⟩:=List.findIdx?_eq_some_iff_getElem.mp hr
  have hm:k∈ks:=pk.mem_iff.mp (ek.mem (vY hj) hp);refine aW (aW (h _ s.heap (Mv a s.heap) ?_));rw[lB,aZ hm]
  exact⟨o,es,ep,t,ho,ex,hd,⟨k0,ek,pk⟩,hb,hf,tb⟩
 |none=>
  have hm:k∉ks:=λz=>ek.none hr (pk.mem_iff.mpr z)
  have pn:=layNew_perm t es (knd.hash k) x;have fn:=layNew_fits t es (knd.hash k) x;have tn:=tb.layNew es (knd.hash k) x;dsimp only;generalize layNew t es (knd.hash k) x=L at pn fn tn⊢
  obtain⟨es1,t1,wd,gv⟩:=L
  dsimp only at pn fn tn⊢;rw[V2] at pn
  obtain⟨k1,e1,p1⟩:=(ek.push hk hx).perm pn
  have ak:lB ks k=ks++[k]:=by rw[lB,aY hm]
  have q1:∃ks',j9 knd es1.toList ks'/\ks'.Perm (lB ks k):=⟨k1,e1,by rw[ak];exact p1.trans (pk.append_right _)⟩
  have sG:es1.size=es.size+1:=by rw[<-kZ,pn.length_eq,lO,kZ];rfl
  have b1:es1.size<qt:=by lia
  refine aB (mono gv ?_ _ (by cases gv<;>first|exact .inl rfl|exact .inr rfl));have tail:∀t2:u5,t2.fits es1.size=au->jJ (bt w) t2->aL (model prog w) A (do
    storeSet a es1 t2
    if(!wd&&t2.tooFull)=au then do
      (match(HJ t2 es1 (z9 es1.size)).2.2 with|true=>rule "set.scan.the-table-gave-way" |false=>pure ())
      storeSet a (HJ t2 es1 (z9 es1.size)).1 (HJ t2 es1 (z9 es1.size)).2.1
      pure (aj au)
     else pure (aj au)) (λr s'=>aL (model prog w) A (match r with|some added=>pure added|none=>setAddHashedIn a x (knd.hash k) 99999) Q E s') E s:=λt2 f2 tb2=>by
   obtain⟨o1,g1,ex1,d1,S1⟩:=aar (knd:=knd) ho ex hd q1 b1 f2 tb2
   refine aB (aeB ho hd ?_ (V3 b1));have Ck:=pB s.heap a (Pj es1 t2);split
   .have pr:=relayAll_perm t2 es1 (z9 es1.size);have fr:=relayAll_fits t2 es1 (z9 es1.size);have tr:=tb2.relayAll es1 (z9 es1.size);generalize HJ t2 es1 (z9 es1.size)=L2 at pr fr tr⊢
    obtain⟨es2,t3,gv2⟩:=L2
    dsimp only at pr fr tr⊢
    obtain⟨k2,e2,p2⟩:=q1
    obtain⟨k3,e3,p3⟩:=e2.perm pr
    have sz2:es2.size=es1.size:=by rw[<-kZ,pr.length_eq,kZ]
    have b2:es2.size<qt:=by lia
    refine aB (mono gv2 ?_ _ (by cases gv2<;>first|exact .inl rfl|exact .inr rfl));refine aB (aeB g1 d1 ?_ (V3 b2))
    obtain⟨_,_,_,_,S2⟩:=aar (knd:=knd) g1 ex1 d1 ⟨k3,e3,p3.trans p2⟩ b2 fr tr
    exact aW (aW (h _ _ (Ck.trans (pB ..)) S2))
   .exact aW (aW (h _ _ Ck S1))
  split
  .refine aB ?_;rw[hashByValue_scannable 8 hx];refine aW ?_;by_cases hv:plainKind x=au
   .simp only[hv,if_true];exact tail t1 fn tn
   .simp only[hv,kE,if_false];exact tail _ (SetTable.fits_plain_off fn) (tn.plain aD)
  .refine aB (aW ?_);simp only[if_true];exact tail t1 fn tn
end
section
variable{T:Type}[DecidableEq T]
def dedup(ks:List T):List T:=ks.foldl lB []
theorem ag6(ks:List T)(k:T):dedup (ks++[k])=lB (dedup ks) k:=by simp[dedup,aeC]
theorem aiH{ks:List T}{k x:T}:x∈lB ks k↔x∈ks\/x=k:=by
 unfold lB;split
 .rename_i h
  exact⟨.inl,λz=>z.elim id λe=>e▸h⟩
 .simp
theorem Wz{x:T}:∀(ks as:List T),x∈ks.foldl lB as↔x∈as\/x∈ks
 |[],as=>by simp
 |k::ks,as=>by rw[DR,Wz,aiH,bJ,or_assoc]
theorem ahM{ks:List T}{x:T}:x∈dedup ks↔x∈ks:=by
 rw[dedup,Wz];simp
theorem ag7{ks:List T}{k:T}(h:ks.Nodup):(lB ks k).Nodup:=by
 unfold lB;split
 .exact h
 .rename_i hk;exact lD.mpr ⟨h,by simp,λa ha b hb=>by rw[jB] at hb;rintro rfl;exact hk (hb▸ha)⟩
theorem Wd:∀(ks as:List T),as.Nodup->(ks.foldl lB as).Nodup
 |[],_,h=>h
 |k::ks,_,h=>Wd ks _ (ag7 h)
theorem agA(ks:List T):(dedup ks).Nodup:=Wd ks [] .nil
theorem aiI(ks:List T)(k:T):(lB ks k).length<=ks.length+1:=by
 unfold lB;split<;>simp
theorem WD:∀(ks as:List T),(ks.foldl lB as).length<=as.length+ks.length
 |[],_=>by simp
 |k::ks,as=>by
  have h1:=WD ks (lB as k);have h2:=aiI as k;simp only[DR,dD];lia
theorem Qg(ks:List T):(dedup ks).length<=ks.length:=by simpa[dedup] using WD ks []
end
section
variable{prog:bB}{w:bA}{T:Type}[DecidableEq T]{knd:yh prog w T}{A:bV}{E:Value->aG->Prop}{s:aG}
theorem nW.at(H:nW knd h a ks)(e:∀o,h.get? a=aj o->h'.get? a=aj o):nW knd h' a ks:=
 let ⟨o,es,ep,t,ho,r⟩:=H
 ⟨o,es,ep,t,e o ho,r⟩
theorem nW.lt(H:nW knd h a ks):a<h.objs.size:=let ⟨_,_,_,_,ho,_⟩:=H;bN ho
theorem nW.ty(H:nW knd s.heap a ks):s.TypeIs (.ref a) "set":=let ⟨o,_,_,_,ho,ex,_⟩:=H;⟨o,ho,ex.1⟩
end
section
variable{prog:bB}{w:bA}{T:Type}[DecidableEq T]{knd:yh prog w T}{A:bV}{E:Value->aG->Prop}{s:aG}
def qN(w:bA):Obj:={cls:=.type "set",dict:=ao,data:=.set #[] 0 (.fresh 0 0 (bt w))}
theorem alj(g:h.get? a=aj (qN w)):nW knd h a []:=⟨_,#[],0,_,g,⟨rfl,rfl,rfl⟩,rfl,⟨[],.nil,.refl _⟩,by decide,rfl,jJ.fresh _⟩
end
theorem Zn:Manifest.owners.lookup (String.ofList "rotareti_tes".toList.reverse)=aj Manifest.sig_set_iterator:=by kernel_rfl
theorem rE:Slot "set_iterator" "__next__" "set_iterator.__next__":=.of (owner:="set_iterator") (n:="__next__") (by rw[typeLookup_type,ad0];kernel_rfl) (by decide +kernel) (by decide +kernel) (by decide +kernel) (by first|exact .inl (by decide +kernel)|exact .inr (by decide +kernel)) (by rw[WK];kernel_rfl)
theorem aas:Slot "set_iterator" "__iter__" "set_iterator.__iter__":=.of (owner:="set_iterator") (n:="__iter__") (by rw[typeLookup_type,ad0];kernel_rfl) (by decide +kernel) (by decide +kernel) (by decide +kernel) (by first|exact .inl (by decide +kernel)|exact .inr (by decide +kernel)) (by rw[WK];kernel_rfl)
theorem Ji:QF table "set_iterator.__next__"=aj lW.«set_iterator.__next__»:=entryFor_of_tree (by kernel_rfl)
theorem ahN:QF table "set_iterator.__iter__"=aj lW.«dict_keyiterator.__iter__»:=entryFor_alias (id':="dict_keyiterator.__iter__") (by kernel_rfl) rfl (by decide +kernel) (by kernel_rfl)
theorem ag8:QF table "set.__iter__"=aj lW.«frozenset.__iter__»:=entryFor_alias (id':="frozenset.__iter__") (by kernel_rfl) rfl (by decide +kernel) (by kernel_rfl)
theorem Jj(a:Value):yJ "set_iterator.__next__" ⟨[a],[]⟩:=by
 unfold yJ;rw[signature?_of (id:="set_iterator.__next__") (n:="__txen__".toList) (o:="rotareti_tes".toList) (by kernel_rfl) Zn];kernel_rfl
theorem ahO(a:Value):yJ "set_iterator.__iter__" ⟨[a],[]⟩:=by
 unfold yJ;rw[signature?_of (id:="set_iterator.__iter__") (n:="__reti__".toList) (o:="rotareti_tes".toList) (by kernel_rfl) Zn];kernel_rfl
section
variable{prog:bB}{w:bA}{A:bV}{E:Value->aG->Prop}{s:aG}{it S:az}{es:Array (Int×Value)}{ep i n:Nat}{t:u5}{first:Value}
def mG(b:Bool)(h:bh)(a:az)(es:Array (Int×Value))(ep:Nat)(t:u5):Prop:=∃o,h.get? a=aj o/\o.ExactSet/\o.data=.set es ep t/\t.fits es.size=au/\jJ b t
theorem mG.at(H:mG b h a es ep t)(e:∀o,h.get? a=aj o->h'.get? a=aj o):mG b h' a es ep t:=let ⟨o,ho,r⟩:=H;⟨o,e o ho,r⟩
def kW(h:bh)(it S:az)(first:Value)(i n ep:Nat):Prop:=∃o,h.get? it=aj o/\o.cls=.type "set_iterator"/\o.data=.fields #[first,iC i,.ref S,iC n,iC ep]
theorem kW.at(H:kW h it S first i n ep)(e:∀o,h.get? it=aj o->h'.get? it=aj o):kW h' it S first i n ep:=let ⟨o,ho,r⟩:=H;⟨o,e o ho,r⟩
theorem kW.ty(H:kW s.heap it S first i n ep):s.TypeIs (.ref it) "set_iterator":=let ⟨o,ho,c,_⟩:=H;⟨o,ho,c⟩
theorem kW.set{h:bh}{j:Nat}{x:Value}{vs:Array Value}{o:Obj}(ho:h.get? it=aj o)(hc:o.cls=.type "set_iterator")(hd:o.data=.fields vs):
  ∃o',(h.update it (W7 (·.setIfInBounds j x))).get? it=aj o'/\o'.cls=.type "set_iterator"/\o'.data=.fields (vs.setIfInBounds j x):=
 ⟨_,sW _ ho (Vv (Dy hd _)),(V0 ..).trans hc,by rw[Dy hd]⟩
theorem Rp(hit:kW s.heap it S first i n ep)(h:Q (.ref it) s):aL (model prog w) A (Bt (.ref it)) Q E s:=by
 refine VR hit.ty aas (lQ aas hit.ty ahN (show aL _ _ (ret (.ref it)) _ _ s from ?_) (ahO _));exact aW ⟨_,rfl,"set_iterator",_,hit.ty,rE.lookup,h⟩
theorem aat{Q:Option Value->aG->Prop}{slot:Nat}{R:Option (Value×Nat)}(hit:kW s.heap it S (iC slot) i n ep)(hs:mG (bt w) s.heap S es ep t)(hn:n=es.size)(ne:S≠it)
  (nx:∀{B:bV}{E':Value->aG->Prop}{C:Option (Value×Nat)->aG->Prop},C R s->aL (model prog w) B (Fo S slot i ep) C E' s){x:Value}{nxt:Nat}(hR:R=aj (x,nxt))
  (h:∀h',kW h' it S (iC nxt) (i+1) n ep->uO it s.heap h'->Q (aj x) {s with heap:=h'}):aL (model prog w) A (jn (.ref it)) Q E s:=by
 obtain⟨o,ho,hc,hd⟩:=id hit
 obtain⟨os,hos,exs,hds,hf,tb⟩:=id hs
 unfold jn;refine aB (yj (qW (name:=bZ "__next__") hit.ty rE (lQ rE hit.ty Ji ?_ (Jj _))));unfold lW.«set_iterator.__next__»;refine aB (aW (aB (ye ho hd ?_)));dsimp only[iC];refine aB (Hr hos hds hf ?_);subst hn;subst hR;rw[aY (by simp)];refine aB (nx ?_);dsimp only;refine aB (uN ho hd (by simp) ?_)
 obtain⟨o1,g1,c1,d1⟩:=kW.set (j:=0) (x:=.int nxt 0) ho hc hd
 refine aB (uN g1 d1 (by simp) ?_)
 obtain⟨o2,g2,c2,d2⟩:=kW.set (j:=1) (x:=.int (i+1) 0) g1 c1 d1
 refine aW ⟨_,rfl,aW (h _ ⟨o2,g2,c2,?_⟩ ((pB ..).trans (pB ..)))⟩;rw[d2];simp[iC]
theorem aau(hh:A.handled=ao)(h:∀h',(∀b o,s'.heap.get? b=aj o->h'.get? b=aj o)->Q ao {s' with heap:=h'}):
  aL (model prog w) A.in1 (do let e <-FW (.type "StopIteration") [];(Qz e:Sem Fin)) (λfin s1=>∃v,fin=Fin.done (Flow.ret v)/\aL (model prog w) A (pure (aj v)) Q E s1)
   (λe s1=>aL (model prog w) A (do if(<-isInstance e (Eo "StopIteration"))=au then pure ao else throw e) Q E s1) s':=by
 refine aB ?_;simp only[FW,Qy];refine aB (j0 ?_ (by size_fits));refine aB (m:=DY _ _) (Io (a:=jw) (by first|rfl|(simp only[DY];rfl)) ?_);refine j0 ?_ (by size_fits);simp only[Qz];refine aB (W8 ?_);rw[show A.in1.handled=ao from hh];refine aB (aW (Xy ?_));refine aB (MK (T:="StopIteration") (b:=au) ⟨_,fV _ rfl,rfl⟩ Wy ?_);exact aW (h _ λb o e=>bR _ (bR _ e))
theorem abl{Q:Option Value->aG->Prop}{slot:Nat}(hh:A.handled=ao)(hit:kW s.heap it S (iC slot) i n ep)(hs:mG (bt w) s.heap S es ep t)(hn:n=es.size)
  (nx:∀{B:bV}{E':Value->aG->Prop}{C:Option (Value×Nat)->aG->Prop},C ao s->aL (model prog w) B (Fo S slot i ep) C E' s)
  (h:∀h',(∀b o,b≠it->s.heap.get? b=aj o->h'.get? b=aj o)->Q ao {s with heap:=h'}):aL (model prog w) A (jn (.ref it)) Q E s:=by
 obtain⟨o,ho,hc,hd⟩:=id hit
 obtain⟨os,hos,exs,hds,hf,tb⟩:=id hs
 unfold jn;refine aB (yj (qW (name:=bZ "__next__") hit.ty rE (lQ rE hit.ty Ji ?_ (Jj _))));unfold lW.«set_iterator.__next__»;refine aB (aW (aB (ye ho hd ?_)));dsimp only[iC];refine aB (Hr hos hds hf ?_);subst hn;rw[aY (by simp)];refine aB (nx ?_);dsimp only;refine aB (uN ho hd (by simp) ?_);exact aau hh λh' kk=>h h' λb o hb e=>kk b o (((pB ..).2 b hb).trans e)
end
section
variable{prog:bB}{w:bA}{A:bV}{E:Value->aG->Prop}{s:aG}{it S:az}{es:Array (Int×Value)}{ep i n:Nat}{t:u5}{first:Value}
theorem JW(h:Q (!bt w) s):aL (model prog w) A Yc Q E s:=by
 unfold Yc;refine aB (MN (aW ?_));have h':Q (w.params.followText "set-order") s:=by simpa[bt] using h
 exact h'
theorem Pk:∀{l:List α}{j:Nat}(h:j<l.length),(l[j]::l.eraseIdx j).Perm l
 |[],j,h=>by cases h
 |a::l,0,h=>.refl _
 |a::l,j+1,h=>by
  have:=Pk (l:=l) (j:=j) (by simpa using h);simp only[List.getElem_cons_succ,List.eraseIdx_cons_succ]
  exact(WL ..).trans (this.cons a)
theorem YF(hs:mG (bt w) s.heap S es ep t)(hb:bt w=au)(nd:(!t.plain&&decide (es.size>1))=aD)
  (h:C (match es[jC t.place slot]?,t.place[jC t.place slot]? with|some (_,x),some j=>aj (x,j+1)|_,_=>ao) s):aL (model prog w) A (Fo S slot i ep) C E s:=by
 obtain⟨o,ho,ex,hd,hf,tb⟩:=hs
 unfold Fo;refine aB (DK ho hd hf ?_);refine aB (JW ?_);rw[hb];simp only[afD,kE,if_false];refine Nb (λz=>?_) (λ_=>?_)
 .have z':(!t.plain&&decide (es.size>1))=au:=z;rw[nd] at z';cases z'
 refine aB (show aL _ _ (if(!t.led&&!es.isEmpty)=au then _ else _) _ _ _ from ?_);rw[tb.led,hb];simp only[afD,Wv,kE,if_false];exact aW (aW h)
theorem YG(hs:mG (bt w) s.heap S es ep t)(hb:bt w=aD)
  (h:C (((yt (w.params.setOrder S ep) es)[i]?).map λe=>(e.2,slot)) s):aL (model prog w) A (Fo S slot i ep) C E s:=by
 obtain⟨o,ho,ex,hd,hf,tb⟩:=hs
 unfold Fo;refine aB (DK ho hd hf ?_);refine aB (JW ?_);rw[hb];simp only[afe,if_true,bne_self_eq_false,kE,if_false];refine aB ?_;unfold setWalk;refine aB (DK ho hd hf ?_);refine aB (JW ?_);rw[hb];simp only[afe,if_true];refine aB (MN (aW ?_));exact aW h
theorem aav(f:Nat->Nat):∀(m k:Nat)(left:List α)(out:Array α),left.length=m->(Xl f m k left out).toList.Perm (out.toList++left)
 |0,k,left,out,h=>by
  unfold Xl;rw[adP.mp h];simp
 |m+1,k,left,out,h=>by
  unfold Xl;have hl:f k%left.length<left.length:=Nat.mod_lt _ (by lia);rw[iI hl];dsimp only
  refine(aav f m (k+1) _ _ (by rw[ad6];simp[hl];lia)).trans ?_
  rw[V2,qg];refine ad1 _ ?_;exact Pk hl
theorem Qh(f:Nat->Nat)(xs:Array α):(yt f xs).toList.Perm xs.toList:=by
 have:=aav f xs.size 0 xs.toList #[] (by simp);simpa[yt] using this
theorem aiJ(hm:m≠0)(h:∀j d,j<m->Q j {s with drawn:=d}):aL (model prog w) A (choose src m) Q E s:=λΓ p _=>⟨hm,h _ _ (Nat.mod_lt _ (Nat.pos_of_ne_zero hm))⟩
theorem Zo:∀(m:Nat)(xs:List α)(s:aG)(Q:List α->aG->Prop),xs.length=m->(∀ys d,ys.Perm xs->Q ys {s with drawn:=d})->aL (model prog w) A (drawOrder m xs) Q E s
 |0,xs,s,Q,hl,h=>by
  unfold drawOrder;rw[adP.mp hl] at h;exact aW (h [] s.drawn (.refl _))
 |m+1,[],s,Q,hl,h=>by cases hl
 |m+1,x::xs,s,Q,hl,h=>by
  unfold drawOrder;refine aB (aiJ (by simp) λj d hj=>?_);rw[iI hj];dsimp only;refine aB (Zo m _ _ _ (by rw[ad6,aZ hj];simpa using hl) λys d' hp=>?_);exact aW (h _ d' ((hp.cons _).trans (Pk hj)))
end
section
variable{prog:bB}{w:bA}{A:bV}{E:Value->aG->Prop}{s:aG}{it S pl:az}{es:Array (Int×Value)}{ep i n:Nat}{t:u5}{ps:List Nat}
def Dh(h:bh)(pl:az)(ps:List Nat):Prop:=∃o c,h.get? pl=aj o/\o.data=.seq (ps.map λk:Nat=>iC k).toArray c
theorem Dh.at(H:Dh h pl ps)(e:∀o,h.get? pl=aj o->h'.get? pl=aj o):Dh h' pl ps:=let ⟨o,c,ho,r⟩:=H;⟨o,c,e o ho,r⟩
theorem ajX(hit:kW s.heap it S (.ref pl) i n ep)(hs:mG (bt w) s.heap S es ep t)(hp:Dh s.heap pl ps)(hn:n=es.size)(hk:ps[i]?=aj k)(he:es[k]?=aj e)
  (h:∀h',kW h' it S (.ref pl) (i+1) n ep->uO it s.heap h'->Q (aj e.2) {s with heap:=h'}):aL (model prog w) A (jn (.ref it)) Q E s:=by
 obtain⟨o,ho,hc,hd⟩:=id hit
 obtain⟨os,hos,exs,hds,hf,tb⟩:=id hs
 obtain⟨op,cp,hop,hdp⟩:=hp
 unfold jn;refine aB (yj (qW (name:=bZ "__next__") hit.ty rE (lQ rE hit.ty Ji ?_ (Jj _))));unfold lW.«set_iterator.__next__»;refine aB (aW (aB (ye ho hd ?_)));dsimp only[iC];refine aB (Hr hos hds hf ?_);subst hn;rw[aY (by simp)];refine aB (oJ hop hdp ?_);dsimp only;rw[show((ps.map λk:Nat=>iC k).toArray)[((i:Int)).toNat]?=aj (.int (k:Int) 0) by simp[hk,iC]];dsimp only;refine aB ?_;unfold setNextDrawn;refine aB (DK hos hds hf ?_);simp only[zR,bne_self_eq_false,kE,if_false,he];refine aW (aB (uN ho hd (by simp) ?_))
 obtain⟨o1,g1,c1,d1⟩:=kW.set (j:=1) (x:=.int (i+1) 0) ho hc hd
 refine aW ⟨_,rfl,aW (h _ ⟨o1,g1,c1,?_⟩ (pB ..))⟩;rw[d1];simp[iC]
theorem alk(hh:A.handled=ao)(hit:kW s.heap it S (.ref pl) i n ep)(hs:mG (bt w) s.heap S es ep t)(hp:Dh s.heap pl ps)(hn:n=es.size)(hk:ps.length<=i)
  (h:∀h',(∀b o,b≠it->s.heap.get? b=aj o->h'.get? b=aj o)->Q ao {s with heap:=h'}):aL (model prog w) A (jn (.ref it)) Q E s:=by
 obtain⟨o,ho,hc,hd⟩:=id hit
 obtain⟨os,hos,exs,hds,hf,tb⟩:=id hs
 obtain⟨op,cp,hop,hdp⟩:=hp
 unfold jn;refine aB (yj (qW (name:=bZ "__next__") hit.ty rE (lQ rE hit.ty Ji ?_ (Jj _))));unfold lW.«set_iterator.__next__»;refine aB (aW (aB (ye ho hd ?_)));dsimp only[iC];refine aB (Hr hos hds hf ?_);subst hn;rw[aY (by simp)];refine aB (oJ hop hdp ?_);dsimp only;rw[show((ps.map λk:Nat=>iC k).toArray)[((i:Int)).toNat]?=ao by simp[hk]];dsimp only;refine aB (uN ho hd (by simp) ?_)
 obtain⟨o1,g1,c1,d1⟩:=kW.set (j:=0) (x:=.int 0 0) ho hc hd
 refine aB (uN g1 d1 (by simp) ?_);exact aau hh λh' kk=>h h' λb o hb e=>kk b o ((((pB ..).trans (pB ..)).2 b hb).trans e)
theorem ahP(hh:A.handled=ao)(ne:S≠it)(hb:bt w=au)(nd:(!t.plain&&decide (es.size>1))=aD)(hz:t.place.size=es.size)(rs:t.place.toList.Pairwise (·<·)):
  vh prog w A it [it,S] [it] es.size (λi v=>(es.toList.map (·.2))[i]?=aj v) (λi h=>kW h it S (iC (if i=0 then 0 else t.place.getD (i-1) 0+1:Nat)) i es.size ep/\mG (bt w) h S es ep t) where
 sub:=λb hb=>by simp at hb;simp[hb]
 frame:=λ_ _ _ st hk=>⟨st.1.at λo e=>hk it (by simp) o e,st.2.at λo e=>hk S (by simp) o e⟩
 item:=λi s Q E hi st hQ=>by
  have hp:i<t.place.size:=by lia
  have bl:jC t.place (if i=0 then 0 else t.place.getD (i-1) 0+1)=i:=by
   by_cases z:i=0
   .subst z;exact aaq rs
   .rw[aY z];have h1:i-1<t.place.size:=by lia
    have:=X8 rs h1;rw[sV,kY h1,DN,this];lia
  refine aat (R:=aj (es[i].2,t.place[i]+1)) st.1 st.2 rfl ne (λc=>YF st.2 hb nd ?_) rfl λh' hit' same=>hQ _ h' s.toks (by simp[hi]) ⟨?_,st.2.at λo e=>(same.2 S ne).trans e⟩ λb o hb e=>(same.2 b λz=>hb (by simp[z])).trans e
  .rw[bl,kY hi,kY hp];exact c
  .have e1:(if i+1=0 then 0 else t.place.getD (i+1-1) 0+1)=t.place[i]+1:=by
    rw[aY (by lia),aen,sV,kY hp,DN]
   rw[e1];exact hit'
 done:=λs Q E st hQ=>by
  have bl:jC t.place (if es.size=0 then 0 else t.place.getD (es.size-1) 0+1)=es.size:=by
   by_cases z:es.size=0
   .rw[aZ z,z];exact aaq rs
   .rw[aY z];have h1:es.size-1<t.place.size:=by lia
    have:=X8 rs h1;rw[sV,kY h1,DN,this];lia
  refine abl hh st.1 st.2 rfl (λc=>YF st.2 hb nd ?_) λh' kk=>hQ h' s.toks λb o hb e=>kk b o (λz=>hb (by simp[z])) e
  rw[bl,Vs (bT _)];exact c
 self:=λ_ _ _ _ st hQ=>Rp st.1 hQ
theorem ahQ(hh:A.handled=ao)(ne:S≠it)(hb:bt w=aD):
  vh prog w A it [it,S] [it] es.size (λi v=>((yt (w.params.setOrder S ep) es).toList.map (·.2))[i]?=aj v) (λi h=>kW h it S (iC (0:Nat)) i es.size ep/\mG (bt w) h S es ep t) where
 sub:=λb hb=>by simp at hb;simp[hb]
 frame:=λ_ _ _ st hk=>⟨st.1.at λo e=>hk it (by simp) o e,st.2.at λo e=>hk S (by simp) o e⟩
 item:=λi s Q E hi st hQ=>by
  have hl:(yt (w.params.setOrder S ep) es).size=es.size:=by rw[<-kZ,(Qh _ es).length_eq,kZ]
  have hp:i<(yt (w.params.setOrder S ep) es).size:=by lia
  refine aat (R:=aj ((yt (w.params.setOrder S ep) es)[i].2,0)) st.1 st.2 rfl ne (λc=>YG st.2 hb ?_) rfl λh' hit' same=>hQ _ h' s.toks (by simp[hp]) ⟨hit',st.2.at λo e=>(same.2 S ne).trans e⟩ λb o hb e=>(same.2 b λz=>hb (by simp[z])).trans e
  rw[kY hp];exact c
 done:=λs Q E st hQ=>by
  have hl:(yt (w.params.setOrder S ep) es).size=es.size:=by rw[<-kZ,(Qh _ es).length_eq,kZ]
  refine abl hh st.1 st.2 rfl (λc=>YG st.2 hb ?_) λh' kk=>hQ h' s.toks λb o hb e=>kk b o (λz=>hb (by simp[z])) e
  rw[Vs (by lia)];exact c
 self:=λ_ _ _ _ st hQ=>Rp st.1 hQ
theorem ag9(hh:A.handled=ao)(ne:S≠it)(np:pl≠it)(pp:ps.Perm (gC es.size)):
  vh prog w A it [it,S,pl] [it] es.size (λi v=>(ps.map λk=>(es.getD k (0,.none)).2)[i]?=aj v) (λi h=>kW h it S (.ref pl) i es.size ep/\mG (bt w) h S es ep t/\Dh h pl ps) where
 sub:=λb hb=>by simp at hb;simp[hb]
 frame:=λ_ _ _ st hk=>⟨st.1.at λo e=>hk it (by simp) o e,st.2.1.at λo e=>hk S (by simp) o e,st.2.2.at λo e=>hk pl (by simp) o e⟩
 item:=λi s Q E hi st hQ=>by
  have hl:ps.length=es.size:=by rw[pp.length_eq,pD]
  have hp:i<ps.length:=by lia
  have hk:ps[i]<es.size:=ql.mp (pp.mem_iff.mp (vY hp));refine ajX (k:=ps[i]) (e:=es[ps[i]]) st.1 st.2.1 st.2.2 rfl (iI hp) (kY hk) λh' hit' same=>hQ _ h' s.toks ?_ ⟨hit',st.2.1.at λo e=>(same.2 S ne).trans e,st.2.2.at λo e=>(same.2 pl np).trans e⟩ λb o hb e=>(same.2 b λz=>hb (by simp[z])).trans e
  rw[jr,iI hp,lR,sV,kY hk];rfl
 done:=λs Q E st hQ=>by
  have hl:ps.length=es.size:=by rw[pp.length_eq,pD]
  exact alk hh st.1 st.2.1 st.2.2 rfl (by lia) λh' kk=>hQ h' s.toks λb o hb e=>kk b o (λz=>hb (by simp[z])) e
 self:=λ_ _ _ _ st hQ=>Rp st.1 hQ
end
section
variable{prog:bB}{w:bA}{A:bV}{E:Value->aG->Prop}{s:aG}{S:az}{es:Array (Int×Value)}{ep:Nat}{t:u5}
theorem ahR(hs:mG (bt w) s.heap S es ep t)(h:Q (bt w&&(!t.plain&&decide (es.size>1))) s):aL (model prog w) A (setDrawn S) Q E s:=by
 obtain⟨os,hos,exs,hds,hf,tb⟩:=id hs
 unfold setDrawn;refine aB (DK hos hds hf ?_);refine aB (JW (aW ?_));rw[Bool.not_not];exact h
theorem aiK(hh:A.handled=ao)(hs:mG (bt w) s.heap S es ep t)(hb:es.size<qt)
  (h:∀(I:az)(h1:bh)(d:yQ)(fp:List az)(out:List Value)(St:Nat->bh->Prop),vh prog w A I fp [I] es.size (λi v=>out[i]?=aj v) St->St 0 h1->out.Perm (es.toList.map (·.2))->(∀b o,s.heap.get? b=aj o->h1.get? b=aj o)->s.heap.objs.size<=I->
   (∀b∈fp,b=S\/s.heap.objs.size<=b)->Q (.ref I) {s with heap:=h1,drawn:=d}):aL (model prog w) A (Bt (.ref S)) Q E s:=by
 obtain⟨os,hos,exs,hds,hf,tb⟩:=id hs
 have hT:s.TypeIs (.ref S) "set":=⟨os,hos,exs.1⟩
 have lt:S<s.heap.objs.size:=bN hos;have hz:t.place.size=es.size:=by
  have:=hf;simp only[SetTable.fits,jl,beq_iff_eq] at this;exact this.1
 refine VR hT afa (lQ afa hT ag8 ?_ (F.args_set_iter_1 _));unfold lW.«frozenset.__iter__» apr apm;refine aB (aB (aW (aW ?_)));refine aB (aB (Hr hos hds hf (aW ?_)));refine aB (ahR hs ?_);by_cases hd:(bt w&&(!t.plain&&decide (es.size>1)))=au
 .rw[aZ hd];refine aB (Zo _ _ _ _ (pD ..) λps d pp=>?_);have pl:ps.length=es.size:=by rw[pp.length_eq,pD]
  unfold Qy;refine aB (j0 ?_ (show(List.map (λi:Nat=>iC i) ps).toArray.size<=bU by rw[gB,bC,pl,jR];unfold qt at hb;lia));have g1:(s.heap.push {cls:=.type "tuple",data:=.seq (ps.map λk:Nat=>iC k).toArray}).get? S=aj os:=bR _ hos;refine aB (aeD (s:={s with heap:=s.heap.push _,drawn:=d}) g1 hds hf ?_);refine aB ?_;unfold newFields;refine j0 ?_;refine aW ⟨_,rfl,"set_iterator",_,⟨_,fV _ rfl,rfl⟩,rE.lookup,?_⟩;have sG:(s.heap.push {cls:=.type "tuple",data:=.seq (ps.map λk:Nat=>iC k).toArray}).objs.size=s.heap.objs.size+1:=tD ..;refine h _ _ d [_,S,s.heap.objs.size] _ _ (ag9 (ep:=ep) (t:=t) hh ?_ ?_ pp) ⟨⟨_,fV _ rfl,rfl,rfl⟩,⟨os,bR _ g1,exs,hds,hf,tb⟩,⟨_,0,bR _ (fV _ rfl),rfl⟩⟩ ?_ (λb o e=>bR _ (bR _ e)) ?_ ?_
  .rw[sG];exact dX (vX lt)
  .rw[sG];exact dX (MP _)
  .have e2:(gC es.size).map (λk=>(es.getD k (0,jw)).2)=es.toList.map (·.2):=by
    refine DP (by simp) λj h1 h2=>?_
    have hj:j<es.size:=by simpa using h1
    simp[sV,kY hj]
   rw[<-e2];exact pp.map _
  .rw[sG];exact Ej _
  .intro b hb';simp only[bJ,iZ,or_false] at hb';rcases hb' with rfl|rfl|rfl
   .right;rw[sG];exact Ej _
   .exact .inl rfl
   .exact .inr (bT _)
 .rw[aY hd];refine aB (aW ?_);refine aB (aeD hos hds hf ?_);refine aB ?_;unfold newFields;refine j0 ?_;refine aW ⟨_,rfl,"set_iterator",_,⟨_,fV _ rfl,rfl⟩,rE.lookup,?_⟩;have acM:∀b,b∈[s.heap.objs.size,S]->b=S\/s.heap.objs.size<=b:=λb hb'=>by
   simp only[bJ,iZ,or_false] at hb';rcases hb' with rfl|rfl
   .exact .inr (bT _)
   .exact .inl rfl
  cases hbt:bt w with
  |true=>
   rw[hbt] at hd;have nd:(!t.plain&&decide (es.size>1))=aD:=by simpa using hd
   exact h _ _ s.drawn [_,S] _ _ (ahP (ep:=ep) hh (dX lt) hbt nd hz tb.UT) ⟨⟨_,fV _ rfl,rfl,rfl⟩,⟨os,bR _ hos,exs,hds,hf,tb⟩⟩ (.refl _) (λb o e=>bR _ e) (bT _) acM
  |false=>
   exact h _ _ s.drawn [_,S] _ _ (ahQ (ep:=ep) (t:=t) hh (dX lt) hbt) ⟨⟨_,fV _ rfl,rfl,rfl⟩,⟨os,bR _ hos,exs,hds,hf,tb⟩⟩ ((Qh _ es).map _) (λb o e=>bR _ e) (bT _) acM
end
end L2
namespace L2
open PySem PySem.Spec PySem.W PyProof.Rows
section
variable{prog:bB}{w:bA}{A:bV}{E:Value->aG->Prop}{s:aG}{S:az}{es:Array (Int×Value)}{ep:Nat}{t:u5}
theorem aiL(hT:s.TypeIs (.ref S) "set")(h:Q aD s):aL (model prog w) A (adF (.ref S)) Q E s:=by
 unfold adF;refine aB (Wl hT PySem.F.slot_set_len.lookup ?_);generalize hid:("set.__len__":String)=nm
 wp_delta
 rw[show splitId nm=aj ("set","__len__") by subst hid;decide +kernel];subst hid;refine aB (MK (T:="set") (b:=au) hT (by rw[WK];kernel_rfl) ?_);refine Nb (λz=>absurd z (by decide)) λ_=>Nb (λ_=>?_) λz=>absurd (by decide +kernel) z
 exact aB (Ii hT (aW h))
theorem ahS{out:List Value}{acc:Array Value}(h:ItemsOf (λi v=>out[i]?=aj v) acc out.length):acc=out.toArray:=by
 refine Array.ext (by simpa using h.1) λj h1 h2=>?_
 have this:out[j]?=aj acc[j]:=h.2 j acc[j] (kY h1);have hj:j<out.length:=by simpa using h2
 rw[iI hj] at this;simpa using(jb this).symm
theorem aha{R:qD->aG->Prop}(hh:A.handled=ao)(hs:mG (bt w) s.heap S es ep t)(hb:es.size<qt){L:az}(ne:L≠S){c0:Nat}(hL:s.heap.get? L=aj {cls:=.type "list",data:=.seq #[] c0})(res:Value)
  (hR:∀(h':bh)(d:yQ)(tk:Nat)(us:List Value)(c':Nat),us.Perm (es.toList.map (·.2))->(∀b o,b≠L->s.heap.get? b=aj o->h'.get? b=aj o)->h'.get? L=aj {cls:=.type "list",dict:=ao,data:=.seq us.toArray c',slots:=#[]}->
   R (.ok (.ret res)) {s with heap:=h',drawn:=d,toks:=tk}):
  aL (model prog w) A.in1 (LR (.ref L) (.ref S) res) (λfin s'=>match fin with|.done f=>R (.ok f) s'|.again c'=>c'.quiet=au/\jT (model prog w) A c' R s') (λe s'=>R (.error e) s') s:=by
 obtain⟨os,hos,exs,hds,hf,tb⟩:=id hs
 have hT:s.TypeIs (.ref S) "set":=⟨os,hos,exs.1⟩
 have ltL:L<s.heap.objs.size:=bN hL;unfold LR;refine aB (Ii hT ?_);rw[show(Vo (.ref L) (.ref S)||Eo "set"==Eo "list"||Eo "set"==Eo "tuple")=aD by
  rw[show Vo (.ref L) (.ref S)=aD by simp[Vo,ne]];decide]
 simp only[kE,if_false];refine aB (aiK (A:=A.in1) hh hs hb λI h1 d fp out St W st pm kp geI okf=>?_);have lo:out.length=es.size:=by rw[pm.length_eq,bC,kZ]
 have fL:L∉fp:=λz=>(okf L z).elim ne λz'=>absurd ltL (Er.mpr z')
 have run:∀(h2:bh)(c1 tk:Nat),St 0 h2->(∀b o,b≠L->s.heap.get? b=aj o->h2.get? b=aj o)->h2.get? L=aj {cls:=.type "list",data:=.seq #[] c1}->
   jT (model prog w) A (.builtin "list.extend.loop" ⟨[.ref L,.ref I,res],[]⟩) R {s with heap:=h2,drawn:=d,toks:=tk}:=λh2 c1 tk st2 k2 g2=>by
  refine codeAny_extend_loopS W.toS (V3 hb) L fL res es.size 0 _ #[] c1 rfl (lz _) st2 g2 (ItemsOf.nil _) λs3 acc c3 mv g3 io=>?_
  rw[<-lo] at io;have ea:=ahS io;subst ea;rw[Moved.eq_with mv];refine hR s3.heap d s3.toks out c3 pm (λb o nb e=>mv.heap b o (λz=>?_) (k2 b o nb e)) g3;rcases bJ.mp z with z|z
  .exact nb z
  .exact absurd (bN e) (by rw[jB.mp z];exact Er.mpr geI)
 have gL:=kp L _ hL;have gS:Shared.TypeIs {s with heap:=h1,drawn:=d} (.ref S) "set":=⟨os,kp S _ hos,exs.1⟩
 refine aB (jL (aiL gS ?_));refine Nb (λ_=>?_) λ_=>aW ⟨q9 adL _,run h1 c0 s.toks st (λb o _ e=>kp b o e) gL⟩
 refine aB (qp (aB (show aL _ _ (Ey L (·.push .none) >>= λ_=>Ey L (·.pop)) _ _ _ from ?_)));refine aB (xZ gL rfl ?_);have u2:=sW (lU (·.push jw)) gL rfl;refine xZ (hz:=by seq_fits) u2 rfl ?_;have u3:=sW (lU (·.pop)) u2 rfl;have far:∀b o,b≠L->h1.get? b=aj o->((h1.update L (lU (·.push jw))).update L (lU (·.pop))).get? b=aj o:=λb o nb e=>
  (nj _ _ (fQ nb)).trans ((nj _ _ (fQ nb)).trans e)
 exact aW ⟨q9 adL _,run _ _ s.toks (W.frame 0 _ _ st λb hb' o e=>far b o (λz=>fL (z▸hb')) e) (λb o nb e=>far b o nb (kp b o e)) u3⟩
theorem agB(hh:A.handled=ao)(hs:mG (bt w) s.heap S es ep t)(hb:es.size<qt)
  (h:∀(h':bh)(d:yQ)(tk:Nat)(us:List Value),us.Perm (es.toList.map (·.2))->s.heap.objs.size<=h'.objs.size->(∀b o,s.heap.get? b=aj o->h'.get? b=aj o)->R us {s with heap:=h',drawn:=d,toks:=tk}):
  aL (model prog w) A (collect (.ref S)) R E s:=by
 have ltS:S<s.heap.objs.size:=let ⟨_,e,_⟩:=hs;bN e
 unfold collect;refine aB (wpAny_runValue (uL entry_proto_collect' ?_));rw[uJ adE _];show aL _ A.in1 (newList [] >>= λl=>again (.builtin "list.__iadd__" ⟨[l,.ref S],[]⟩)) _ _ s;refine aB (j0 (aW ⟨q9 Mj _,uL entry_list_iadd' ?_⟩));rw[uJ Mj _];have g0:(s.heap.push {cls:=.type "list",data:=.seq ([]:List Value).toArray}).get? s.heap.objs.size=aj {cls:=.type "list",data:=.seq #[]}:=fV _ rfl;show aL _ A.in1 (LR (.ref s.heap.objs.size) (.ref S) (.ref s.heap.objs.size)) _ _ _;have key:=aha (prog:=prog) (A:=A) (s:={s with heap:=s.heap.push {cls:=.type "list",data:=.seq ([]:List Value).toArray}})
  (R:=λ(q:qD)(s':aG)=>∃(h':bh)(d:yQ)(tk:Nat)(us:List Value)(c':Nat),q=.ok (.ret (.ref s.heap.objs.size))/\s'={s with heap:=h',drawn:=d,toks:=tk}/\us.Perm (es.toList.map (·.2))/\(∀b o,s.heap.get? b=aj o->h'.get? b=aj o)/\h'.get? s.heap.objs.size=aj {cls:=.type "list",dict:=ao,data:=.seq us.toArray c',slots:=#[]})
  hh (hs.at λo e=>bR _ e) hb (tL ltS) g0 (.ref s.heap.objs.size) (λh' d tk us c' pm kk g=>⟨h',d,tk,us,c',rfl,rfl,pm,λb o e=>kk b o (dX (bN e)) (bR _ e),g⟩)
 refine oN key (λfin s' x=>?_) λe s' x=>?_
 .cases fin with
  |done f=>
   obtain⟨h',d,tk,us,c',e,rfl,pm,kk,g⟩:=x
   cases e;show aL _ A (load s.heap.objs.size >>= _) _ _ _;exact aB (Ja g (aW (h h' d tk us pm (Af (bN g)) kk)))
  |again c1=>
   refine⟨x.1,Ih x.2 λq s2 y=>?_⟩
   obtain⟨h',d,tk,us,c',rfl,rfl,pm,kk,g⟩:=y
   show aL _ A (load s.heap.objs.size >>= _) _ _ _;exact aB (Ja g (aW (h h' d tk us pm (Af (bN g)) kk)))
 .obtain⟨_,_,_,_,_,e',_⟩:=x
  cases e'
end
section
variable{prog:bB}{w:bA}{A:bV}{E:Value->aG->Prop}{s:aG}{S:az}{es:Array (Int×Value)}{ep:Nat}{t:u5}
theorem ahb{Ok:List Value->Prop}{Q:Value->aG->Prop}(hh:A.handled=ao)(hs:mG (bt w) s.heap S es ep t)(few:es.size<64)
  (srt:∀us:List Value,us.Perm (es.toList.map (·.2))->∀(B:bV)(s1:aG)(a:az)(n:Nat)(P:Fin->aG->Prop)(E':Value->aG->Prop),s1.heap.get? a=aj (seqObj "list" us.toArray n)->
   (∀out:Array Value,Ok out.toList->P (.done (.ret .none)) {s1 with heap:=sortedHeap s1.heap a us out})->aL (model prog w) B (lW.«list.sort» ⟨[.ref a],[]⟩) P E' s1)
  (h:∀(D:az)(h':bh)(d:yQ)(tk c:Nat)(out:Array Value),Ok out.toList->s.heap.objs.size<=D->(∀b o,s.heap.get? b=aj o->h'.get? b=aj o)->h'.get? D=aj (seqObj "list" out c)->Q (.ref D) {s with heap:=h',drawn:=d,toks:=tk}):
  aL (model prog w) A (call (.builtin "sorted") [.ref S]) Q E s:=by
 refine adK kind_sorted plain_sorted entry_sorted (args_sorted1 _) ?_;unfold lW.«sorted»;refine aB (m:=checkCount "sorted" 1 1 _) (aW (aB (agB (A:=A.in1) hh hs (by unfold qt;lia) λh1 d tk us pm ge kk=>?_)));have lu:us.length=es.size:=by rw[pm.length_eq,bC,kZ]
 refine aB (W6 ?_ (by rw[jR];lia));have gL:(h1.push (seqObj "list" us.toArray 0)).get? h1.objs.size=aj (seqObj "list" us.toArray 0):=fV _ rfl;refine aB (jL (lQ slot_list_sort ⟨_,gL,rfl⟩ entry_list_sort (srt us pm _ {s with heap:=h1.push (seqObj "list" us.toArray 0),drawn:=d,toks:=tk} _ 0 _ _ gL λout ok=>⟨_,rfl,?_⟩) (args_list_sort _)))
 obtain⟨c,gD⟩:=sortedHeap_at (out:=out) gL
 refine aW ⟨_,rfl,h h1.objs.size _ d tk c out ok ge (λb o e=>?_) gD⟩;have lb:b<h1.objs.size:=bN (kk b o e)
 show(sortedHeap (h1.push (seqObj "list" us.toArray 0)) h1.objs.size us out).get? b=aj o
 rw[sortedHeap_old (dX lb) (by rw[tD];exact vX lb)];exact bR _ (kk b o e)
end
theorem Inv.drew(d:yQ)(I:Inv X pins σ H s):Inv X pins σ H {s with drawn:=d}:=
 I.call (g':=s.gens) (t':=s.toks) (d':=d) (ch:=[]) (Un.kept λ_ _ e=>e) (I.hok.kept λ_ _ e=>e) I.bare (λ_ z=>nomatch z)
section
variable{X:Cx}{T:Type}[DecidableEq T]{knd:yh X.prog X.w T}{l:Expr}{tl:TE}{p1 p2 pos1 pos2:Pos}
end
section
variable{prog:bB}{w:bA}
theorem aiM(h:j9 (H9 prog w) es ks):(es.map (·.2)).map strOf=ks/\∀v,v∈es.map (·.2)->∃x t,v=.str x t:=by
 induction h with
 |nil=>exact⟨rfl,λv hv=>by cases hv⟩
 |@cons e k es ks a _ ih=>
  obtain⟨t,ht⟩:=aeb (show W4 k e.2=au from a.1)
  refine⟨by rw[cV,cV,ih.1,ht];rfl,λv hv=>?_⟩
  rcases bJ.mp hv with rfl|hv
  .exact⟨k,t,ht⟩
  .exact ih.2 v hv
end
section
variable{X:Cx}{l:Expr}{tl:TE}{p1 p2 pos1 pos2:Pos}
end
section
variable{prog:bB}{w:bA}{A:bV}{E:Value->aG->Prop}{s:aG}{R:qD->aG->Prop}{I S:az}{fp wr:List az}{n:Nat}{Pv:Nat->Value->Prop}{St:Nat->bh->Prop}{bt:Nat->Nat->Bool}
def ab0(v:Value)(c:Nat):Obj:={cls:=.type "list",dict:=ao,data:=.seq #[v,v] c,slots:=#[]}
theorem ajY(W:vh prog w A.in1 I fp wr n Pv St)(cmp:CmpOf prog w A.in1 .Gt Pv bt)(out:S∉fp)(kw:List (Str×Value)):∀(m j:Nat)(s:aG)(vb:Value)(c:Nat),n-(j+1)=m->j+1<=n->St (j+1) s.heap->Pv (gh bt j) vb->s.heap.get? S=aj (ab0 vb c)->
  (∀v h' tk,Pv (gh bt (n-1)) v->(∀b o,b∉wr->b≠S->s.heap.get? b=aj o->h'.get? b=aj o)->R (.ok (.ret v)) {s with heap:=h',toks:=tk})->jT (model prog w) A (.builtin "max.loop" ⟨[.ref I,.none,.ref S],kw⟩) R s:=by
 have vJ:S∉wr:=λz=>out (W.sub _ z)
 have nm:(toString "max"++toString ".loop":String)="max.loop":=by decide
 intro m;induction m with
 |zero=>
  intro j s vb c hm hj st pb hS hR;have last:j+1=n:=by lia
  refine uL Du ?_;rw[uJ o9 _];show aL _ A.in1 (yu (.ref S) >>= _) _ _ s;refine aB (oJ hS rfl ?_);show aL _ A.in1 (tryCatch (jn (.ref I)) _ >>= _) _ _ s;refine aB (wz (W.done s _ _ (last▸st) λh' tk kk=>?_));have g:=kk S _ vJ hS;show aL _ A.in1 (Ey S (λ_=>#[]) >>= _) _ _ _;refine aB (xZ g rfl (aB (uU (aW ?_))));exact hR vb _ tk (by rw[<-last];exact pb) λb o hb hbS e=>(nj _ _ (fQ hbS)).trans (kk b o hb e)
 |succ m ih=>
  intro j s vb c hm hj st pb hS hR;have lt:j+1<n:=by lia
  refine uL Du ?_;rw[uJ o9 _];show aL _ A.in1 (yu (.ref S) >>= _) _ _ s;refine aB (oJ hS rfl ?_);show aL _ A.in1 (tryCatch (jn (.ref I)) _ >>= _) _ _ s;refine aB (wz (W.item (j+1) s _ _ lt st λv h' tk pv st' kk=>?_));have g:=kk S _ vJ hS;show aL _ A.in1 (tryCatch (pL [v,v] (yp .Gt v vb >>= _)) _ >>= _) _ _ _;refine aB (wz (jL (aB (cmp (j+1) (gh bt j) v vb _ _ _ pv pb ?_))));refine aB (jL (sY (aB (uU (aW ?_)))));cases hb:bt (j+1) (gh bt j) with
  |true=>
   simp only[if_true];refine aB (xZ g rfl (aB (uU ?_)));rw[nm];refine aW ⟨q9 o9 _,ih (j+1) _ v _ (by lia) lt (W.frame _ _ _ st' λb hbf o e=>(nj _ _ λz:S=b=>out (z▸hbf)).trans e) (by simp only[gh,hb,if_true];exact pv) (sW _ g rfl) λv' h2 tk2 sH oW=>?_⟩;exact hR v' h2 tk2 sH λb o hb' hbS e=>oW b o hb' hbS ((nj _ _ (fQ hbS)).trans (kk b o hb' e))
  |false=>
   simp only[kE,if_false];refine aB (uU ?_);rw[nm];refine aW ⟨q9 o9 _,ih (j+1) _ vb c (by lia) lt st' (by simp only[gh,hb,kE,if_false];exact pb) g λv' h2 tk2 sH oW=>?_⟩;exact hR v' h2 tk2 sH λb o hb' hbS e=>oW b o hb' hbS (kk b o hb' e)
theorem ajZ(W:vh prog w A.in1 I fp wr n Pv St)(cmp:CmpOf prog w A.in1 .Gt Pv bt)(out:S∉fp)(st:St 0 s.heap)(hS:s.heap.get? S=aj {cls:=.type "list",dict:=ao,data:=.seq #[] c,slots:=#[]})
  (hR:∀v h' tk,(if n=0 then v=d else Pv (gh bt (n-1)) v)->(∀b o,b∉wr->b≠S->s.heap.get? b=aj o->h'.get? b=aj o)->R (.ok (.ret v)) {s with heap:=h',toks:=tk}):jT (model prog w) A (.builtin "max.loop" ⟨[.ref I,.none,.ref S],[(k,d)]⟩) R s:=by
 have vJ:S∉wr:=λz=>out (W.sub _ z)
 have nm:(toString "max"++toString ".loop":String)="max.loop":=by decide
 refine uL Du ?_;rw[uJ o9 _];show aL _ A.in1 (yu (.ref S) >>= _) _ _ s;refine aB (oJ hS rfl ?_);by_cases h0:n=0
 .show aL _ A.in1 (tryCatch (jn (.ref I)) _ >>= _) _ _ s;refine aB (wz (W.done s _ _ (h0▸st) λh' tk kk=>?_));show aL _ A.in1 (rule _ >>= λ_=>ret d) _ _ _;exact aB (qp (aW (hR d h' tk (by rw[aZ h0]) λb o hb _ e=>kk b o hb e)))
 .show aL _ A.in1 (tryCatch (jn (.ref I)) _ >>= _) _ _ s;refine aB (wz (W.item 0 s _ _ (by lia) st λv h' tk pv st' kk=>?_));have g:=kk S _ vJ hS;show aL _ A.in1 (Ey S (λ_=>#[v,v]) >>= _) _ _ _;refine aB (xZ g rfl ?_);rw[nm];refine aW ⟨q9 o9 _,ajY W cmp out _ _ 0 _ v _ rfl (by lia) (W.frame _ _ _ st' λb hbf o e=>(nj _ _ λz:S=b=>out (z▸hbf)).trans e) pv (sW _ g rfl) λv' h2 tk2 sH oW=>?_⟩;exact hR v' h2 tk2 (by rw[aY h0];exact sH) λb o hb' hbS e=>oW b o hb' hbS ((nj _ _ (fQ hbS)).trans (kk b o hb' e))
end
section
variable{prog:bB}{w:bA}{A:bV}{E:Value->aG->Prop}{s:aG}
theorem ahT(a d:Value):yJ "max" ⟨[a],[("default",d)]⟩:=by unfold yJ;kernel_rfl
def maxD(d:Int):List Int->Int
 |[]=>d
 |n::ns=>ns.foldl max n
theorem Zq(val:Nat->Int):∀k,val (gh (λi j=>decide (val i>val j)) k)=((gC k).map λi=>val (i+1)).foldl max (val 0)
 |0=>rfl
 |k+1=>by
  rw[List.range_succ,yc,aeC,<-Zq val k];rw[show gh (λi j=>decide (val i>val j)) (k+1)=if decide (val (k+1)>val (gh (λi j=>decide (val i>val j)) k)) then k+1 else gh (λi j=>decide (val i>val j)) k from rfl];by_cases h:val (k+1)>val (gh (λi j=>decide (val i>val j)) k)
  .rw[aZ (dZ h)];show val (k+1)=max _ (val (k+1));lia
  .rw[aY (by simpa using h)];show _=max _ (val (k+1));lia
theorem aj0(ns:List Int)(h:0<ns.length)(d:Int):ns.getD (gh (λi j=>decide (ns.getD i 0>ns.getD j 0)) (ns.length-1)) 0=maxD d ns:=by
 have:=Zq (λi=>ns.getD i 0) (ns.length-1);rw[show ns.getD (gh (λi j=>decide (ns.getD i 0>ns.getD j 0)) (ns.length-1)) 0=_ from this];cases ns with
 |nil=>cases h
 |cons a as=>
  show _=as.foldl max a;have e:(gC ((a::as).length-1)).map (λi=>(a::as).getD (i+1) 0)=as:=by
   rw[dD,aen];refine DP (by simp) λi h1 h2=>?_
   simp[h2]
  rw[e];rfl
theorem Xm{id:String}{b:lW}{as:List Value}{kw:List (Str×Value)}{Q:Value->aG->Prop}(hk:builtinKind id=ao)(hp:plainId id=au)(hb:QF table id=aj b)(ha:yJ id ⟨as,kw⟩)
  (hc:aL (model prog w) A.in1 (b ⟨as,kw⟩) (λfin s'=>match fin with
   |.done f=>(match(Except.ok f:qD) with|.ok (.ret v)=>Q v s'|.ok _=>False|.error e=>E e s')
   |.again c'=>c'.quiet=au/\jT (model prog w) A c' (λr s'=>match r with|.ok (.ret v)=>Q v s'|.ok _=>False|.error e=>E e s') s') E s):aL (model prog w) A (call (.builtin id) as kw) Q E s:=by
 refine wpAny_call (codeAny_call_builtin hp hb ?_);simp only[checkBuiltinCall,hk];cases hg:Manifest.signature? id with
 |none=>exact aW hc
 |some sg=>
  simp only[yJ,hg] at ha;show aL _ A.in1 (afg id sg ⟨as,kw⟩) _ _ s;rw[show afg id sg ⟨as,kw⟩=pure () from ha];exact aW hc
theorem ahU(hh:A.handled=ao)(hl:s.heap.IsList l its.toArray)(hi:IntsAre its ns)
  (h:∀(v:Value)(h':bh)(tk:Nat),(if ns=[] then v=d else ∃t,v=wD (maxD 0 ns) t)->(∀b o,s.heap.get? b=aj o->h'.get? b=aj o)->Q v {s with heap:=h',toks:=tk}):aL (model prog w) A (call (.builtin "max") [.ref l] [("default",d)]) Q E s:=by
 have nm:(toString "max"++toString ".loop":String)="max.loop":=by decide
 have ln:its.length=ns.length:=hi.length;have G9:l<s.heap.objs.size:=by obtain⟨o,ho,_⟩:=hl;exact bN ho
 refine Xm aeY aeE aeF (ahT _ _) ?_;show aL _ A.in1 (Ma "max" ["key","default"] 0 ⟨[],[("default",d)]⟩ >>= _) _ _ s;refine aB (Io (show Ma "max" ["key","default"] 0 ⟨[],[("default",d)]⟩=pure [ao,aj d] from rfl) (aB (aW ?_)));refine aB (Hw hl (aB (j0 ?_)));rw[nm];have sG:(s.heap.push {cls:=.type "list_iterator",data:=.fields #[.ref l,.int 0 0]}).objs.size=s.heap.objs.size+1:=tD ..;have W:=X6 (prog:=prog) (w:=w) (A:=A.in1) (by simp[hh]) s.heap.objs.size l (dX G9) its.toArray;have val:∀(i:Nat)(v:Value),its.toArray[i]?=aj v->∃t,v=wD (ns.getD i 0) t:=λi v hv=>IntsAre.int_at hi i v (by simpa using hv)
 refine aW ⟨q9 o9 _,?_⟩;show jT (model prog w) A (.builtin "max.loop" ⟨[.ref s.heap.objs.size,.none,.ref (s.heap.push {cls:=.type "list_iterator",data:=.fields #[.ref l,.int 0 0]}).objs.size],[("default",d)]⟩) _ {s with heap:=(s.heap.push {cls:=.type "list_iterator",data:=.fields #[.ref l,.int 0 0]}).push {cls:=.type "list",data:=.seq #[]}};refine ajZ W (CmpOf.ints_gt (λi=>ns.getD i 0) val) ?_ ⟨⟨_,bR _ (fV _ rfl),rfl,rfl⟩,(hl.push _).push _⟩ (fV _ rfl) λv h' tk hv kk=>?_
 .rw[sG];simp only[bJ,iZ,or_false,not_or]
  exact⟨tL (MP _),tL (vX G9)⟩
 .refine h v h' tk ?_ λb o e=>kk b o ?_ ?_ (bR _ (bR _ e))
  .by_cases hn:ns=[]
   .rw[aZ hn];rw[aZ (by rw[gB,ln,hn];rfl)] at hv;exact hv
   .rw[aY hn];have pos:0<ns.length:=List.length_pos_iff.mpr hn;rw[aY (by rw[gB,ln];lia),gB,ln] at hv
    obtain⟨t,e⟩:=val _ v hv
    rw[aj0 ns pos 0] at e
    exact⟨t,e⟩
  .simp only[bJ,iZ,or_false];exact dX (bN e)
  .rw[sG];exact dX (vX (bN e))
end
def ame(K:aJ)(tl td:TE):TE:=λσ H Q=>tl σ H λx H1=>td σ H1 λy H2=>∃(a:az)(ns:List Int)(k:Int),x=.ref a/\y=.int k/\bK K H2 a (ns.map V.int)/\Q (.int (maxD k ns)) H2
section
variable{X:Cx}{l de:Expr}{tl td:TE}{p pos kp:Pos}
theorem aj1(hc:X.calm=au)(hl:PE X l tl)(hd:PE X de td)(hg:Gl X "max")(hm:X.mg "max"=ao)(he:bG [l] X.env=(aD,eval l X.env)::bG [] X.env:=by rfl):PE X (.Call (.Name "max" p) [l] [⟨aj "default",de,kp⟩] pos) (ame X.K tl td):=by
 intro pins s σ H Q I h;refine Ht (wR I hg hm (u:=.builtin "max") rfl ?_);have he2:iM pos (bG [l] X.env)=(aD,eval l X.env)::iM pos (bG [] X.env):=by rw[he];rfl
 refine callWith_kw (e:=l) (rest:=[]) ?_ (he:=he2) (hplain:=by rw[he2];rfl);show aL _ _ (JM (iM pos (bG [l] X.env))) _ _ s;rw[he];show aL _ _ (JM ((aD,eval l X.env)::iM pos (bG [] X.env))) _ _ s;refine VG (bF (hl pins s σ H _ I h) λv s1 ⟨x,H1,I1,r1,q1⟩=>VM ?_);refine kws_cons (bF (hd pins s1 σ H1 _ I1 q1) λu s2 ⟨y,H2,I2,r2,a,ns,k,ex,ey,ha,q2⟩=>kws_nil ?_);subst ex ey;cases r1
 obtain⟨t,rfl⟩:=r2
 obtain⟨its,rv,pl,_⟩:=I2.list ha
 refine ahU (I2.ok.hd hc) pl.isList (intsAre_of rv) λv h' tk hv kk=>⟨.int (maxD k ns),H2,I2.kept kk,?_,q2⟩
 by_cases hn:ns=[]
 .rw[aZ hn] at hv;rw[hn,hv]
  exact⟨t,rfl⟩
 .rw[aY hn] at hv
  obtain⟨t',e⟩:=hv
  rw[e];cases ns with
  |nil=>exact absurd rfl hn
  |cons n ns=>exact⟨t',rfl⟩
end
end L2
namespace L2
open PySem PySem.Spec PyProof.Rows PySem.W
def gK:aA->Option Key
 |.int i=>aj (.inl i)
 |.str x=>aj (.inr x)
 |_=>ao
def keysOf:List aA->Option (List Key)
 |[]=>aj []
 |d::r=>match gK d,keysOf r with
  |some k,some t=>aj (k::t)
  |_,_=>ao
def qI:aA->Option (List Key)
 |.tuple ds=>keysOf ds
 |_=>ao
def dR{κ:Type}(f:aA->Option κ):List (aA×aA)->Option (List κ)
 |[]=>aj []
 |p::r=>match f p.1,dR f r with
  |some k,some t=>aj (k::t)
  |_,_=>ao
def zB(H:Hp)(a:az)(kvs:List (aA×aA))(vs:List V):Prop:=
 (∃ks,dR gK kvs=aj ks/\H a=aj (.dK (ks.zip vs)))\/∃ks,(kvs≠[]/\dR qI kvs=aj ks)/\H a=aj (.dT (ks.zip vs))
mutual
def RZ(H:Hp):aA->V->Prop
 |.none,v=>v=.non
 |.bool b,v=>v=.bl b
 |.int i,v=>v=.int i
 |.str x,v=>v=.str x
 |.list ds,v=>∃a vs,v=.ref a/\H a=aj (.lst vs)/\bW H ds vs
 |.tuple ds,v=>∃a vs,v=.ref a/\H a=aj (.tup vs)/\bW H ds vs
 |.dict kvs,v=>∃a vs,v=.ref a/\zB H a kvs vs/\jq H kvs vs
def bW(H:Hp):List aA->List V->Prop
 |[],vs=>vs=[]
 |d::ds,vs=>∃v r,vs=v::r/\RZ H d v/\bW H ds r
def jq(H:Hp):List (aA×aA)->List V->Prop
 |[],vs=>vs=[]
 |p::r,vs=>∃v t,vs=v::t/\RZp H p v/\jq H r t
def RZp(H:Hp):aA×aA->V->Prop
 |(_,d),v=>RZ H d v
end
theorem zB.same(s:bD H H')(h:zB H a kvs vs):zB H' a kvs vs:=by
 rcases h with⟨ks,e,h⟩|⟨ks,e,h⟩
 .exact .inl ⟨ks,e,s _ _ h⟩
 .exact .inr ⟨ks,e,s _ _ h⟩
mutual
theorem RZ.same(s:bD H H'):∀{d:aA}{v:V},RZ H d v->RZ H' d v
 |.none,_,h=>h
 |.bool _,_,h=>h
 |.int _,_,h=>h
 |.str _,_,h=>h
 |.list ds,_,h=>by
  obtain⟨a,vs,e,q,r⟩:=h
  exact⟨a,vs,e,s _ _ q,bW.same s r⟩
 |.tuple ds,_,h=>by
  obtain⟨a,vs,e,q,r⟩:=h
  exact⟨a,vs,e,s _ _ q,bW.same s r⟩
 |.dict kvs,_,h=>by
  obtain⟨a,vs,e,q,r⟩:=h
  exact⟨a,vs,e,q.same s,jq.same s r⟩
theorem bW.same(s:bD H H'):∀{ds:List aA}{vs:List V},bW H ds vs->bW H' ds vs
 |[],_,h=>h
 |d::ds,vs,h=>by
  obtain⟨v,r,e,q,t⟩:=h
  exact⟨v,r,e,RZ.same s q,bW.same s t⟩
theorem jq.same(s:bD H H'):∀{kvs:List (aA×aA)}{vs:List V},jq H kvs vs->jq H' kvs vs
 |[],_,h=>h
 |(k,d)::ds,vs,h=>by
  obtain⟨v,r,e,q,t⟩:=h
  exact⟨v,r,e,RZ.same s q,jq.same s t⟩
end
theorem jc:∀{ds:List aA}{vs:List V},bW H ds vs->vs.length=ds.length
 |[],_,h=>by cases(show _=[] from h);rfl
 |e::ds,vs,h=>by
  obtain⟨u,r,e1,q,s⟩:=h
  subst e1;rw[dD,dD,jc s]
theorem JX:∀{ds:List (aA×aA)}{vs:List V},jq H ds vs->vs.length=ds.length
 |[],_,h=>by cases(show _=[] from h);rfl
 |e::ds,vs,h=>by
  obtain⟨u,r,e1,q,s⟩:=h
  subst e1;rw[dD,dD,JX s]
theorem uc:∀{ds:List aA}{vs:List V}{i:Nat}{d:aA},bW H ds vs->ds[i]?=aj d->∃v,vs[i]?=aj v/\RZ H d v
 |[],_,_,_,_,e=>by simp at e
 |x::ds,vs,i,d,h,e=>by
  obtain⟨u,r,e1,q,s⟩:=h
  subst e1;cases i with
  |zero=>cases e;exact⟨u,rfl,q⟩
  |succ i=>
   obtain⟨v,e2,h2⟩:=uc (i:=i) s (by simpa using e)
   exact⟨v,by simpa using e2,h2⟩
theorem Bm:∀{ds es:List aA}{vs ws:List V},bW H ds vs->bW H es ws->bW H (ds++es) (vs++ws)
 |[],_,_,_,h,g=>by cases(show _=[] from h);exact g
 |d::ds,_,_,_,h,g=>by
  obtain⟨u,r,e1,q,s⟩:=h
  subst e1
  exact⟨u,_,rfl,q,Bm s g⟩
theorem YH:∀{ds es:List aA}{vs:List V},bW H (ds++es) vs->∃us ws,vs=us++ws/\bW H ds us/\bW H es ws
 |[],_,vs,h=>⟨[],vs,rfl,rfl,h⟩
 |d::ds,es,vs,h=>by
  obtain⟨u,r,e1,q,s⟩:=h
  obtain⟨us,ws,e2,h1,h2⟩:=YH s
  exact⟨u::us,ws,by rw[e1,e2];rfl,⟨u,us,rfl,q,h1⟩,h2⟩
theorem Zr:∀{ds:List aA}{vs:List V}(n:Nat),bW H ds vs->bW H (ds.take n) (vs.take n)
 |_,_,0,_=>by rw[afh,afh];rfl
 |[],_,n+1,h=>by cases(show _=[] from h);rfl
 |d::ds,_,n+1,h=>by
  obtain⟨u,r,e1,q,s⟩:=h
  subst e1
  exact⟨u,_,rfl,q,Zr n s⟩
theorem Zt:∀{ds:List aA}{vs:List V}(n:Nat),bW H ds vs->bW H (ds.drop n) (vs.drop n)
 |_,_,0,h=>h
 |[],_,n+1,h=>by cases(show _=[] from h);rfl
 |d::ds,_,n+1,h=>by
  obtain⟨u,r,e1,q,s⟩:=h
  subst e1;exact Zt n s
theorem aaw(hv:RZ H d v):∀{ds:List aA}{vs:List V}(i:Nat),bW H ds vs->bW H (ds.set i d) (vs.set i v)
 |[],_,_,h=>by cases(show _=[] from h);rfl
 |x::ds,_,i,h=>by
  obtain⟨u,r,e1,q,s⟩:=h
  subst e1;cases i with
  |zero=>exact⟨v,r,rfl,hv,s⟩
  |succ i=>exact⟨u,_,rfl,q,aaw hv i s⟩
def lZ:aA->Bool
 |.none=>au
 |.bool _=>au
 |.int _=>au
 |.str _=>au
 |_=>aD
def toV:aA->V
 |.none=>.non
 |.bool b=>.bl b
 |.int i=>.int i
 |.str x=>.str x
 |_=>.non
theorem aj2(f:lZ d=au)(h:RZ H d v):v=toV d:=by
 cases d<;>first|exact h|cases f
theorem aj3(f:lZ d=au):RZ H d (toV d):=by
 cases d<;>first|rfl|cases f
theorem QG:∀{ds:List aA}{vs:List V},ds.all lZ=au->bW H ds vs->vs=ds.map toV
 |[],_,_,h=>h
 |d::ds,vs,f,h=>by
  obtain⟨u,r,e1,q,s⟩:=h
  rw[HS,jl] at f;rw[e1,aj2 f.1 q,QG f.2 s];rfl
theorem aiN(ns:List Int):bW H (ns.map uV) (ns.map V.int):=by
 induction ns with
 |nil=>rfl
 |cons n r ih=>exact⟨_,_,rfl,rfl,ih⟩
theorem Zu(ns:List Str):bW H (ns.map gM) (ns.map V.str):=by
 induction ns with
 |nil=>rfl
 |cons n r ih=>exact⟨_,_,rfl,rfl,ih⟩
mutual
def jP:aA->Bool
 |.list _=>aD
 |.tuple ds=>iW ds
 |.dict _=>aD
 |_=>au
def iW:List aA->Bool
 |[]=>au
 |d::r=>jP d&&iW r
end
mutual
theorem RZ.jP(t:∀a vs,H a=aj (.tup vs)->H' a=aj (.tup vs)):∀{d:aA}{v:V},jP d=au->RZ H d v->RZ H' d v
 |.none,_,_,h=>h
 |.bool _,_,_,h=>h
 |.int _,_,_,h=>h
 |.str _,_,_,h=>h
 |.list ds,_,n,h=>nomatch n
 |.tuple ds,_,n,h=>by
  obtain⟨a,vs,e,q,r⟩:=h
  exact⟨a,vs,e,t _ _ q,bW.jP t n r⟩
 |.dict _,_,n,_=>nomatch n
theorem bW.jP(t:∀a vs,H a=aj (.tup vs)->H' a=aj (.tup vs)):∀{ds:List aA}{vs:List V},iW ds=au->bW H ds vs->bW H' ds vs
 |[],_,_,h=>h
 |d::ds,vs,n,h=>by
  obtain⟨v,r,e,q,w⟩:=h
  have n':L2.jP d=au/\iW ds=au:=by rw[iW,jl] at n;exact n
  exact⟨v,r,e,RZ.jP t n'.1 q,bW.jP t n'.2 w⟩
end
mutual
def oA:aA->Bool
 |.list ds=>xu ds
 |.tuple ds=>xu ds
 |.dict _=>aD
 |_=>au
def xu:List aA->Bool
 |[]=>au
 |d::r=>oA d&&xu r
end
mutual
theorem RZ.rx:∀{d:aA}{v:V},oA d=au->RZ H d v->RX H d v
 |.none,_,_,h=>h
 |.bool _,_,_,h=>h
 |.int _,_,_,h=>h
 |.str _,_,_,h=>h
 |.list ds,_,n,h=>by
  obtain⟨a,vs,e,q,r⟩:=h
  exact⟨a,vs,e,q,bW.rx n r⟩
 |.tuple ds,_,n,h=>by
  obtain⟨a,vs,e,q,r⟩:=h
  exact⟨a,vs,e,q,bW.rx n r⟩
 |.dict _,_,n,_=>nomatch n
theorem bW.rx:∀{ds:List aA}{vs:List V},xu ds=au->bW H ds vs->mJ H ds vs
 |[],_,_,h=>h
 |d::ds,vs,n,h=>by
  obtain⟨v,r,e,q,t⟩:=h
  have n':oA d=au/\xu ds=au:=by rw[xu,jl] at n;exact n
  exact⟨v,r,e,RZ.rx n'.1 q,bW.rx n'.2 t⟩
end
inductive Vl where
 |im (d:aA)
 |ow (d:aA)
 |ce (n:Nat)
 |sc (ns:List Int)
 |tp (p:List aA) (d:aA) (q:List aA)
abbrev En:=List (Option Vl)
abbrev Ce:=List (List Int)
def own1:Option Vl->Option V->List az
 |some (.ow _),some (.ref a)=>[a]
 |_,_=>[]
def bL:En->St->List az
 |x::e,v::s=>own1 x v++bL e s
 |_,_=>[]
theorem mL:∀{env:En}{σ:St},a∈bL env σ↔∃(i:Nat)(d:aA),env[i]?=aj (aj (Vl.ow d))/\σ[i]?=aj (aj (V.ref a))
 |[],σ=>by
  constructor
  .intro h;simp[bL] at h
  .rintro⟨i,d,e,_⟩;simp at e
 |x::e,[]=>by
  constructor
  .intro h;simp[bL] at h
  .rintro⟨i,d,_,e⟩;simp at e
 |x::e,v::s=>by
  rw[bL,dF,mL (env:=e) (σ:=s)];constructor
  .rintro(h|⟨i,d,h1,h2⟩)
   .unfold own1 at h;split at h
    .rw[jB] at h;subst h
     exact⟨0,_,rfl,rfl⟩
    .simp at h
   .exact⟨i+1,d,by simpa using h1,by simpa using h2⟩
  .rintro⟨i,d,h1,h2⟩
   cases i with
   |zero=>
    simp at h1 h2;subst h1 h2;exact .inl (jB.mpr rfl)
   |succ i=>exact .inr ⟨i,d,by simpa using h1,by simpa using h2⟩
theorem Fp:∀{env:En}{σ:St}{i j:Nat}{d e:aA},(bL env σ).Nodup->env[i]?=aj (aj (Vl.ow d))->σ[i]?=aj (aj (V.ref a))->env[j]?=aj (aj (Vl.ow e))->σ[j]?=aj (aj (V.ref a))->i=j
 |[],_,i,_,_,_,_,h,_,_,_=>by simp at h
 |_::_,[],i,_,_,_,_,_,h,_,_=>by simp at h
 |x::en,v::s,i,j,d,e,nd,h1,h2,h3,h4=>by
  rw[bL,lD] at nd;cases i with
  |zero=>
   cases j with
   |zero=>rfl
   |succ j=>
    simp at h1 h2;subst h1 h2;have:a∈bL en s:=mL.mpr ⟨j,e,by simpa using h3,by simpa using h4⟩;exact absurd rfl (nd.2.2 a (jB.mpr rfl) a this)
  |succ i=>
   cases j with
   |zero=>
    simp at h3 h4;subst h3 h4;have:a∈bL en s:=mL.mpr ⟨i,d,by simpa using h1,by simpa using h2⟩;exact absurd rfl (nd.2.2 a (jB.mpr rfl) a this)
   |succ j=>rw[Fp (i:=i) (j:=j) nd.2.1 (by simpa using h1) (by simpa using h2) (by simpa using h3) (by simpa using h4)]
def UW(x y:Option Vl):Prop:=y=x\/∃d,x=aj (.ow d)/\y=aj (.im d)
def Fz:En->En->Prop
 |[],[]=>True
 |x::r,y::t=>UW x y/\Fz r t
 |_,_=>False
theorem Fz.refl:∀e:En,Fz e e
 |[]=>trivial
 |x::r=>⟨.inl rfl,Fz.refl r⟩
theorem Fz.trans:∀{a b c:En},Fz a b->Fz b c->Fz a c
 |[],[],[],_,_=>trivial
 |x::r,y::t,z::w,h,g=>by
  refine⟨?_,Fz.trans h.2 g.2⟩
  rcases h.1 with e|⟨d,e1,e2⟩
  .rw[<-e];exact g.1
  .rcases g.1 with e|⟨d',e3,e4⟩
   .exact .inr ⟨d,e1,e.trans e2⟩
   .rw[e2] at e3;cases e3
 |[],[],_::_,_,g=>nomatch g
 |[],_::_,_,h,_=>nomatch h
 |_::_,[],_,h,_=>nomatch h
 |_::_,_::_,[],_,g=>nomatch g
theorem Fz.len:∀{a b:En},Fz a b->b.length=a.length
 |[],[],_=>rfl
 |_::_,_::_,h=>by rw[dD,dD,Fz.len h.2]
 |[],_::_,h=>nomatch h
 |_::_,[],h=>nomatch h
theorem Fz.at:∀{a b:En}{i:Nat}{y:Vl},Fz a b->b[i]?=aj (aj y)->a[i]?=aj (aj y)\/∃d,a[i]?=aj (aj (.ow d))/\y=.im d
 |[],[],i,y,_,e=>by simp at e
 |x::r,z::t,0,y,h,e=>by
  simp at e;rcases h.1 with q|⟨d,q1,q2⟩
  .left;rw[<-q,e];rfl
  .right;rw[e] at q2;cases q2;exact⟨d,by rw[q1];rfl,rfl⟩
 |x::r,z::t,i+1,y,h,e=>by
  simpa using Fz.at (i:=i) h.2 (by simpa using e)
 |[],_::_,_,_,h,_=>nomatch h
 |_::_,[],_,_,h,_=>nomatch h
theorem aj4(h:UW x y)(v:Option V):Xn (own1 y v) (own1 x v):=by
 rcases h with e|⟨d,e1,e2⟩
 .rw[e];exact zU _
 .rw[e2];exact List.nil_sublist _
theorem Fz.own:∀{a b:En}{σ:St},Fz a b->Xn (bL b σ) (bL a σ)
 |[],[],σ,_=>by cases σ<;>exact zU _
 |x::r,y::t,[],h=>zU _
 |x::r,y::t,v::s,h=>by
  rw[bL,bL];exact Hs (aj4 h.1 v) (Fz.own h.2)
 |[],_::_,_,h=>nomatch h
 |_::_,[],_,h=>nomatch h
abbrev bw(Z Θ:List az)(env:En)(σ:St):List az:=Z++(Θ++bL env σ)
def jV(E H:Hp)(a:az):aA->Prop
 |.list ds=>∃vs,H a=aj (.lst vs)/\bW E ds vs
 |.dict kvs=>∃vs,zB H a kvs vs/\jq E kvs vs
 |_=>False
theorem jV.same(s:bD E E')(h:∀o,H a=aj o->H' a=aj o)(r:jV E H a d):jV E' H' a d:=by
 cases d<;>first|exact r.elim|skip
 .obtain⟨vs,e,q⟩:=r
  exact⟨vs,h _ e,q.same s⟩
 .obtain⟨vs,e,q⟩:=r
  refine⟨vs,?_,q.same s⟩
  rcases e with⟨ks,k,e⟩|⟨ks,k,e⟩
  .exact .inl ⟨ks,k,h _ e⟩
  .exact .inr ⟨ks,k,h _ e⟩
theorem jV.rz(h:∀o,H a=aj o->E a=aj o)(r:jV E H a d):RZ E d (.ref a):=by
 cases d<;>first|exact r.elim|skip
 .obtain⟨vs,e,q⟩:=r
  exact⟨a,vs,rfl,h _ e,q⟩
 .obtain⟨vs,e,q⟩:=r
  refine⟨a,vs,rfl,?_,q⟩
  rcases e with⟨ks,k,e⟩|⟨ks,k,e⟩
  .exact .inl ⟨ks,k,h _ e⟩
  .exact .inr ⟨ks,k,h _ e⟩
structure bz(Θ:List az)(H H':Hp):Prop where
 keep:∀a o,H a=aj o->a∉Θ->H' a=aj o
 dom:∀a,H a≠ao->H' a≠ao
theorem bz.refl(Θ:List az)(H:Hp):bz Θ H H:=⟨λ_ _ e _=>e,λ_ e=>e⟩
theorem bz.trans(a:bz Θ H H1)(b:bz Θ H1 H2):bz Θ H H2:=⟨λc o e n=>b.keep _ _ (a.keep _ _ e n) n,λc e=>b.dom _ (a.dom _ e)⟩
theorem bz.none(k:bz Θ H H')(h:H' a=ao):H a=ao:=by
 cases e:H a with
 |none=>rfl
 |some o=>exact absurd h (k.dom a (by rw[e];exact vV _))
theorem bz.of(s:bD H H'):bz Θ H H':=⟨λa o e _=>s _ _ e,λa h=>by
 cases e:H a with
 |none=>exact absurd e h
 |some o=>rw[s _ _ e];exact vV _⟩
theorem bz.upd(h:H p=nA):bz Θ H (L2.upd H p o):=bz.of (bD.upd h)
theorem mj(k:bz Θ H H')(ht:∀a∈Θ,a∈Z)(hz:∀a,a∈Z'->a∈Z\/H a=ao):bD (er Z H) (er Z' H'):=λb o h=>by
 unfold er at h⊢;split at h
 .cases h
 .rename_i n;rw[aY,k.keep _ _ h (λm=>n (ht b m))];intro m;rcases hz b m with q|q
  .exact n q
  .rw[q] at h;cases h
def CP(K:aJ)(E H:Hp)(Θ:List az):Vl->V->Prop
 |.im d,v=>RZ E d v
 |.ow d,v=>∃a,v=.ref a/\jV E H a d
 |.ce n,v=>∃a,v=.ref a/\Θ[n]?=aj a
 |.sc ns,v=>∃a,v=.ref a/\bK K E a (ns.map V.int)
 |.tp _ _ _,_=>False
def NT(o:Option HO):Prop:=∃u,o=aj u/\∀vs,u≠.tup vs
theorem NT.ne(h:NT o):o≠ao:=by
 obtain⟨u,rfl,_⟩:=h
 exact vV _
theorem jV.nt(r:jV E H a d):NT (H a):=by
 cases d<;>first|exact r.elim|skip
 .obtain⟨vs,e,q⟩:=r
  exact⟨_,e,λ_ z=>nomatch z⟩
 .obtain⟨vs,e,q⟩:=r
  rcases e with⟨ks,k,e⟩|⟨ks,k,e⟩
  .exact⟨_,e,λ_ z=>nomatch z⟩
  .exact⟨_,e,λ_ z=>nomatch z⟩
theorem jV.there(r:jV E H a d):H a≠ao:=r.nt.ne
structure pN(Θ:List az)(C:Ce)(H:Hp):Prop where
 len:C.length=Θ.length
 at_:∀(n:Nat)(a:az)(ns:List Int),Θ[n]?=aj a->C[n]?=aj ns->H a=aj (.lst (ns.map V.int))
structure Sm(K:aJ)(Z Θ:List az)(env:En)(C:Ce)(σ:St)(H:Hp):Prop where
 len:σ.length=env.length
 nd:(bw Z Θ env σ).Nodup
 dom:∀a∈Z,NT (H a)
 slot:∀(i:Nat)(x:Vl),env[i]?=aj (aj x)->∃v,σ[i]?=aj (aj v)/\CP K (er (bw Z Θ env σ) H) H Θ x v
 cell:pN Θ C H
theorem pN.dom(c:pN Θ C H):∀a∈Θ,NT (H a):=λa m=>by
 obtain⟨n,hn,e⟩:=Dw m
 have e1:Θ[n]?=aj a:=by rw[iI hn,e]
 have h2:n<C.length:=by rw[c.len];exact hn
 exact⟨_,c.at_ n a C[n] e1 (iI h2),λ_ z=>nomatch z⟩
section
variable{K:aJ}{Z Θ:List az}{env env':En}{C C':Ce}{σ:St}{H H':Hp}
theorem Sm.Lf(S:Sm K Z Θ env C σ H):∀a∈bw Z Θ env σ,NT (H a):=λa m=>by
 rcases dF.mp m with m|m
 .exact S.dom a m
 .rcases dF.mp m with m|m
  .exact S.cell.dom a m
  .obtain⟨i,d,e1,e2⟩:=mL.mp m
   obtain⟨v,e3,b,e4,r⟩:=S.slot i _ e1
   rw[e2] at e3;cases e3;cases e4;exact r.nt
theorem Sm.zf(S:Sm K Z Θ env C σ H):∀a∈bw Z Θ env σ,H a≠ao:=λa m=>(S.Lf a m).ne
theorem Sm.uA(S:Sm K Z Θ env C σ H):∀a∈Θ,a∈bw Z Θ env σ:=λa m=>fP _ (iY _ m)
theorem CP.same(s:bD E E')(h:∀d a,x=.ow d->v=.ref a->∀o,H a=aj o->H' a=aj o)(r:CP K E H Θ x v):CP K E' H' Θ x v:=by
 cases x with
 |im d=>exact RZ.same s r
 |ow d=>obtain⟨a,e,q⟩:=r;exact⟨a,e,q.same s (h d a rfl e)⟩
 |ce n=>exact r
 |sc ns=>obtain⟨a,e,q⟩:=r;exact⟨a,e,s.seq q⟩
 |tp=>exact r
theorem Sm.nM(S:Sm K Z Θ env C σ H)(m:a∈bL env σ):a∉Z/\a∉Θ:=by
 have h:=S.nd;rw[lD] at h
 obtain⟨_,h2,h3⟩:=h
 rw[lD] at h2
 refine⟨λz=>h3 a z a (fP _ m) rfl,λz=>h2.2.2 a z a m rfl⟩
theorem Sm.go(S:Sm K Z Θ env C σ H)(k:bz Θ H H')(c:pN Θ C' H'):Sm K Z Θ env C' σ H' where
 len:=S.len
 nd:=S.nd
 dom:=λa m=>by
  obtain⟨u,e,n⟩:=S.dom a m
  have h:=S.nd;rw[lD] at h
  exact⟨u,k.keep _ _ e λz=>h.2.2 a m a (iY _ z) rfl,n⟩
 slot:=λi x e=>by
  obtain⟨v,e1,r⟩:=S.slot i x e
  refine⟨v,e1,r.same (mj k S.uA λa m=>.inl m) λd a ex ev o ho=>k.keep _ _ ho ?_⟩
  subst ex ev
  exact(S.nM (mL.mpr ⟨i,d,e,e1⟩)).2
 cell:=c
theorem Sm.fz(S:Sm K Z Θ env C σ H)(f:Fz env env'):Sm K Z Θ env' C σ H:=by
 have sub:Xn (bw Z Θ env' σ) (bw Z Θ env σ):=Hs (zU _) (Hs (zU _) f.own);have sm:bD (er (bw Z Θ env σ) H) (er (bw Z Θ env' σ) H):=mj (bz.refl [] H) (λ_ m=>nomatch m) λa m=>.inl (sub.subset m)
 refine⟨by rw[f.len];exact S.len,sub.nodup S.nd,S.dom,λi x e0=>?_,S.cell⟩
 rcases f.at e0 with e|⟨d,e,ex⟩
 .obtain⟨v,e1,r⟩:=S.slot i x e
  exact⟨v,e1,r.same sm λ_ _ _ _ _ ho=>ho⟩
 .subst ex
  obtain⟨v,e1,a,ev,r⟩:=S.slot i _ e
  subst ev
  refine⟨_,e1,jV.rz (H:=H) (λo ho=>?_) (r.same sm λ_ ho=>ho)⟩
  unfold er;rw[aY]
  .exact ho
  .intro m;have hm:a∈bL env σ:=mL.mpr ⟨i,d,e,e1⟩;rcases dF.mp m with m|m
   .exact(S.nM hm).1 m
   .rcases dF.mp m with m|m
    .exact(S.nM hm).2 m
    .obtain⟨j,d',e3,e4⟩:=mL.mp m
     have nd:=S.nd;rw[lD] at nd;have Di:=nd.2.1;rw[lD] at Di;rcases f.at e3 with e5|⟨_,_,e5⟩
     .have:=Fp Di.2.1 e e1 e5 e4;subst this;rw[e0] at e3;cases e3
     .cases e5
end
section
variable{K:aJ}{Z Θ:List az}{env env':En}{C C':Ce}{σ:St}{H H':Hp}{a p:az}
theorem Sm.pop(S:Sm K (a::Z) Θ env C σ H):Sm K Z Θ env C σ H:=by
 have sm:bD (er (bw (a::Z) Θ env σ) H) (er (bw Z Θ env σ) H):=mj (bz.refl [] H) (λ_ m=>nomatch m) λb m=>.inl (dB _ m)
 exact⟨S.len,(kI.mp S.nd).2,λb m=>S.dom b (dB _ m),λi x e=>let ⟨v,e1,r⟩:=S.slot i x e;⟨v,e1,r.same sm λ_ _ _ _ _ h=>h⟩,S.cell⟩
theorem Sm.push(S:Sm K Z Θ env C σ H)(hp:H p=ao)(o:HO)(ho:∀vs,o≠.tup vs):Sm K (p::Z) Θ env C σ (upd H p o):=by
 have k:bz Θ H (upd H p o):=bz.upd hp;have sm:bD (er (bw Z Θ env σ) H) (er (bw (p::Z) Θ env σ) (upd H p o)):=mj k S.uA λb m=>by
  rcases bJ.mp m with rfl|m
  .exact .inr hp
  .exact .inl m
 have c:pN Θ C (upd H p o):=⟨S.cell.len,λn b ns e1 e2=>by
  have:=S.cell.at_ n b ns e1 e2;rw[dm (rA this hp)];exact this⟩
 refine⟨S.len,kI.mpr ⟨λm=>S.zf p m hp,S.nd⟩,λb m=>?_,λi x e=>?_,c⟩
 .rcases bJ.mp m with rfl|m
  .exact⟨o,f9,ho⟩
  .obtain⟨u,e,n⟩:=S.dom b m
   exact⟨u,by rw[dm (rA e hp)];exact e,n⟩
 .obtain⟨v,e1,r⟩:=S.slot i x e
  refine⟨v,e1,r.same sm λd b ex ev o' ho=>?_⟩
  rw[dm (rA ho hp)];exact ho
theorem Sm.Ck(S:Sm K Z Θ env C σ H)(s:bD H H'):Sm K Z Θ env C σ H':=
 S.go (bz.of s) ⟨S.cell.len,λn b ns e1 e2=>s _ _ (S.cell.at_ n b ns e1 e2)⟩
def Res(K:aJ)(Z Θ:List az)(env:En)(C:Ce)(σ:St)(H H':Hp):Vl->V->Prop
 |.im d,v=>Sm K Z Θ env C σ H'/\RZ (er (bw Z Θ env σ) H') d v
 |.ow d,v=>∃a,v=.ref a/\H a=ao/\Sm K (a::Z) Θ env C σ H'/\jV (er (bw (a::Z) Θ env σ) H') H' a d
 |.ce n,v=>Sm K Z Θ env C σ H'/\∃a,v=.ref a/\Θ[n]?=aj a
 |.sc ns,v=>Sm K Z Θ env C σ H'/\∃a,v=.ref a/\bK K (er (bw Z Θ env σ) H') a (ns.map V.int)
 |.tp _ _ _,_=>False
def zE(E T:Hp):aA->V->Prop
 |.list ds,v=>∃a vs,v=.ref a/\T a=aj (.lst vs)/\bW E ds vs
 |.dict kvs,v=>∃a vs,v=.ref a/\zB T a kvs vs/\jq E kvs vs
 |d,v=>RZ E d v
theorem zE.same(s:bD E E')(t:bD T T')(h:zE E T d v):zE E' T' d v:=by
 cases d<;>first|exact RZ.same s h|skip
 .obtain⟨a,vs,e,q,r⟩:=h
  exact⟨a,vs,e,t _ _ q,r.same s⟩
 .obtain⟨a,vs,e,q,r⟩:=h
  exact⟨a,vs,e,q.same t,r.same s⟩
theorem RZ.bor(t:bD E T)(h:RZ E d v):zE E T d v:=by
 cases d<;>first|exact h|skip
 .obtain⟨a,vs,e,q,r⟩:=h
  exact⟨a,vs,e,t _ _ q,r⟩
 .obtain⟨a,vs,e,q,r⟩:=h
  exact⟨a,vs,e,q.same t,r⟩
abbrev fZ(Z Θ:List az)(env:En)(σ:St)(H:Hp)(d:aA)(v:V):Prop:=zE (er (bw Z Θ env σ) H) (er Θ H) d v
theorem ud(h:∀a,a∈Z'->a∈Z):bD (er Z H) (er Z' H):=mj (bz.refl [] H) (λ_ m=>nomatch m) λb m=>.inl (h b m)
theorem ab1:bD (er (bw Z Θ env σ) H) (er Θ H):=ud λa m=>fP _ (iY _ m)
theorem Fz.sub(f:Fz env env'):∀a,a∈bw Z Θ env' σ->a∈bw Z Θ env σ:=λa m=>
 (Hs (zU _) (Hs (zU _) f.own)).subset m
theorem Td(S:Sm K Z Θ env C σ H)(k:bz Θ H H')(f:Fz env env'):bD (er (bw Z Θ env σ) H) (er (bw Z Θ env' σ) H'):=mj k S.uA λa m=>.inl (f.sub a m)
theorem abm(k:bz Θ H H'):bD (er Θ H) (er Θ H'):=mj k (λ_ m=>m) λa m=>.inl m
theorem fZ.go(h:fZ Z Θ env σ H d v)(S:Sm K Z Θ env C σ H)(k:bz Θ H H')(f:Fz env env'):fZ Z Θ env' σ H' d v:=zE.same (Td S k f) (abm k) h
def dat:Vl->Option aA
 |.im d=>aj d
 |.ow d=>aj d
 |.ce _=>ao
 |.sc _=>ao
 |.tp _ _ _=>ao
theorem Res.sm(h:Res K Z Θ env C σ H H' r v):Sm K Z Θ env C σ H':=by
 cases r with
 |im d=>exact h.1
 |ow d=>obtain⟨a,_,_,S,_⟩:=h;exact S.pop
 |ce n=>exact h.1
 |sc ns=>exact h.1
 |tp=>exact h.elim
theorem Res.bor(h:Res K Z Θ env C σ H H' r v)(e:dat r=aj d):fZ Z Θ env σ H' d v:=by
 cases r with
 |im d'=>cases e;exact RZ.bor ab1 h.2
 |ow d'=>
  cases e
  obtain⟨a,rfl,_,S,r⟩:=h
  have na:a∉Θ:=λm=>(kI.mp S.nd).1 (fP _ (iY _ m))
  have sm:bD (er (bw (a::Z) Θ env σ) H') (er (bw Z Θ env σ) H'):=ud λb m=>dB _ m
  have ha:∀o,H' a=aj o->er Θ H' a=aj o:=λo ho=>by unfold er;rw[aY na];exact ho
  cases d<;>first|exact r.elim|skip
  .obtain⟨vs,e,q⟩:=r
   exact⟨a,vs,rfl,ha _ e,q.same sm⟩
  .obtain⟨vs,e,q⟩:=r
   refine⟨a,vs,rfl,?_,q.same sm⟩
   rcases e with⟨ks,k,e⟩|⟨ks,k,e⟩
   .exact .inl ⟨ks,k,ha _ e⟩
   .exact .inr ⟨ks,k,ha _ e⟩
 |ce n=>cases e
 |sc ns=>cases e
 |tp=>cases e
def still:Vl->Vl
 |.ow d=>.im d
 |r=>r
theorem Res.still(h:Res K Z Θ env C σ H H' r v):Res K Z Θ env C σ H H' (still r) v:=by
 cases r with
 |ow d=>
  obtain⟨a,rfl,hn,S,r⟩:=h
  refine⟨S.pop,jV.rz (H:=H') (λo ho=>?_) (r.same (ud λb m=>dB _ m) λ_ h=>h)⟩
  unfold er;rw[aY (show ¬a∈bw Z Θ env σ from(kI.mp S.nd).1)];exact ho
 |im d=>exact h
 |ce n=>exact h
 |sc ns=>exact h
 |tp=>exact h
theorem Res.from(h:Res K Z Θ env C σ H H' r v)(k:bz Θ H0 H):Res K Z Θ env C σ H0 H' r v:=by
 cases r with
 |ow d=>
  obtain⟨a,e,hn,S,r⟩:=h
  exact⟨a,e,k.none hn,S,r⟩
 |im d=>exact h
 |ce n=>exact h
 |sc ns=>exact h
 |tp=>exact h
theorem Ga(S:Sm K Z Θ env C σ H)(h:H a=aj (.tup vs)):er (bw Z Θ env σ) H a=aj (.tup vs):=by
 unfold er;rw[aY]
 .exact h
 .intro m
  obtain⟨u,e,n⟩:=S.Lf a m
  rw[h] at e;exact n vs (jb e).symm
def rst(r:Vl)(env env':En):En:=match r with
 |.im d=>if jP d then env else env'
 |_=>env'
theorem Res.rst(S:Sm K Z Θ env C σ H)(k:bz Θ H H')(h:Res K Z Θ env' C' σ H H' r v):Res K Z Θ (rst r env env') C' σ H H' r v:=by
 cases r with
 |im d=>
  by_cases f:L2.jP d=au
  .have:L2.rst (.im d) env env'=env:=aZ f;rw[this];have S':=S.go k h.1.cell
   exact⟨S',h.2.jP (λa vs e=>Ga S' (ir e)) f⟩
  .have:L2.rst (.im d) env env'=env':=aY f;rw[this];exact h
 |ow d=>exact h
 |ce n=>exact h
 |sc ns=>exact h
 |tp=>exact h
theorem Fz.rst(r:Vl)(f:Fz env env'):Fz env (rst r env env'):=by
 cases r with
 |im d=>
  show Fz env (if L2.jP d then env else env');split
  .exact Fz.refl _
  .exact f
 |ow d=>exact f
 |ce n=>exact f
 |sc ns=>exact f
 |tp=>exact f
theorem jD(S:Sm K Z Θ env C σ H)(f:lZ d=au)(hv:v=toV d):Res K Z Θ env C σ H H (.im d) v:=⟨S,by rw[hv];exact aj3 f⟩
theorem qx(S:Sm K Z Θ env C σ H)(r:bW (er (bw Z Θ env σ) H) ds vs)(hp:H p=ao):Res K Z Θ env C σ H (upd H p (.lst vs)) (.ow (.list ds)) (.ref p):=by
 refine⟨p,rfl,hp,S.push hp _ (λ_ z=>nomatch z),vs,f9,r.same (mj (bz.upd (Θ:=Θ) hp) S.uA λb m=>?_)⟩
 rcases bJ.mp m with rfl|m
 .exact .inr hp
 .exact .inl m
theorem JZ(S:Sm K Z Θ env C σ H)(r:bW (er (bw Z Θ env σ) H) ds vs)(hp:H p=ao):Res K Z Θ env C σ H (upd H p (.tup vs)) (.im (.tuple ds)) (.ref p):=by
 have S':=S.Ck (bD.upd (o:=.tup vs) hp)
 refine⟨S',p,vs,rfl,?_,r.same (mj (bz.upd (Θ:=Θ) hp) S.uA λb m=>.inl m)⟩
 unfold er;rw[aY (λm=>S.zf p m hp),f9]
end
theorem hide{P:Prop}(h:∀G:Prop,(P->G)->G):P:=h P id
inductive acN{α β:Type}(o:Option α)(g:α->Option β)(y:β):Prop
 |mk (x:α) (h1:o=aj x) (h2:g x=aj y):acN o g y
theorem jE(h:o.bind g=aj y):acN o g y:=by
 cases o with
 |none=>cases h
 |some x=>exact⟨x,rfl,h⟩
def sI:Vl->Option aA
 |.im y=>aj y
 |_=>ao
theorem Gb(h:sI x=aj y):x=.im y:=by
 cases x<;>cases h;rfl
def KR:aA->Option Str
 |.str z=>aj z
 |_=>ao
theorem aj5(h:KR d=aj z):d=.str z:=by
 cases d<;>cases h;rfl
def intD:aA->Option Int
 |.int k=>aj k
 |_=>ao
theorem Rq(h:intD d=aj k):d=.int k:=by
 cases d<;>cases h;rfl
abbrev FE:=En->Ce->Option (Vl×En×Ce)
abbrev FB:=En->Ce->Option (aA×En×Ce)
abbrev FT:=En->Ce->Option (Bool×Ce)
abbrev xN:=En->Ce->Option (List aA×En×Ce)
abbrev FA:=En->Ce->Option (List Vl×En×Ce)
inductive tE(K:aJ)(f:FE)(σ:St)(H:Hp)(Q:VK):Prop
 |mk (Z Θ:List az) (env:En) (C:Ce) (r:Vl) (env':En) (C':Ce) (S:Sm K Z Θ env C σ H) (hf:f env C=aj (r,env',C')) (q:∀v H',bz Θ H H'->Fz env env'->Res K Z Θ env' C' σ H H' r v->Q v H'):tE K f σ H Q
inductive fM(K:aJ)(f:FB)(σ:St)(H:Hp)(Q:VK):Prop
 |mk (Z Θ:List az) (env:En) (C:Ce) (d:aA) (env':En) (C':Ce) (S:Sm K Z Θ env C σ H) (hf:f env C=aj (d,env',C')) (q:∀v H',bz Θ H H'->Fz env env'->Sm K Z Θ env' C' σ H'->fZ Z Θ env' σ H' d v->Q v H'):fM K f σ H Q
inductive fO(K:aJ)(f:FT)(σ:St)(H:Hp)(Q:Bool->Hp->Prop):Prop
 |mk (Z Θ:List az) (env:En) (C:Ce) (b:Bool) (C':Ce) (S:Sm K Z Θ env C σ H) (hf:f env C=aj (b,C')) (q:∀H',bz Θ H H'->Sm K Z Θ env C' σ H'->Q b H'):fO K f σ H Q
inductive zg(E T:Hp):List aA->List V->Prop
 |nil:zg E T [] []
 |cons {d:aA} {v:V} {ds:List aA} {vs:List V}:zE E T d v->zg E T ds vs->zg E T (d::ds) (v::vs)
abbrev Kr(Z Θ:List az)(env:En)(σ:St)(H:Hp)(ds:List aA)(vs:List V):Prop:=zg (er (bw Z Θ env σ) H) (er Θ H) ds vs
inductive xO(K:aJ)(f:xN)(σ:St)(H:Hp)(Q:List V->Hp->Prop):Prop
 |mk (Z Θ:List az) (env:En) (C:Ce) (ds:List aA) (env':En) (C':Ce) (S:Sm K Z Θ env C σ H) (hf:f env C=aj (ds,env',C')) (q:∀vs H',bz Θ H H'->Fz env env'->Sm K Z Θ env' C' σ H'->Kr Z Θ env' σ H' ds vs->Q vs H'):xO K f σ H Q
theorem PE.weak(h:PE X e t)(w:∀σ H Q,t' σ H Q->t σ H Q):PE X e t':=λpins s σ H Q I q=>h pins s σ H Q I (w σ H Q q)
theorem PT.weak(h:PT X e t)(w:∀σ H Q,t' σ H Q->t σ H Q):PT X e t':=λpins s σ H Q I q=>h pins s σ H Q I (w σ H Q q)
theorem PA.weak(h:PA X e t)(w:∀σ H Q,t' σ H Q->t σ H Q):PA X e t':=λp pins s σ H Q I q=>h p pins s σ H Q I (w σ H Q q)
theorem PS.weak(h:PS X e t)(w:∀D σ H,t' D σ H->t D σ H):PS X e t':=λpins s σ H D I q=>h pins s σ H D I (w D σ H q)
theorem jA.weak(h:jA X e t)(w:∀D σ H,t' D σ H->t D σ H):jA X e t':=λpins s σ H D I q=>h pins s σ H D I (w D σ H q)
theorem PW.weak(h:PW X e t)(w:∀σ H Q,t' σ H Q->t σ H Q):PW X e t':=λwh pins s σ H Q I q=>h wh pins s σ H Q I (w σ H Q q)
def aQ(i:Nat):FE:=λenv C=>match env[i]? with
 |some (some (.im d))=>aj (.im d,env,C)
 |some (some (.ow d))=>aj (.im d,env.set i (aj (.im d)),C)
 |some (some (.ce n))=>aj (.ce n,env,C)
 |some (some (.sc ns))=>aj (.sc ns,env,C)
 |_=>ao
def aO(i:Nat):FB:=λenv C=>match env[i]? with
 |some (some x)=>(dat x).map λd=>(d,env,C)
 |_=>ao
def aM(d:aA):FE:=λenv C=>aj (.im d,env,C)
def aH(f:FE):FB:=λenv C=>match f env C with
 |some (r,e',C')=>(dat r).map λd=>(d,e',C')
 |none=>ao
theorem abn:∀{env:En}{i:Nat}{d:aA},env[i]?=aj (aj (.ow d))->Fz env (env.set i (aj (.im d)))
 |[],i,d,e=>by simp at e
 |x::r,0,d,e=>by simp at e;subst e;exact⟨.inr ⟨d,rfl,rfl⟩,Fz.refl r⟩
 |x::r,i+1,d,e=>⟨.inl rfl,abn (by simpa using e)⟩
section
variable{X:Cx}{e:Expr}{i:Nat}
theorem aR(h:PE X e (uq i)):PE X e (tE X.K (aQ i)):=h.weak λσ H Q aP=>by
 obtain⟨Z,Θ,env,C,r,env',C',S,hf,q⟩:=aP
 unfold aQ at hf;split at hf;all_goals first|(rename_i d hd;cases hf)|cases hf
 .obtain⟨v,e1,r⟩:=S.slot i _ hd
  exact⟨v,e1,q v H (bz.refl _ _) (Fz.refl _) ⟨S,r⟩⟩
 .have f:=abn hd
  obtain⟨v,e1,r⟩:=S.slot i _ hd
  have S':=S.fz f
  refine⟨v,e1,q v H (bz.refl _ _) f ⟨S',?_⟩⟩
  have hi:i<env.length:=by
   have:=kj.mp hd;exact this.1
  obtain⟨v',e2,r'⟩:=S'.slot i (.im d) (by rw[DG,aZ rfl,aZ hi])
  rw[e1] at e2;cases e2;exact r'
 .obtain⟨v,e1,r⟩:=S.slot i _ hd
  exact⟨v,e1,q v H (bz.refl _ _) (Fz.refl _) ⟨S,r⟩⟩
 .obtain⟨v,e1,r⟩:=S.slot i _ hd
  exact⟨v,e1,q v H (bz.refl _ _) (Fz.refl _) ⟨S,r⟩⟩
theorem aU(h:PE X e (uq i)):PE X e (fM X.K (aO i)):=h.weak λσ H Q aP=>by
 obtain⟨Z,Θ,env,C,d,env',C',S,hf,q⟩:=aP
 unfold aO at hf;split at hf
 .rename_i x hx
  obtain⟨v,e1,r⟩:=S.slot i _ hx
  have ex:dat x=aj d/\env=env'/\C=C':=by
   cases hd:dat x with
   |none=>rw[hd] at hf;cases hf
   |some d'=>rw[hd] at hf;cases hf;exact⟨rfl,rfl,rfl⟩
  obtain⟨ex,rfl,rfl⟩:=ex
  refine⟨v,e1,q v H (bz.refl _ _) (Fz.refl _) S ?_⟩
  cases x with
  |im d'=>cases ex;exact RZ.bor ab1 r
  |ow d'=>
   cases ex
   obtain⟨a,rfl,r⟩:=r
   have na:=(S.nM (mL.mpr ⟨i,_,hx,e1⟩)).2;have ha:∀o,H a=aj o->er Θ H a=aj o:=λo ho=>by unfold er;rw[aY na];exact ho
   cases d<;>first|exact r.elim|skip
   .obtain⟨vs,e,q⟩:=r
    exact⟨a,vs,rfl,ha _ e,q⟩
   .obtain⟨vs,e,q⟩:=r
    refine⟨a,vs,rfl,?_,q⟩
    rcases e with⟨ks,k,e⟩|⟨ks,k,e⟩
    .exact .inl ⟨ks,k,ha _ e⟩
    .exact .inr ⟨ks,k,ha _ e⟩
  |ce n=>cases ex
  |sc ns=>cases ex
  |tp=>cases ex
 .cases hf
theorem aN(h:PE X e (tC v))(f:lZ d=au:=by rfl)(hv:v=toV d:=by rfl):PE X e (tE X.K (aM d)):=h.weak λσ H Q aP=>by
 obtain⟨Z,Θ,env,C,r,env',C',S,hf,q⟩:=aP
 cases hf;exact q v H (bz.refl _ _) (Fz.refl _) (jD S f hv)
theorem aK(h:PE X e (tE X.K f)):PE X e (fM X.K (aH f)):=h.weak λσ H Q aP=>by
 obtain⟨Z,Θ,env,C,d,env',C',S,hf,q⟩:=aP
 unfold aH at hf;split at hf
 .rename_i r e' C1 hr;cases hd:dat r with
  |none=>rw[hd] at hf;cases hf
  |some d'=>
   rw[hd] at hf;cases hf
   exact⟨Z,Θ,env,C,r,env',C',S,hr,λv H' k f R=>q v H' k f R.sm (R.bor hd)⟩
 .cases hf
end
def gU:Nat:=1000000
theorem u6(h:n<=gU):n<=bU:=by rw[jR];unfold gU at h;lia
def gA(K:aJ)(r:R2)(op:aA->aA->Option Vl):Prop:=
 ∀(Z Θ:List az)(env:En)(C:Ce)(σ:St)(H:Hp)(x y:V)(dx dy:aA)(res:Vl),Sm K Z Θ env C σ H->fZ Z Θ env σ H dx x->fZ Z Θ env σ H dy y->op dx dy=aj res->
  ∀Q:VK,(∀v H',bz Θ H H'->Res K Z Θ env C σ H H' res v->Q v H')->r x y H Q
def bu(op:aA->aA->Option Vl)(fa fb:FB):FE:=λenv C=>match fa env C with
 |some (x,e1,C1)=>match fb e1 C1 with
  |some (y,e2,C2)=>match op x y with
   |some r=>aj (r,rst r env e2,C2)
   |none=>ao
  |none=>ao
 |none=>ao
theorem Jw{K:aJ}{r:R2}{op:aA->aA->Option Vl}(L:gA K r op){fa fb:FB}:∀σ H Q,tE K (bu op fa fb) σ H Q->G3 r (fM K fa) (fM K fb) σ H Q:=by
 rintro σ H Q ⟨Z,Θ,env,C,res,env',C',S,hf,q⟩;unfold bu at hf;split at hf
 .rename_i x e1 C1 h1;split at hf
  .rename_i y e2 C2 h2;split at hf
   .rename_i r0 h3;cases hf
    refine⟨Z,Θ,env,C,x,e1,C1,S,h1,λv H1 k1 f1 S1 b1=>⟨Z,Θ,e1,C1,y,e2,C',S1,h2,λu H2 k2 f2 S2 b2=>?_⟩⟩
    refine L Z Θ e2 C' σ H2 v u x y res S2 (b1.go S1 k2 f2) b2 h3 Q λz H3 k3 R=>?_
    have k:=(k1.trans k2).trans k3;exact q z H3 k ((f1.trans f2).rst res) ((R.from (k1.trans k2)).rst S k)
   .cases hf
  .cases hf
 .cases hf
section
variable{X:Cx}{a b:Expr}{fa fb:FB}{pos:Pos}{r:R2}{op:aA->aA->Option Vl}
theorem cj(ho:cX X (nG o) r)(L:gA X.K r op)(ha:PE X a (fM X.K fa))(hb:PE X b (fM X.K fb)):PE X (.BinOp a o b pos) (tE X.K (bu op fa fb)):=(al0 ho ha hb).weak (Jw L)
theorem lA(ho:cX X (fj o) r)(L:gA X.K r op)(ha:PE X a (fM X.K fa))(hb:PE X b (fM X.K fb))(hm:Eb o b=aD):PE X (.Compare a [o] [b] pos) (tE X.K (bu op fa fb)):=(ajz ho ha hb hm).weak (Jw L)
theorem mW(ho:qR X r)(L:gA X.K r op)(ha:PE X a (fM X.K fa))(hb:PE X b (fM X.K fb))(hs:JP b):PE X (.Subscript a b pos) (tE X.K (bu op fa fb)):=(S8 ho ha hb hs).weak (Jw L)
end
theorem gA.or{K:aJ}{r r':R2}{op op':aA->aA->Option Vl}(h:gA K r op)(h':gA K r' op'):gA K (λx y H Q=>r x y H Q\/r' x y H Q) (λx y=>match op x y with|some z=>aj z|none=>op' x y):=by
 intro Z Θ env C σ H x y dx dy res S bx dM e Q q;cases h1:op dx dy with
 |some z=>
  simp only[h1] at e;cases e;exact .inl (h Z Θ env C σ H x y dx dy _ S bx dM h1 Q q)
 |none=>
  simp only[h1] at e;exact .inr (h' Z Θ env C σ H x y dx dy res S bx dM e Q q)
section
variable{K:aJ}{Z Θ:List az}{env:En}{C:Ce}{σ:St}{H:Hp}{x:V}
theorem fZ.int(h:fZ Z Θ env σ H (.int i) x):x=.int i:=h
theorem fZ.str(h:fZ Z Θ env σ H (.str i) x):x=.str i:=h
theorem fZ.tup(h:fZ Z Θ env σ H (.tuple ds) x):∃a vs,x=.ref a/\H a=aj (.tup vs)/\bW (er (bw Z Θ env σ) H) ds vs:=by
 obtain⟨a,vs,e,q,r⟩:=h
 exact⟨a,vs,e,ir q,r⟩
theorem fZ.lst(h:fZ Z Θ env σ H (.list ds) x):∃a vs,x=.ref a/\H a=aj (.lst vs)/\bW (er (bw Z Θ env σ) H) ds vs:=by
 obtain⟨a,vs,e,q,r⟩:=h
 exact⟨a,vs,e,ir q,r⟩
theorem fZ.dct(h:fZ Z Θ env σ H (.dict kvs) x):∃a vs,x=.ref a/\zB H a kvs vs/\jq (er (bw Z Θ env σ) H) kvs vs:=by
 obtain⟨a,vs,e,q,r⟩:=h
 exact⟨a,vs,e,q.same (Cj _ _),r⟩
theorem fZ.flat(f:lZ d=au)(h:fZ Z Θ env σ H d x):x=toV d:=by
 cases d<;>first|exact h|cases f
theorem fZ.rx(n:oA d=au)(h:fZ Z Θ env σ H d x):RX H d x:=by
 cases d<;>first|exact h|skip
 .obtain⟨a,vs,e,q,r⟩:=h
  exact⟨a,vs,e,ir q,(r.same (Cj _ _)).rx n⟩
 .obtain⟨a,vs,e,q,r⟩:=h
  exact⟨a,vs,e,ir q,(r.same (Cj _ _)).rx n⟩
 .cases n
end
section
variable{X:Cx}
def cL:aA->aA->Option Vl
 |.int i,.int j=>aj (.im (.int (i+j)))
 |.str x,.str y=>if x.length+y.length<=gU then aj (.im (.str (x++y))) else ao
 |.list xs,.list ys=>if xs.length+ys.length<=gU then aj (.ow (.list (xs++ys))) else ao
 |.tuple xs,.tuple ys=>if xs.isEmpty then aj (.im (.tuple ys)) else if xs.length+ys.length<=gU then aj (.im (.tuple (xs++ys))) else ao
 |_,_=>ao
def ab2(K:aJ):R2:=λx y H Q=>∃a b ys,x=.ref a/\y=.ref b/\cz K H a []/\cz K H b ys/\Q (.ref b) H
theorem aj6:cX X (nG .Add) (ab2 X.K):=by
 intro pins s σ H x y v u Q I rx ry h
 obtain⟨a,b,ys,rfl,rfl,ha,hb,q⟩:=h
 cases rx;cases ry
 obtain⟨its,r1,p1,_⟩:=I.tuple ha
 obtain⟨its2,r2,p2,_⟩:=I.tuple hb
 obtain⟨⟨cls,dd,data,sl⟩,ho,hc,n,hd⟩:=id p1
 obtain⟨⟨cls2,dd2,data2,sl2⟩,ho2,hc2,n2,hd2⟩:=id p2
 simp only at hc hd hc2 hd2;subst hc hd hc2 hd2;exact Xg ⟨_,ho,rfl⟩ ⟨_,ho2,rfl⟩ Wa W5 Vr Vq (Vm _ _)
  (tuple_addW0 a b its.toArray its2.toArray n n2 dd dd2 sl sl2 (by cases r1;rfl)) ⟨ho,ho2,⟨.ref b,H,I,rfl,q⟩⟩
def ab3(K:aJ):R2:=λx y H Q=>(((p6 λi j=>.int (i+j)) x y H Q\/∃i j,x=.str i/\y=.str j/\i.length+j.length<=bU/\Q (.str (i++j)) H)\/acH x y H Q)\/ab2 K x y H Q\/abU K x y H Q
theorem fD:cX X (nG .Add) (ab3 X.K):=((akX.or agT).or alb).or (aj6.or ajH)
theorem fG{K:aJ}:gA K (ab3 K) cL:=by
 intro Z Θ env C σ H x y dx dy res S bx dM e Q q;unfold cL at e;split at e
 .cases e;cases bx.int;cases dM.int;exact .inl (.inl (.inl ⟨_,_,rfl,rfl,q _ _ (bz.refl _ _) (jD S rfl rfl)⟩))
 .split at e
  .rename_i hl;cases e;cases bx.str;cases dM.str;exact .inl (.inl (.inr ⟨_,_,rfl,rfl,u6 hl,q _ _ (bz.refl _ _) (jD S rfl rfl)⟩))
  .cases e
 .split at e
  .rename_i hl;cases e
   obtain⟨a,vs,rfl,ha,r1⟩:=bx.lst
   obtain⟨b,ws,rfl,hb,r2⟩:=dM.lst
   exact .inl (.inr ⟨a,b,vs,ws,rfl,rfl,ha,hb,by rw[jc r1,jc r2];exact u6 hl,λp hp=>q _ _ (bz.upd hp) (qx S (Bm r1 r2) hp)⟩)
  .cases e
 .split at e
  .rename_i xs ys he;cases e;have:xs=[]:=List.isEmpty_iff.mp he;subst this;have by2:=dM
   obtain⟨a,vs,rfl,ha,r1⟩:=bx.tup
   obtain⟨b,ws,rfl,hb,r2⟩:=dM.tup
   cases(show vs=[] from r1)
   exact .inr (.inl ⟨a,b,ws,rfl,rfl,cz.of ha,cz.of hb,q _ _ (bz.refl _ _) ⟨S,by2⟩⟩)
  split at e
  .rename_i xs ys he hl;cases e
   obtain⟨a,vs,rfl,ha,r1⟩:=bx.tup
   obtain⟨b,ws,rfl,hb,r2⟩:=dM.tup
   have l1:=jc r1;have l2:=jc r2;have hv:vs≠[]:=λz=>by
    subst z;cases xs with
    |nil=>exact he rfl
    |cons _ _=>cases l1
   refine .inr (.inr ⟨a,b,vs,ws,rfl,rfl,cz.of ha,cz.of hb,hv,by rw[l1,l2];exact u6 hl,λz=>?_,λ_ p hp=>q _ _ (bz.upd hp) (JZ S (Bm r1 r2) hp)⟩);subst z;have:ys=[]:=List.eq_nil_of_length_eq_zero l2.symm;subst this;rw[lq] at q;refine q _ _ (bz.refl _ _) ⟨S,?_⟩;exact bx
  .cases e
 .cases e
def Ks:aA->aA->Option Vl
 |.int i,.int j=>aj (.im (.int (i-j)))
 |_,_=>ao
theorem Rr{K:aJ}{g:Int->Int->V}{op:aA->aA->Option Vl}(h:∀dx dy res,op dx dy=aj res->∃i j d,dx=.int i/\dy=.int j/\res=.im d/\lZ d=au/\g i j=toV d):gA K (p6 g) op:=by
 intro Z Θ env C σ H x y dx dy res S bx dM e Q q
 obtain⟨i,j,d,rfl,rfl,rfl,f,hv⟩:=h _ _ _ e
 cases bx.int;cases dM.int
 exact⟨_,_,rfl,rfl,q _ _ (bz.refl _ _) (jD S f hv)⟩
theorem Ka{K:aJ}{Cn:Int->Int->Prop}{g:Int->Int->V}{op:aA->aA->Option Vl}(h:∀dx dy res,op dx dy=aj res->∃i j d,dx=.int i/\dy=.int j/\res=.im d/\lZ d=au/\g i j=toV d/\Cn i j):gA K (rI Cn g) op:=by
 intro Z Θ env C σ H x y dx dy res S bx dM e Q q
 obtain⟨i,j,d,rfl,rfl,rfl,f,hv,c⟩:=h _ _ _ e
 cases bx.int;cases dM.int
 exact⟨_,_,rfl,rfl,c,q _ _ (bz.refl _ _) (jD S f hv)⟩
theorem alm{K:aJ}:gA K (p6 λi j=>.int (i-j)) Ks:=Rr λdx dy res e=>by
 unfold Ks at e;split at e<;>cases e
 exact⟨_,_,_,rfl,rfl,rfl,rfl,rfl⟩
def rO:aA->aA->Option Vl
 |.int i,.int j=>if 0<j then aj (.im (.int (i%j))) else ao
 |_,_=>ao
theorem Bw{K:aJ}:gA K (rI (λ_ j=>0<j) λi j=>.int (i%j)) rO:=Ka λdx dy res e=>by
 unfold rO at e;split at e
 .split at e
  .rename_i h;cases e;exact⟨_,_,_,rfl,rfl,rfl,rfl,rfl,h⟩
  .cases e
 .cases e
def By:aA->aA->Option Vl
 |.int i,.int j=>if 0<j/\j<1073741824 then aj (.im (.int (i / j))) else ao
 |_,_=>ao
theorem aax{K:aJ}:gA K (rI acB λi j=>.int (i / j)) By:=Ka λdx dy res e=>by
 unfold By at e;split at e
 .split at e
  .rename_i h;cases e;exact⟨_,_,_,rfl,rfl,rfl,rfl,rfl,h⟩
  .cases e
 .cases e
def oR:aA->aA->Option Vl
 |.int i,.int j=>if 0<=j/\j<=1000000/\i.natAbs<2^64 then aj (.im (.int (i^j.toNat))) else ao
 |_,_=>ao
theorem BJ{K:aJ}:gA K (rI acC λi j=>.int (i^j.toNat)) oR:=Ka λdx dy res e=>by
 unfold oR at e;split at e
 .split at e
  .rename_i h;cases e;exact⟨_,_,_,rfl,rfl,rfl,rfl,rfl,h⟩
  .cases e
 .cases e
def pP:aA->aA->Option Vl
 |.int i,.int j=>if(-(2^64)<i/\i<2^64)\/(-(2^64)<j/\j<2^64) then aj (.im (.int (i*j))) else ao
 |_,_=>ao
theorem yK{K:aJ}:gA K (rI Gw λi j=>.int (i*j)) pP:=Ka λdx dy res e=>by
 unfold pP at e;split at e
 .split at e
  .rename_i h;cases e;exact⟨_,_,_,rfl,rfl,rfl,rfl,rfl,h⟩
  .cases e
 .cases e
end
section
variable{X:Cx}
def xP:aA->aA->Option Bool
 |.int i,.int j=>aj (i==j)
 |.str x,.str y=>aj (x==y)
 |.bool a,.bool b=>aj (a==b)
 |d,e=>if oA d&&oA e&&(lg d&&lg e) then aj (yr d e) else ao
def jW(d e:aA):Option Vl:=(xP d e).map λb=>.im (.bool b)
def m9(d e:aA):Option Vl:=(xP d e).map λb=>.im (.bool (!b))
theorem ahc(hu:X.A.units+64<gJ):cX X (fj .Eq) (λx y H Q=>∃d e,RX H d x/\RX H e y/\lg d=au/\lg e=au/\Q (.bl (yr d e)) H):=by
 intro pins s σ H x y v u Q I rx ry h
 obtain⟨d,e,hd,he,h1,h2,q⟩:=h
 obtain⟨as,ra⟩:=RD.reads I (hd.rd (K:=X.K)) rx
 obtain⟨bs,rb⟩:=RD.reads I (he.rd (K:=X.K)) ry
 exact PySem.SeqAt.compareEq_shaped ra rb h1 h2 hu ⟨.bl _,H,I,rfl,q⟩
def acO:R2:=λx y H Q=>rEq x y H Q\/∃d e,RX H d x/\RX H e y/\lg d=au/\lg e=au/\Q (.bl (yr d e)) H
def acP:R2:=λx y H Q=>rNe x y H Q\/∃d e,RX H d x/\RX H e y/\lg d=au/\lg e=au/\Q (.bl (!PyData.eqv d e)) H
theorem nO(hu:X.A.units+64<gJ):cX X (fj .Eq) acO:=al2.or (ahc hu)
theorem Gd(hu:X.A.units+64<gJ):cX X (fj .NotEq) acP:=al3.or (ag4 hu)
theorem YJ(h:xP d e=aj b):(lZ d=au/\lZ e=au/\Tv (toV d) (toV e)=au/\b=decide (toV d=toV e))\/(oA d=au/\oA e=au/\lg d=au/\lg e=au/\b=yr d e):=by
 unfold xP at h;split at h
 .cases h;exact .inl ⟨rfl,rfl,rfl,Rf.symm⟩
 .cases h;exact .inl ⟨rfl,rfl,rfl,Rg.symm⟩
 .cases h;exact .inl ⟨rfl,rfl,rfl,RW.symm⟩
 .split at h
  .rename_i q;cases h;rw[jl,jl,jl] at q;exact .inr ⟨q.1.1,q.1.2,q.2.1,q.2.2,rfl⟩
  .cases h
theorem nR{K:aJ}:gA K acO jW:=by
 intro Z Θ env C σ H x y dx dy res S bx dM e Q q;unfold jW at e;cases h:xP dx dy with
 |none=>rw[h] at e;cases e
 |some b=>
  rw[h] at e;cases e;have fin:=q (.bl b) H (bz.refl _ _) (jD S rfl rfl);rcases YJ h with⟨f1,f2,sc,eb⟩|⟨n1,n2,s1,s2,eb⟩
  .rw[bx.flat f1,dM.flat f2];rw[eb] at fin;exact .inl ⟨sc,fin⟩
  .rw[eb] at fin;exact .inr ⟨dx,dy,bx.rx n1,dM.rx n2,s1,s2,fin⟩
theorem Gj{K:aJ}:gA K acP m9:=by
 intro Z Θ env C σ H x y dx dy res S bx dM e Q q;unfold m9 at e;cases h:xP dx dy with
 |none=>rw[h] at e;cases e
 |some b=>
  rw[h] at e;cases e;have fin:=q (.bl (!b)) H (bz.refl _ _) (jD S rfl rfl);rcases YJ h with⟨f1,f2,sc,eb⟩|⟨n1,n2,s1,s2,eb⟩
  .rw[bx.flat f1,dM.flat f2];rw[eb] at fin;exact .inl ⟨sc,fin⟩
  .rw[eb] at fin;exact .inr ⟨dx,dy,bx.rx n1,dM.rx n2,s1,s2,fin⟩
def strLt(x y:Str):Bool:=decide (x.cps.toList<y.cps.toList)
def ab4(xs ys:List aA):Option Bool:=match keysOf xs,keysOf ys with
 |some ks,some js=>if ks.map bH=js.map bH then aj (dg ks js) else ao
 |_,_=>ao
def vK:aA->aA->Option Vl
 |.int i,.int j=>aj (.im (.bool (decide (i<j))))
 |.str x,.str y=>aj (.im (.bool (strLt x y)))
 |.tuple xs,.tuple ys=>(ab4 xs ys).map λb=>.im (.bool b)
 |_,_=>ao
theorem yw:∀{ds:List aA}{ks:List Key}{vs:List V},keysOf ds=aj ks->bW E ds vs->vs=ks.map kV
 |[],ks,vs,h,r=>by cases h;exact r
 |d::ds,ks,vs,h,r=>by
  unfold keysOf at h;split at h
  .rename_i k t h1 h2;cases h
   obtain⟨u,w,e1,q,s⟩:=r
   rw[e1,yw h2 s];have:u=kV k:=by
    cases d<;>first|(cases h1;exact q)|cases h1
   rw[this];rfl
  .cases h
def ank:R2:=λx y H Q=>(∃a b,x=kV a/\y=kV b/\bH a=bH b/\Q (.bl (kLt a b)) H)\/∃a b ks js,x=.ref a/\y=.ref b/\H a=aj (.tup (ks.map kV))/\H b=aj (.tup (js.map kV))/\ks.map bH=js.map bH/\Q (.bl (dg ks js)) H
theorem ab5{K:aJ}:gA K ank vK:=by
 intro Z Θ env C σ H x y dx dy res S bx dM e Q q;unfold vK at e;split at e
 .cases e;cases bx.int;cases dM.int;exact .inl ⟨.inl _,.inl _,rfl,rfl,rfl,q _ _ (bz.refl _ _) (jD S rfl rfl)⟩
 .cases e;cases bx.str;cases dM.str;exact .inl ⟨.inr _,.inr _,rfl,rfl,rfl,q _ _ (bz.refl _ _) (jD S rfl rfl)⟩
 .rename_i xs ys;unfold ab4 at e;split at e
  .rename_i ks js h1 h2;split at e
   .rename_i ht;cases e
    obtain⟨a,vs,rfl,ha,r1⟩:=bx.tup
    obtain⟨b,ws,rfl,hb,r2⟩:=dM.tup
    rw[yw h1 r1] at ha;rw[yw h2 r2] at hb;exact .inr ⟨a,b,ks,js,rfl,rfl,ha,hb,ht,q _ _ (bz.refl _ _) (jD S rfl rfl)⟩
   .cases e
  .cases e
 .cases e
def j7:aA->aA->Option Vl
 |.int i,.int j=>aj (.im (.bool (decide (i<=j))))
 |.str x,.str y=>aj (.im (.bool (!strLt y x)))
 |_,_=>ao
def acQ:R2:=λx y H Q=>(p6 λi j=>.bl (decide (i<=j))) x y H Q\/∃i j,x=.str i/\y=.str j/\Q (.bl (!(decide (j.cps.toList<i.cps.toList)))) H
theorem ue:cX X (fj .LtE) acQ:=al4.or ahK
theorem uh{K:aJ}:gA K acQ j7:=by
 intro Z Θ env C σ H x y dx dy res S bx dM e Q q;unfold j7 at e;split at e
 .cases e;cases bx.int;cases dM.int;exact .inl ⟨_,_,rfl,rfl,q _ _ (bz.refl _ _) (jD S rfl rfl)⟩
 .cases e;cases bx.str;cases dM.str;exact .inr ⟨_,_,rfl,rfl,q _ _ (bz.refl _ _) (jD S rfl rfl)⟩
 .cases e
def Gx:aA->aA->Option Vl
 |.int i,.int j=>aj (.im (.bool (decide (j<i))))
 |_,_=>ao
def vL:aA->aA->Option Vl
 |.int i,.int j=>aj (.im (.bool (decide (j<=i))))
 |_,_=>ao
theorem ab6{K:aJ}:gA K (p6 λi j=>.bl (decide (j<i))) Gx:=Rr λdx dy res e=>by
 unfold Gx at e;split at e<;>cases e
 exact⟨_,_,_,rfl,rfl,rfl,rfl,rfl⟩
theorem Gk{K:aJ}:gA K (p6 λi j=>.bl (decide (j<=i))) vL:=Rr λdx dy res e=>by
 unfold vL at e;split at e<;>cases e
 exact⟨_,_,_,rfl,rfl,rfl,rfl,rfl⟩
def isNone:aA->Bool
 |.none=>au
 |_=>aD
def wX(d e:aA):Option Vl:=if isNone e then aj (.im (.bool (isNone d))) else ao
theorem Zv(h:fZ Z Θ env σ H d x):decide (x=V.non)=isNone d:=by
 cases d<;>first
  |(cases(show x=_ from h);rfl)
  |(obtain⟨a,vs,e,_⟩:=h;subst e;rfl)
theorem abo{K:aJ}:gA K (λx y H Q=>y=.non/\Q (.bl (decide (x=.non))) H) wX:=by
 intro Z Θ env C σ H x y dx dy res S bx dM e Q q;unfold wX at e;split at e
 .rename_i hn;cases e;have hy:y=.non:=of_decide_eq_true ((Zv dM).trans hn)
  exact⟨hy,by rw[Zv bx];exact q _ _ (bz.refl _ _) (jD S rfl rfl)⟩
 .cases e
end
section
variable{X:Cx}{pins:List (az×Obj)}{σ:St}{H:Hp}{s:aG}{a b:az}
theorem Inv.Lg(I:Inv X pins σ H s)(h:H a=aj (.dK [])):Inv X pins σ (upd H a (.dT [])) s:=by
 obtain⟨z,hm,vs,r,o,es,ep,h1,h2,h3,h4,h5,h6⟩:=I.hok a _ h
 cases r;have e0:es.toList=[]:=by
  cases hh:es.toList with
  |nil=>rfl
  |cons x xs=>rw[hh] at h5;cases h5
 have:=Bg (t':=s.toks) (ob:=.dT []) I (by rw[h];trivial) (Mv a s.heap) ⟨_,h1⟩ ⟨lz _,hm,[],.nil,o,es,ep,h1,h2,h3,e0,oK⟩;exact this
theorem Inv.U0(I:Inv X pins σ (upd H a (.dT [])) s)(h:H a=aj (.dK [])):Inv X pins σ H s:=by
 obtain⟨z,hm,xs,r,o,es,ep,h1,h2,h3,h4,h5⟩:=I.hok a _ f9
 cases r;have e0:es=#[]:=by
  cases es;simp at h4;rw[h4]
 subst e0;have:=Bg (t':=s.toks) (ob:=.dK []) I (by rw[f9];trivial) (Mv a s.heap) ⟨_,h1⟩ (R3 (lz _) hm .nil ⟨o,#[],ep,h1,h2,h3,λi hi=>absurd hi (by simp),.nil,oK⟩);rw[aaa] at this;have e:upd H a (.dK [])=H:=by
  funext b;by_cases hb:b=a
  .subst hb;rw[f9,h]
  .exact dm hb
 rw[e] at this;exact this
end
def sJ(H:Hp)(a:az)(y:V)(r:Option V):Prop:=mZ H a y r\/(H a=aj (.dK [])/\(∃(b:az)(ks:List Key),y=.ref b/\H b=aj (.tup (ks.map kV)))/\r=ao)
section
variable{X:Cx}{pins:List (az×Obj)}{σ:St}{H:Hp}{s:aG}{a:az}{y v:V}{u r:Value}{o:Option V}{A:bV}{E:Value->aG->Prop}
theorem sJ.re(ha:H a=aj (.dK [])){b:az}{ks:List Key}(hb:H b=aj (.tup (ks.map kV))):mZ (upd H a (.dT [])) a (.ref b) ao:=by
 have:(upd H a (.dT [])) b=aj (.tup (ks.map kV)):=by rw[dm (SM hb ha (λz=>nomatch z))];exact hb
 exact mZ.t (kvs:=[]) (k:=ks) f9 this
theorem amf(hu:A.units+1<gJ)(I:Inv X pins σ H s)(g:sJ H a y o)(ry:RelV y u)(h:∀s',Inv X pins σ H s'->Q (.bool o.isSome) s'):aL (model X.prog X.w) A (fj .In u (.ref a)) Q E s:=by
 rcases g with g|⟨ha,⟨b,ks,rfl,hb⟩,rfl⟩
 .exact acJ hu I g ry h
 .exact acJ hu (I.Lg ha) (sJ.re ha hb) ry λs' I'=>h s' (I'.U0 ha)
theorem aiO(hu:A.units+1<gJ)(I:Inv X pins σ H s)(g:sJ H a y o)(ry:RelV y u)(h:∀s',Inv X pins σ H s'->Q (.bool (!o.isSome)) s'):aL (model X.prog X.w) A (fj .NotIn u (.ref a)) Q E s:=by
 rcases g with g|⟨ha,⟨b,ks,rfl,hb⟩,rfl⟩
 .exact aaj hu I g ry h
 .exact aaj hu (I.Lg ha) (sJ.re ha hb) ry λs' I'=>h s' (I'.U0 ha)
theorem aln(hu:X.A.units+1<gJ):cX X (fj .In) (λy x H Q=>∃a o,x=.ref a/\sJ H a y o/\Q (.bl o.isSome) H):=by
 intro pins s σ H x y v u Q I rx ry h
 obtain⟨a,o,rfl,g,q⟩:=h
 cases ry;exact amf hu I g rx λs' I'=>⟨.bl _,H,I',rfl,q⟩
theorem ahV(hu:X.A.units+1<gJ):cX X (fj .NotIn) (λy x H Q=>∃a o,x=.ref a/\sJ H a y o/\Q (.bl (!o.isSome)) H):=by
 intro pins s σ H x y v u Q I rx ry h
 obtain⟨a,o,rfl,g,q⟩:=h
 cases ry;exact aiO hu I g rx λs' I'=>⟨.bl _,H,I',rfl,q⟩
theorem aj7(hu:X.A.units+1<gJ):qR X (λx y H Q=>∃a v,x=.ref a/\mZ H a y (aj v)/\Q v H):=by
 intro value slice pins s σ H x y v u Q I rx ry h hs
 obtain⟨a,z,rfl,g,q⟩:=h
 cases rx;have hT:=agv I g;have h2:aL (model X.prog X.w) X.A (wK (.ref a) u) (EP X pins σ Q) X.xe s:=ahD hu I g ry λw' s' I' r'=>⟨z,H,I',r',q⟩
 unfold subscriptTail;refine aB ?_;rw[getitemInPython_of_ne hT.not_modules];refine aB (Wl hT PySem.F.slot_dict_getitem.lookup ?_);have fin:aL (model X.prog X.w) X.A (Xw slice aD (.ref a) u) (λr s₃=>aL (model X.prog X.w) X.A (letTemporaryGo value (.ref a) r >>= λ_=>pure r) (EP X pins σ Q) X.xe s₃) X.xe s:=by
  rw[hs];exact wpAny_operating (oN h2 (λr s₃ h₃=>aB (wpAny_letTemporaryGo (aW h₃))) λ_ _ x=>x)
 first
  |exact aW (aB fin)
  |exact aB (aW (aB fin))
  |exact aB fin
end
def qJ{κ:Type}[DecidableEq κ](f:aA->Option κ)(k:κ):List (aA×aA)->Option aA
 |[]=>ao
 |p::r=>if f p.1=aj k then aj p.2 else qJ f k r
def wY(kvs:List (aA×aA))(d:aA):Option (Option aA):=match gK d with
 |some k=>if(dR gK kvs).isSome then aj (qJ gK k kvs) else ao
 |none=>match qI d with
  |some ks=>if(dR qI kvs).isSome then aj (qJ qI ks kvs) else ao
  |none=>ao
theorem QH[DecidableEq κ]:∀{kvs:List (aA×aA)}{ks:List κ}{vs:List V},dR f kvs=aj ks->jq E kvs vs->
  (∃d v,qJ f k kvs=aj d/\mY (ks.zip vs) k=aj v/\RZ E d v)\/(qJ f k kvs=ao/\mY (ks.zip vs) k=ao)
 |[],ks,vs,h,r=>by
  cases h
  cases(show vs=[] from r)
  exact .inr ⟨rfl,rfl⟩
 |(p,d)::kvs,ks,vs,h,r=>by
  unfold dR at h;split at h
  .rename_i k' t h1 h2;cases h
   obtain⟨v,w,rfl,q,s⟩:=r
   by_cases e:k'=k
   .subst e;refine .inl ⟨d,v,?_,?_,q⟩
    .unfold qJ;rw[aZ h1]
    .exact Jt (p:=(k',v)) rfl
   .have e1:qJ f k ((p,d)::kvs)=qJ f k kvs:=by
     show(if f p=aj k then aj d else qJ f k kvs)=_
     rw[aY];intro z;rw[h1] at z;exact e (jb z)
    have e2:mY ((k'::t).zip (v::w)) k=mY (t.zip w) k:=Ju (p:=(k',v)) e;rw[e1,e2];exact QH h2 s
  .cases h
theorem yC:∀{kvs:List (aA×aA)}{ks:List κ},dR f kvs=aj ks->ks.length=kvs.length
 |[],ks,h=>by cases h;rfl
 |p::kvs,ks,h=>by
  unfold dR at h;split at h
  .rename_i k' t h1 h2;cases h;rw[dD,dD,yC h2]
  .cases h
theorem alo(h:gK d=aj k)(r:RZ E d v):v=kV k:=by
 cases d<;>first|(cases h;exact r)|cases h
theorem alp(h:gK d=aj k)(g:qI d=aj ks):False:=by
 cases d<;>first|(cases h;done)|(cases g;done)
section
variable{K:aJ}{Z Θ:List az}{env:En}{C:Ce}{σ:St}{H:Hp}{x y:V}
theorem Ay(h:dR gK kvs=aj ks)(g:dR qI kvs=aj js):kvs=[]:=by
 cases kvs with
 |nil=>rfl
 |cons p r=>
  unfold dR at h g;split at h
  .rename_i h1 h2;split at g
   .rename_i h3 h4
    exact(alp h1 h3).elim
   .cases g
  .cases h
theorem fZ.get(h:fZ Z Θ env σ H (.dict kvs) x)(hy:fZ Z Θ env σ H d y)(e:wY kvs d=aj o):
  ∃a r,x=.ref a/\sJ H a y r/\((∃v,r=aj v/\∃d',o=aj d'/\RZ (er (bw Z Θ env σ) H) d' v/\mZ H a y (aj v))\/(r=ao/\o=ao)):=by
 obtain⟨a,vs,rfl,dt,rd⟩:=h.dct
 unfold wY at e;split at e
 .rename_i k hk;split at e
  .rename_i hs;cases e;have yk:y=kV k:=by
    cases d<;>first|(cases hk;exact hy)|cases hk
   have dk:∃ks,dR gK kvs=aj ks/\H a=aj (.dK (ks.zip vs)):=by
    rcases dt with h|⟨ks,⟨ne,h2⟩,_⟩
    .exact h
    .obtain⟨ks',h1⟩:=zN.mp hs
     exact absurd (Ay h1 h2) ne
   obtain⟨ks,h1,ha⟩:=dk
   have g:=mZ.k (k:=k) ha;rw[<-yk] at g;rcases QH (k:=k) h1 rd with⟨d',v,e1,e2,r⟩|⟨e1,e2⟩
   .rw[e2] at g
    exact⟨a,aj v,rfl,.inl g,.inl ⟨v,rfl,d',e1,r,g⟩⟩
   .rw[e2] at g
    exact⟨a,ao,rfl,.inl g,.inr ⟨rfl,e1⟩⟩
  .cases e
 .split at e
  .rename_i ks hks;split at e
   .rename_i hs;cases e
    obtain⟨b,hb,rfl⟩:∃b,H b=aj (.tup (ks.map kV))/\y=.ref b:=by
     cases d<;>first|cases hks|skip
     obtain⟨b,ws,rfl,hb,r⟩:=hy.tup
     rw[yw hks r] at hb
     exact⟨b,hb,rfl⟩
    rcases dt with⟨js,h1,ha⟩|⟨js,⟨ne,h1⟩,ha⟩
    .obtain⟨js',h2⟩:=zN.mp hs
     have:=Ay h1 h2;subst this;cases h1
     exact⟨a,ao,rfl,.inr ⟨ha,⟨b,ks,rfl,hb⟩,rfl⟩,.inr ⟨rfl,rfl⟩⟩
    .have g:=mZ.t (k:=ks) ha hb;rcases QH (k:=ks) h1 rd with⟨d',v,e1,e2,r⟩|⟨e1,e2⟩
     .rw[e2] at g
      exact⟨a,aj v,rfl,.inl g,.inl ⟨v,rfl,d',e1,r,g⟩⟩
     .rw[e2] at g
      exact⟨a,ao,rfl,.inl g,.inr ⟨rfl,e1⟩⟩
   .cases e
  .cases e
end
def inD(d:aA)(ds:List aA):Bool:=ds.any λe=>sE (toV e) (toV d)
def inB(d:aA):aA->Option Bool
 |.list ds=>if lZ d&&ds.all lZ then aj (inD d ds) else ao
 |.tuple ds=>if lZ d&&ds.all lZ then aj (inD d ds) else ao
 |.dict kvs=>(wY kvs d).map (·.isSome)
 |_=>ao
def pU(d e:aA):Option Vl:=(inB d e).map λb=>.im (.bool b)
def wN(d e:aA):Option Vl:=(inB d e).map λb=>.im (.bool (!b))
def acR(K:aJ):R2:=λx y H Q=>Lb K aD x y H Q\/∃a o,y=.ref a/\sJ H a x o/\Q (.bl o.isSome) H
def aay(K:aJ):R2:=λx y H Q=>Lb K au x y H Q\/∃a o,y=.ref a/\sJ H a x o/\Q (.bl (!o.isSome)) H
theorem BK(hu:X.A.units+1<gJ):cX X (fj .In) (acR X.K):=ahC.or (aln hu)
theorem YK(hu:X.A.units+1<gJ):cX X (fj .NotIn) (aay X.K):=afV.or (ahV hu)
theorem Qi(f:lZ d=au):pO (toV d)=au:=by
 cases d<;>first|rfl|cases f
theorem ab7:inV (toV d) (ds.map toV)=inD d ds:=by
 unfold inV inD;rw[af1];rfl
theorem aaz{ds:List aA}(f:ds.all lZ=au):(ds.map toV).all pO=au:=by
 rw[List.all_map,jK];intro d hd;exact Qi (jK.mp f d hd)
theorem Zw{K:aJ}{Z Θ:List az}{env:En}{σ:St}{H:Hp}{x y:V}{dx dy:aA}{b:Bool}(bx:fZ Z Θ env σ H dx x)(dM:fZ Z Θ env σ H dy y)(e:inB dx dy=aj b):
  (∃p xs,y=.ref p/\(bK K H p xs\/cz K H p xs)/\pO x=au/\xs.all pO=au/\inV x xs=b)\/∃a o,y=.ref a/\sJ H a x o/\o.isSome=b:=by
 unfold inB at e;split at e
 .split at e
  .rename_i ds hf;rw[jl] at hf;cases e
   obtain⟨a,vs,rfl,ha,r⟩:=dM.lst
   rw[QG hf.2 r] at ha;rw[bx.flat hf.1];exact .inl ⟨a,_,rfl,.inl (bK.of ha),Qi hf.1,aaz hf.2,ab7⟩
  .cases e
 .split at e
  .rename_i ds hf;rw[jl] at hf;cases e
   obtain⟨a,vs,rfl,ha,r⟩:=dM.tup
   rw[QG hf.2 r] at ha;rw[bx.flat hf.1];exact .inl ⟨a,_,rfl,.inr (cz.of ha),Qi hf.1,aaz hf.2,ab7⟩
  .cases e
 .rename_i kvs;cases hl:wY kvs dx with
  |none=>rw[hl] at e;cases e
  |some o=>
   rw[hl] at e;cases e
   obtain⟨a,r,rfl,g,q⟩:=dM.get bx hl
   refine .inr ⟨a,r,rfl,g,?_⟩;rcases q with⟨v,rfl,d',rfl,_⟩|⟨rfl,rfl⟩<;>rfl
 .cases e
theorem Cm{K:aJ}:gA K (acR K) pU:=by
 intro Z Θ env C σ H x y dx dy res S bx dM e Q q;unfold pU at e;cases h:inB dx dy with
 |none=>rw[h] at e;cases e
 |some b=>
  rw[h] at e;cases e;have fin:=q (.bl b) H (bz.refl _ _) (jD S rfl rfl);rcases Zw (K:=K) bx dM h with⟨p,xs,e1,e2,e3,e4,e5⟩|⟨a,o,e1,e2,e3⟩
  .rw[<-e5] at fin;exact .inl ⟨p,xs,e1,e2,e3,e4,fin⟩
  .rw[<-e3] at fin;exact .inr ⟨a,o,e1,e2,fin⟩
theorem Zx{K:aJ}:gA K (aay K) wN:=by
 intro Z Θ env C σ H x y dx dy res S bx dM e Q q;unfold wN at e;cases h:inB dx dy with
 |none=>rw[h] at e;cases e
 |some b=>
  rw[h] at e;cases e;have fin:=q (.bl (!b)) H (bz.refl _ _) (jD S rfl rfl);rcases Zw (K:=K) bx dM h with⟨p,xs,e1,e2,e3,e4,e5⟩|⟨a,o,e1,e2,e3⟩
  .rw[<-e5] at fin;exact .inl ⟨p,xs,e1,e2,e3,e4,fin⟩
  .rw[<-e3] at fin;exact .inr ⟨a,o,e1,e2,fin⟩
def vP:aA->aA->Option aA
 |.list ds,.int i=>ie ds i
 |.tuple ds,.int i=>ie ds i
 |.str z,.int i=>if z.length<=gU then(ie z.cps.toList i).map λc=>.str ⟨#[c]⟩ else ao
 |.dict kvs,d=>match wY kvs d with
  |some (some e)=>aj e
  |_=>ao
 |_,_=>ao
def dW(d e:aA):Option Vl:=(vP d e).map .im
def acS(K:aJ):R2:=λx y H Q=>rIx K x y H Q\/∃a v,x=.ref a/\mZ H a y (aj v)/\Q v H
theorem mU(hu:X.A.units+1<gJ):qR X (acS X.K):=ak8.or (aj7 hu)
theorem aaA(r:bW E ds vs)(e:ie ds i=aj d):∃v,ie vs i=aj v/\RZ E d v:=by
 unfold ie at e⊢;rw[jc r];cases h:n6 ds.length i with
 |none=>rw[h] at e;cases e
 |some j=>
  rw[h] at e;exact uc r e
theorem mX{K:aJ}:gA K (acS K) dW:=by
 intro Z Θ env C σ H x y dx dy res S bx dM e Q q;unfold dW at e;cases h:vP dx dy with
 |none=>rw[h] at e;cases e
 |some d=>
  rw[h] at e;cases e;unfold vP at h;split at h
  .obtain⟨a,vs,rfl,ha,r⟩:=bx.lst
   cases dM.int
   obtain⟨v,e1,r1⟩:=aaA r h
   exact .inl (.inl ⟨a,vs,_,v,rfl,rfl,bK.of ha,e1,q _ _ (bz.refl _ _) ⟨S,r1⟩⟩)
  .obtain⟨a,vs,rfl,ha,r⟩:=bx.tup
   cases dM.int
   obtain⟨v,e1,r1⟩:=aaA r h
   exact .inl (.inr (.inl ⟨a,vs,_,v,rfl,rfl,cz.of ha,e1,q _ _ (bz.refl _ _) ⟨S,r1⟩⟩))
  .split at h
   .rename_i z i hz;cases bx.str;cases dM.int;cases hc:ie z.cps.toList i with
    |none=>rw[hc] at h;cases h
    |some c=>
     rw[hc] at h;cases h;exact .inl (.inr (.inr ⟨z,i,c,rfl,rfl,u6 hz,hc,q _ _ (bz.refl _ _) (jD S rfl rfl)⟩))
   .cases h
  .split at h
   .rename_i kvs e' hl;cases h
    obtain⟨a,r,rfl,g,hq⟩:=bx.get dM hl
    rcases hq with⟨v,rfl,d',e1,r1,g1⟩|⟨_,e1⟩
    .cases e1;exact .inr ⟨a,v,rfl,g1,q _ _ (bz.refl _ _) ⟨S,r1⟩⟩
    .cases e1
   .cases h
  .cases h
def Gy:aA->Option Bool
 |.none=>aj aD
 |.bool b=>aj b
 |.int i=>aj (i != 0)
 |.str x=>if x.length<=gU then aj ((x.length:Int) != 0) else ao
 |.list ds=>aj (!ds.isEmpty)
 |.tuple ds=>aj (!ds.isEmpty)
 |.dict kvs=>if(dR gK kvs).isSome then aj (!kvs.isEmpty) else ao
def gq(f:FB):FT:=λenv C=>match f env C with
 |some (d,_,C')=>match Gy d with
  |some b=>aj (b,C')
  |none=>ao
 |none=>ao
def gQ(f:FE):FT:=λenv C=>match f env C with
 |some (.im (.bool b),_,C')=>aj (b,C')
 |_=>ao
def gP(f:FT):FT:=λenv C=>match f env C with
 |some (b,C')=>aj (!b,C')
 |none=>ao
def vm(f g:FT):FT:=λenv C=>match f env C with
 |some (true,C')=>g env C'
 |some (false,C')=>aj (aD,C')
 |none=>ao
def ni(f g:FT):FT:=λenv C=>match f env C with
 |some (true,C')=>aj (au,C')
 |some (false,C')=>g env C'
 |none=>ao
theorem alq{K:aJ}{Z Θ:List az}{env:En}{σ:St}{H:Hp}{x:V}{d:aA}{b:Bool}(h:fZ Z Θ env σ H d x)(e:Gy d=aj b):Tw K x H b:=by
 cases d with
 |none=>cases e;cases(show x=_ from h);rfl
 |bool c=>cases e;cases(show x=_ from h);rfl
 |int i=>cases e;cases(show x=_ from h);rfl
 |str z=>
  simp only[Gy] at e;split at e
  .rename_i hz;cases e;cases(show x=_ from h);exact⟨u6 hz,rfl⟩
  .cases e
 |list ds=>
  cases e
  obtain⟨a,vs,rfl,ha,r⟩:=h.lst
  refine .inl ⟨vs,bK.of ha,?_⟩;have:=jc r;cases ds<;>cases vs<;>first|rfl|cases this
 |tuple ds=>
  cases e
  obtain⟨a,vs,rfl,ha,r⟩:=h.tup
  refine .inr (.inl ⟨vs,cz.of ha,?_⟩);have:=jc r;cases ds<;>cases vs<;>first|rfl|cases this
 |dict kvs=>
  simp only[Gy] at e;split at e
  .rename_i hs;cases e
   obtain⟨a,vs,rfl,da,r⟩:=h.dct
   rcases da with⟨ks,h1,ha⟩|⟨ks,⟨ne,h2⟩,ha⟩
   .refine .inr (.inr ⟨_,ha,?_⟩);have l1:=yC h1;have l2:=JX r;cases kvs<;>cases ks<;>cases vs<;>first|rfl|cases l1|cases l2
   .obtain⟨ks',h1⟩:=zN.mp hs
    exact absurd (Ay h1 h2) ne
  .cases e
section
variable{X:Cx}{a b:Expr}{pos:Pos}
theorem gZ(h:PE X a (fM X.K f))(he:∀whole,isTrue a X.env whole=(do let v <-whole;tW a.pos;pL [v] (truthy v)):=by intro _;rfl):PT X a (fO X.K (gq f)):=
 (aiq h he).weak λσ H Q aP=>by
  obtain⟨Z,Θ,env,C,b,C',S,hf,q⟩:=aP
  unfold gq at hf;split at hf
  .rename_i d e1 C1 h1;split at hf
   .rename_i b' hb;cases hf
    exact⟨Z,Θ,env,C,d,e1,C',S,h1,λv H' k f S' bo=>⟨b,alq bo hb,q H' k (S.go k S'.cell)⟩⟩
   .cases hf
  .cases hf
theorem Zy{K:aJ}{t:TE}{f:FE}(w:∀σ H Q,tE K f σ H Q->t σ H Q):∀σ H Q,fO K (gQ f) σ H Q->SX t σ H Q:=by
 rintro σ H Q ⟨Z,Θ,env,C,b,C',S,hf,q⟩;unfold gQ at hf;split at hf
 .rename_i b' e1 C1 h1;cases hf;refine w _ _ _ ⟨Z,Θ,env,C,.im (.bool b),e1,C',S,h1,λv H' k f R=>?_⟩
  obtain⟨S',r⟩:=R
  exact⟨b,r,q H' k (S.go k S'.cell)⟩
 .cases hf
theorem jN(ho:cX X (fj o) r)(L:gA X.K r op)(ha:PE X a (fM X.K fa))(hb:PE X b (fM X.K fb))(hm:Eb o b=aD):
  PT X (.Compare a [o] [b] pos) (fO X.K (gQ (bu op fa fb))):=(ajA ho ha hb hm).weak (Zy (Jw L))
theorem iR(h:PT X a (fO X.K f)):PT X (.UnaryOp .Not a pos) (fO X.K (gP f)):=(akQ h).weak λσ H Q aP=>by
 obtain⟨Z,Θ,env,C,b,C',S,hf,q⟩:=aP
 unfold gP at hf;split at hf
 .rename_i b' C1 h1;cases hf
  exact⟨Z,Θ,env,C,b',C',S,h1,q⟩
 .cases hf
theorem aiP{K:aJ}{f g:FT}:∀σ H Q,fO K (vm f g) σ H Q->acu (fO K f) (fO K g) σ H Q:=by
 rintro σ H Q ⟨Z,Θ,env,C,b,C',S,hf,q⟩;unfold vm at hf;split at hf
 .rename_i C1 h1
  exact⟨Z,Θ,env,C,au,C1,S,h1,λH1 k1 S1=>vH ⟨Z,Θ,env,C1,b,C',S1,hf,λH2 k2 S2=>q H2 (k1.trans k2) S2⟩⟩
 .rename_i C1 h1;cases hf
  exact⟨Z,Θ,env,C,aD,C',S,h1,λH1 k1 S1=>vG (q H1 k1 S1)⟩
 .cases hf
theorem aj8{K:aJ}{f g:FT}:∀σ H Q,fO K (ni f g) σ H Q->tOr (fO K f) (fO K g) σ H Q:=by
 rintro σ H Q ⟨Z,Θ,env,C,b,C',S,hf,q⟩;unfold ni at hf;split at hf
 .rename_i C1 h1;cases hf
  exact⟨Z,Θ,env,C,au,C',S,h1,λH1 k1 S1=>vH (q H1 k1 S1)⟩
 .rename_i C1 h1
  exact⟨Z,Θ,env,C,aD,C1,S,h1,λH1 k1 S1=>vG ⟨Z,Θ,env,C1,b,C',S1,hf,λH2 k2 S2=>q H2 (k1.trans k2) S2⟩⟩
 .cases hf
variable{rest:List Expr}
theorem aaB(h:PT X a (fO X.K f)):PW X (.BoolOp .And [a] pos) (fO X.K f):=pw_and1 h
theorem vg(h:PT X a (fO X.K f)):PW X (.BoolOp .Or [a] pos) (fO X.K f):=pw_or1 h
theorem R9(h:PT X a (fO X.K f))(hb:PW X (.BoolOp .And (b::rest) pos) (fO X.K g)):PW X (.BoolOp .And (a::b::rest) pos) (fO X.K (vm f g)):=(pw_and h hb).weak aiP
theorem rP(h:PT X a (fO X.K f))(hb:PW X (.BoolOp .Or (b::rest) pos) (fO X.K g)):PW X (.BoolOp .Or (a::b::rest) pos) (fO X.K (ni f g)):=(pw_or h hb).weak aj8
end
def uv(op op':aA->aA->Option Vl)(fa fb fc:FB):FE:=λenv C=>match fa env C with
 |some (x,e1,C1)=>match fb e1 C1 with
  |some (y,e2,C2)=>match op x y with
   |some (.im (.bool true))=>match fc e2 C2 with
    |some (z,e3,C3)=>match op' y z with
     |some (.im (.bool b))=>aj (.im (.bool b),env,C3)
     |_=>ao
    |none=>ao
   |some (.im (.bool false))=>aj (.im (.bool aD),env,C2)
   |_=>ao
  |none=>ao
 |none=>ao
theorem Zz{K:aJ}{r r':R2}{op op':aA->aA->Option Vl}(L:gA K r op)(L':gA K r' op'){fa fb fc:FB}:∀σ H Q,tE K (uv op op' fa fb fc) σ H Q->R0 r r' (fM K fa) (fM K fb) (fM K fc) σ H Q:=by
 rintro σ H Q ⟨Z,Θ,env,C,res,env',C',S,hf,q⟩;unfold uv at hf;split at hf
 .rename_i x e1 C1 h1;split at hf
  .rename_i y e2 C2 h2
   refine⟨Z,Θ,env,C,x,e1,C1,S,h1,λv H1 k1 f1 S1 b1=>⟨Z,Θ,e1,C1,y,e2,C2,S1,h2,λu H2 k2 f2 S2 b2=>?_⟩⟩
   split at hf
   .rename_i h3;split at hf
    .rename_i z e3 C3 h4;split at hf
     .rename_i b h5;cases hf;refine L Z Θ e2 C2 σ H2 v u x y _ S2 (b1.go S1 k2 f2) b2 h3 _ λw H3 k3 R=>⟨au,R.2,vH ⟨Z,Θ,e2,C2,z,e3,C',R.1,h4,λw2 H4 k4 f4 S4 b4=>?_⟩⟩
      refine L' Z Θ e3 C' σ H4 u w2 y z _ S4 ((b2.go S2 k3 (Fz.refl _)).go R.1 k4 f4) b4 h5 Q λw3 H5 k5 R5=>?_
      have k:=(((k1.trans k2).trans k3).trans k4).trans k5;exact q w3 H5 k (Fz.refl _) ⟨S.go k R5.1.cell,R5.2⟩
     .cases hf
    .cases hf
   .rename_i h3;cases hf;refine L Z Θ e2 C' σ H2 v u x y _ S2 (b1.go S1 k2 f2) b2 h3 _ λw H3 k3 R=>⟨aD,R.2,vG ?_⟩
    have k:=(k1.trans k2).trans k3;exact q _ H3 k (Fz.refl _) ⟨S.go k R.1.cell,rfl⟩
   .cases hf
  .cases hf
 .cases hf
section
variable{X:Cx}{a b c:Expr}{pos:Pos}{r r':R2}{o o':CmpOp}{op op':aA->aA->Option Vl}{fa fb fc:FB}
theorem abp(ho:cX X (fj o) r)(L:gA X.K r op)(ho':cX X (fj o') r')(L':gA X.K r' op')(ha:PE X a (fM X.K fa))(hb:PE X b (fM X.K fb))(hc:PE X c (fM X.K fc))
  (hm:PX [o,o'] [b,c]=aD:=by with_unfolding_all rfl):PE X (.Compare a [o,o'] [b,c] pos) (tE X.K (uv op op' fa fb fc)):=(aio ho ho' ha hb hc hm).weak (Zz L L')
theorem abq(ho:cX X (fj o) r)(L:gA X.K r op)(ho':cX X (fj o') r')(L':gA X.K r' op')(ha:PE X a (fM X.K fa))(hb:PE X b (fM X.K fb))(hc:PE X c (fM X.K fc))
  (hm:PX [o,o'] [b,c]=aD:=by with_unfolding_all rfl):PT X (.Compare a [o,o'] [b,c] pos) (fO X.K (gQ (uv op op' fa fb fc))):=(aip ho ho' ha hb hc hm).weak (Zy (Zz L L'))
end
def gf(f g:FE):FE:=λenv C=>match f env C with
 |some (.im (.bool true),_,C')=>g env C'
 |some (.im (.bool false),_,C')=>aj (.im (.bool aD),env,C')
 |_=>ao
def xx(f g:FE):FE:=λenv C=>match f env C with
 |some (.im (.bool true),_,C')=>aj (.im (.bool au),env,C')
 |some (.im (.bool false),_,C')=>g env C'
 |_=>ao
def yV(f:FE):FE:=λenv C=>match f env C with
 |some (.im (.bool b),_,C')=>aj (.im (.bool (!b)),env,C')
 |_=>ao
def Gz(c:FT)(f g:FE):FE:=λenv C=>match c env C with
 |some (true,C')=>f env C'
 |some (false,C')=>g env C'
 |none=>ao
def KY(f:FB):FE:=λenv C=>match f env C with
 |some (.int i,_,C')=>aj (.im (.int (-i)),env,C')
 |_=>ao
section
variable{X:Cx}{a b c:Expr}{pos:Pos}{rest:List Expr}
theorem lY{o}(h:PE X a (tE X.K f)):PE X (.BoolOp o [a] pos) (tE X.K f):=akR h
theorem lF(ha:PE X a (tE X.K f))(hb:PE X (.BoolOp .And (b::rest) pos) (tE X.K g)):PE X (.BoolOp .And (a::b::rest) pos) (tE X.K (gf f g)):=(akS ha hb).weak λσ H Q aP=>by
 obtain⟨Z,Θ,env,C,r,env',C',S,hf,q⟩:=aP
 unfold gf at hf;split at hf
 .rename_i e1 C1 h1
  refine⟨Z,Θ,env,C,_,e1,C1,S,h1,λv H1 k1 f1 R1=>⟨au,R1.2,vH ⟨Z,Θ,env,C1,r,env',C',S.go k1 R1.1.cell,hf,λw H2 k2 f2 R2=>q w H2 (k1.trans k2) f2 (R2.from k1)⟩⟩⟩
 .rename_i e1 C1 h1;cases hf
  exact⟨Z,Θ,env,C,_,e1,C',S,h1,λv H1 k1 f1 R1=>⟨aD,R1.2,vG (q _ H1 k1 (Fz.refl _) ⟨S.go k1 R1.1.cell,rfl⟩)⟩⟩
 .cases hf
theorem ab8(ha:PE X a (tE X.K f))(hb:PE X (.BoolOp .Or (b::rest) pos) (tE X.K g)):PE X (.BoolOp .Or (a::b::rest) pos) (tE X.K (xx f g)):=(alU ha hb).weak λσ H Q aP=>by
 obtain⟨Z,Θ,env,C,r,env',C',S,hf,q⟩:=aP
 unfold xx at hf;split at hf
 .rename_i e1 C1 h1;cases hf
  exact⟨Z,Θ,env,C,_,e1,C',S,h1,λv H1 k1 f1 R1=>⟨au,R1.2,vH (q _ H1 k1 (Fz.refl _) ⟨S.go k1 R1.1.cell,rfl⟩)⟩⟩
 .rename_i e1 C1 h1
  refine⟨Z,Θ,env,C,_,e1,C1,S,h1,λv H1 k1 f1 R1=>⟨aD,R1.2,vG ⟨Z,Θ,env,C1,r,env',C',S.go k1 R1.1.cell,hf,λw H2 k2 f2 R2=>q w H2 (k1.trans k2) f2 (R2.from k1)⟩⟩⟩
 .cases hf
theorem abr(ha:PE X a (tE X.K f)):PE X (.UnaryOp .Not a pos) (tE X.K (yV f)):=(akT ha).weak λσ H Q aP=>by
 obtain⟨Z,Θ,env,C,r,env',C',S,hf,q⟩:=aP
 unfold yV at hf;split at hf
 .rename_i b e1 C1 h1;cases hf
  exact⟨Z,Θ,env,C,_,e1,C',S,h1,λv H1 k1 f1 R1=>⟨b,R1.2,q _ H1 k1 (Fz.refl _) ⟨S.go k1 R1.1.cell,rfl⟩⟩⟩
 .cases hf
theorem amg(hc:PT X c (fO X.K t))(ha:PE X a (tE X.K f))(hb:PE X b (tE X.K g)):PE X (.IfExp c a b pos) (tE X.K (Gz t f g)):=(aik hc ha hb).weak λσ H Q aP=>by
 obtain⟨Z,Θ,env,C,r,env',C',S,hf,q⟩:=aP
 unfold Gz at hf;split at hf
 .rename_i C1 h1
  exact⟨Z,Θ,env,C,au,C1,S,h1,λH1 k1 S1=>vH ⟨Z,Θ,env,C1,r,env',C',S1,hf,λw H2 k2 f2 R2=>q w H2 (k1.trans k2) f2 (R2.from k1)⟩⟩
 .rename_i C1 h1
  exact⟨Z,Θ,env,C,aD,C1,S,h1,λH1 k1 S1=>vG ⟨Z,Θ,env,C1,r,env',C',S1,hf,λw H2 k2 f2 R2=>q w H2 (k1.trans k2) f2 (R2.from k1)⟩⟩
 .cases hf
theorem alr(ha:PE X a (fM X.K f)):PE X (.UnaryOp .USub a pos) (tE X.K (KY f)):=(al1 akZ ha).weak λσ H Q aP=>by
 obtain⟨Z,Θ,env,C,r,env',C',S,hf,q⟩:=aP
 unfold KY at hf;split at hf
 .rename_i i e1 C1 h1;cases hf
  exact⟨Z,Θ,env,C,_,e1,C',S,h1,λv H1 k1 f1 S1 b1=>⟨i,b1,q _ H1 k1 (Fz.refl _) ⟨S.go k1 S1.cell,rfl⟩⟩⟩
 .cases hf
end
def vo(K:aJ)(E:Hp)(Θ:List az):Vl->V->Prop
 |.im d,v=>RZ E d v
 |.ow _,_=>False
 |.ce n,v=>∃a,v=.ref a/\Θ[n]?=aj a
 |.sc ns,v=>∃a,v=.ref a/\bK K E a (ns.map V.int)
 |.tp _ _ _,_=>False
inductive qF(K:aJ)(E:Hp)(Θ:List az):List Vl->List V->Prop
 |nil:qF K E Θ [] []
 |cons {x:Vl} {v:V} {xs:List Vl} {vs:List V}:vo K E Θ x v->qF K E Θ xs vs->qF K E Θ (x::xs) (v::vs)
theorem vo.same{K:aJ}{E E':Hp}{Θ:List az}(s:bD E E'){x:Vl}{v:V}(h:vo K E Θ x v):vo K E' Θ x v:=by
 cases x with
 |im d=>exact RZ.same s h
 |ow d=>exact h
 |ce n=>exact h
 |sc ns=>obtain⟨a,e,q⟩:=h;exact⟨a,e,s.seq q⟩
 |tp=>exact h
theorem qF.same{K:aJ}{E E':Hp}{Θ:List az}(s:bD E E'){xs:List Vl}{vs:List V}(h:qF K E Θ xs vs):qF K E' Θ xs vs:=by
 induction h with
 |nil=>exact .nil
 |cons a _ ih=>exact .cons (a.same s) ih
inductive xQ(K:aJ)(f:FA)(σ:St)(H:Hp)(Q:List V->Hp->Prop):Prop
 |mk (Z Θ:List az) (env:En) (C:Ce) (xs:List Vl) (env':En) (C':Ce) (S:Sm K Z Θ env C σ H) (hf:f env C=aj (xs,env',C')) (q:∀vs H',bz Θ H H'->Fz env env'->Sm K Z Θ env' C' σ H'->qF K (er (bw Z Θ env' σ) H') Θ xs vs->Q vs H'):xQ K f σ H Q
def aV:FA:=λenv C=>aj ([],env,C)
def aC(f:FE)(g:FA):FA:=λenv C=>match f env C with
 |some (r,e1,C1)=>match g e1 C1 with
  |some (xs,e2,C2)=>aj (still r::xs,e2,C2)
  |none=>ao
 |none=>ao
def eU:xN:=λenv C=>aj ([],env,C)
def dO(f:FB)(g:xN):xN:=λenv C=>match f env C with
 |some (d,e1,C1)=>match g e1 C1 with
  |some (ds,e2,C2)=>aj (d::ds,e2,C2)
  |none=>ao
 |none=>ao
theorem Res.arg{K:aJ}{Z Θ:List az}{env:En}{C:Ce}{σ:St}{H H':Hp}{r:Vl}{v:V}(h:Res K Z Θ env C σ H H' r v):Sm K Z Θ env C σ H'/\vo K (er (bw Z Θ env σ) H') Θ (L2.still r) v:=by
 have g:=h.still;cases r with
 |im d=>exact g
 |ow d=>exact g
 |ce n=>exact g
 |sc ns=>exact g
 |tp=>exact h.elim
theorem zg.same(s:bD E E')(t:bD T T')(h:zg E T ds vs):zg E' T' ds vs:=by
 induction h with
 |nil=>exact .nil
 |cons a _ ih=>exact .cons (a.same s t) ih
section
variable{X:Cx}{e:Expr}{es:List Expr}{pos:Pos}
theorem aX:PA X [] (xQ X.K aV):=vd.weak λσ H Q aP=>by
 obtain⟨Z,Θ,env,C,xs,env',C',S,hf,q⟩:=aP
 cases hf;exact q [] H (bz.refl _ _) (Fz.refl _) S .nil
theorem aF{f:FE}{g:FA}(h:PE X e (tE X.K f))(hr:PA X es (xQ X.K g))(hs:bG (e::es) X.env=(aD,eval e X.env)::bG es X.env:=by rfl):PA X (e::es) (xQ X.K (aC f g)):=(qw h hr hs).weak λσ H Q aP=>by
 obtain⟨Z,Θ,env,C,xs,env',C',S,hf,q⟩:=aP
 unfold aC at hf;split at hf
 .rename_i r e1 C1 h1;split at hf
  .rename_i ys e2 C2 h2;cases hf
   refine⟨Z,Θ,env,C,r,e1,C1,S,h1,λv H1 k1 f1 R1=>?_⟩
   obtain⟨S1,a1⟩:=R1.arg
   exact⟨Z,Θ,e1,C1,ys,env',C',S1,h2,λvs H2 k2 f2 S2 a2=>q _ H2 (k1.trans k2) (f1.trans f2) S2 (.cons (a1.same (Td S1 k2 f2)) a2)⟩
  .cases hf
 .cases hf
theorem fX:PA X [] (xO X.K eU):=vd.weak λσ H Q aP=>by
 obtain⟨Z,Θ,env,C,xs,env',C',S,hf,q⟩:=aP
 cases hf;exact q [] H (bz.refl _ _) (Fz.refl _) S .nil
theorem fB(h:PE X e (fM X.K f))(hr:PA X es (xO X.K g))(hs:bG (e::es) X.env=(aD,eval e X.env)::bG es X.env:=by rfl):PA X (e::es) (xO X.K (dO f g)):=(qw h hr hs).weak λσ H Q aP=>by
 obtain⟨Z,Θ,env,C,xs,env',C',S,hf,q⟩:=aP
 unfold dO at hf;split at hf
 .rename_i d e1 C1 h1;split at hf
  .rename_i ys e2 C2 h2;cases hf
   exact⟨Z,Θ,env,C,d,e1,C1,S,h1,λv H1 k1 f1 S1 b1=>⟨Z,Θ,e1,C1,ys,env',C',S1,h2,λvs H2 k2 f2 S2 b2=>q _ H2 (k1.trans k2) (f1.trans f2) S2 (.cons (b1.go S1 k2 f2) b2)⟩⟩
  .cases hf
 .cases hf
end
def Cp:List Vl->Option (List aA)
 |[]=>aj []
 |.im d::r=>match Cp r with
  |some ds=>aj (d::ds)
  |none=>ao
 |_=>ao
theorem QJ{K:aJ}{E:Hp}{Θ:List az}:∀{xs:List Vl}{ds:List aA}{vs:List V},Cp xs=aj ds->qF K E Θ xs vs->bW E ds vs
 |[],ds,vs,h,a=>by cases h;cases a;rfl
 |.im d::r,ds,vs,h,a=>by
  unfold Cp at h;split at h
  .rename_i t ht;cases h;cases a with
   |cons a1 a2=>exact⟨_,_,rfl,a1,QJ ht a2⟩
  .cases h
 |.ow _::r,ds,vs,h,a=>by cases h
 |.ce _::r,ds,vs,h,a=>by cases h
 |.sc _::r,ds,vs,h,a=>by cases h
 |.tp _ _ _::r,ds,vs,h,a=>by cases h
def iG(g:FA):FE:=λenv C=>match g env C with
 |some (xs,e',C')=>match Cp xs with
  |some ds=>if ds.length<=gU then aj (.ow (.list ds),e',C') else ao
  |none=>ao
 |none=>ao
def cu(g:FA):FE:=λenv C=>match g env C with
 |some (xs,e',C')=>match Cp xs with
  |some ds=>if ds.length<=gU then aj (.im (.tuple ds),e',C') else ao
  |none=>ao
 |none=>ao
section
variable{X:Cx}{e:Expr}{es:List Expr}{pos:Pos}
theorem jo{g:FA}(h:PA X es (xQ X.K g)):PE X (.List es pos) (tE X.K (iG g)):=(ak1 h).weak λσ H Q aP=>by
 obtain⟨Z,Θ,env,C,r,env',C',S,hf,q⟩:=aP
 unfold iG at hf;split at hf
 .rename_i xs e1 C1 h1;split at hf
  .rename_i ds hd;split at hf
   .rename_i hl;cases hf
    refine⟨Z,Θ,env,C,xs,env',C',S,h1,λvs H1 k1 f1 S1 a1=>?_⟩
    have r:=QJ hd a1
    exact⟨by rw[jc r];exact u6 hl,λp hp=>q _ _ (k1.trans (bz.upd hp)) f1 ((qx S1 r hp).from k1)⟩
   .cases hf
  .cases hf
 .cases hf
theorem cN{x1}{g:FA}(h:PA X es (xQ X.K g)):PE X (.Tuple es x1 pos) (tE X.K (cu g)):=(aa6 h).weak λσ H Q aP=>by
 obtain⟨Z,Θ,env,C,r,env',C',S,hf,q⟩:=aP
 unfold cu at hf;split at hf
 .rename_i xs e1 C1 h1;split at hf
  .rename_i ds hd;split at hf
   .rename_i hl;cases hf
    refine⟨Z,Θ,env,C,xs,env',C',S,h1,λvs H1 k1 f1 S1 a1=>?_⟩
    have r:=QJ hd a1
    exact⟨by rw[jc r];exact u6 hl,λp hp=>q _ _ (k1.trans (bz.upd hp)) f1 ((JZ S1 r hp).from k1)⟩
   .cases hf
  .cases hf
 .cases hf
end
def lM(K:aJ)(r:List V->Hp->VK->Prop)(op:List aA->Option Vl):Prop:=
 ∀(Z Θ:List az)(env:En)(C:Ce)(σ:St)(H:Hp)(xs:List V)(ds:List aA)(res:Vl),Sm K Z Θ env C σ H->Kr Z Θ env σ H ds xs->op ds=aj res->
  ∀Q:VK,(∀v H',bz Θ H H'->Res K Z Θ env C σ H H' res v->Q v H')->r xs H Q
def eV(op:List aA->Option Vl)(g:xN):FE:=λenv C=>match g env C with
 |some (ds,e',C')=>match op ds with
  |some r=>aj (r,rst r env e',C')
  |none=>ao
 |none=>ao
theorem ZC{K:aJ}{r:List V->Hp->VK->Prop}{op:List aA->Option Vl}(L:lM K r op){g:xN}:∀σ H Q,tE K (eV op g) σ H Q->Ut r (xO K g) σ H Q:=by
 rintro σ H Q ⟨Z,Θ,env,C,res,env',C',S,hf,q⟩;unfold eV at hf;split at hf
 .rename_i ds e1 C1 h1;split at hf
  .rename_i r0 h2;cases hf
   refine⟨Z,Θ,env,C,ds,e1,C',S,h1,λvs H1 k1 f1 S1 b1=>L Z Θ e1 C' σ H1 vs ds res S1 b1 h2 Q λz H2 k2 R=>?_⟩
   exact q z H2 (k1.trans k2) (f1.rst res) ((R.from k1).rst S (k1.trans k2))
  .cases hf
 .cases hf
section
variable{X:Cx}{x:Str}{p pos:Pos}{e:Expr}{es:List Expr}{g:xN}{id T:String}{r:List V->Hp->VK->Prop}{op:List aA->Option Vl}
theorem jm(hc:je X (.builtin id) r)(L:lM X.K r op)(hg:Gl X x)(hm:X.mg x=ao)(hv:tK x=aj (.builtin id))(ha:PA X (e::es) (xO X.K g))(hn:x≠"__name__":=by decide)(hdb:(x==("__debug__":Str))=aD:=by decide)
  (he:bG (e::es) X.env=(aD,eval e X.env)::bG es X.env:=by rfl)(hpl:(iM pos (bG es X.env)).any (·.1)=aD:=by rfl):PE X (.Call (.Name x p) (e::es) [] pos) (tE X.K (eV op g)):=(Jr hc hg hm hv ha hn hdb he hpl).weak (ZC L)
theorem wG(hc:je X (.type T) r)(L:lM X.K r op)(hg:Gl X x)(hm:X.mg x=ao)(hv:tK x=aj (.type T))(ha:PA X (e::es) (xO X.K g))(hn:x≠"__name__":=by decide)(hdb:(x==("__debug__":Str))=aD:=by decide)
  (he:bG (e::es) X.env=(aD,eval e X.env)::bG es X.env:=by rfl)(hpl:(iM pos (bG es X.env)).any (·.1)=aD:=by rfl):PE X (.Call (.Name x p) (e::es) [] pos) (tE X.K (eV op g)):=(ahB hc hg hm hv ha hn hdb he hpl).weak (ZC L)
end
abbrev FN:=List Vl->Ce->Option (Vl×Ce)
def GC:Vl->Bool
 |.tp _ _ _=>au
 |_=>aD
def KZ(K:aJ)(Z Θ:List az)(C:Ce)(H H':Hp):Vl->V->Prop
 |.tp p d q,v=>∃t a vs us,v=.ref t/\H' t=aj (.tup (vs++.ref a::us))/\H a=ao/\Sm K (a::Z) Θ [] C [] H'/\jV (er (bw (a::Z) Θ [] []) H') H' a d/\bW (er (bw (a::Z) Θ [] []) H') p vs/\bW (er (bw (a::Z) Θ [] []) H') q us
 |r,v=>Res K Z Θ [] C [] H H' r v
theorem KZ.res{K:aJ}{Z Θ:List az}{C:Ce}{H H':Hp}{r:Vl}{v:V}(n:GC r=aD)(h:KZ K Z Θ C H H' r v):Res K Z Θ [] C [] H H' r v:=by
 cases r<;>first|exact h|cases n
def spT(K:aJ)(f:FN):Sp:=λvs H Q _=>∃Z Θ C xs r C',Sm K Z Θ [] C [] H/\qF K (er (bw Z Θ [] []) H) Θ xs vs/\f xs C=aj (r,C')/\
 ∀v H',bz Θ H H'->KZ K Z Θ C' H H' r v->Q v H'
def bO(f:FN)(g:FA):FE:=λenv C=>match g env C with
 |some (xs,e',C1)=>match f xs C1 with
  |some (r,C2)=>if GC r then ao else aj (r,rst r env e',C2)
  |none=>ao
 |none=>ao
theorem rH(h:∀a,a∈P↔a∈P'):er P H=er P' H:=by
 funext b;unfold er;by_cases hb:b∈P
 .rw[aZ hb,aZ ((h b).mp hb)]
 .rw[aY hb,aY (λz=>hb ((h b).mpr z))]
theorem Rt(a:az):a∈bw (Z++bL env σ) Θ [] []↔a∈bw Z Θ env σ:=by
 simp only[bw,bL,dF,lq];constructor
 .rintro((h|h)|h)
  .exact .inl h
  .exact .inr (.inr h)
  .exact .inr (.inl h)
 .rintro(h|h|h)
  .exact .inl (.inl h)
  .exact .inr h
  .exact .inl (.inr h)
section
variable{K:aJ}{Z Θ:List az}{env:En}{C C':Ce}{σ:St}{H H':Hp}{a:az}
theorem Sm.Gm(S:Sm K Z Θ env C σ H)(ha:H a=ao)(k:bz Θ H H')(h':NT (H' a))(c:pN Θ C' H'):Sm K (a::Z) Θ env C' σ H':=by
 have sm:bD (er (bw Z Θ env σ) H) (er (bw (a::Z) Θ env σ) H'):=mj k S.uA λb m=>by
  rcases bJ.mp m with rfl|m
  .exact .inr ha
  .exact .inl m
 refine⟨S.len,kI.mpr ⟨λm=>S.zf a m ha,S.nd⟩,λb m=>?_,λi x e=>?_,c⟩
 .rcases bJ.mp m with rfl|m
  .exact h'
  .obtain⟨u,e,n⟩:=S.dom b m
   exact⟨u,k.keep _ _ e λz=>by
    have h:=S.nd;rw[lD] at h;exact h.2.2 b m b (iY _ z) rfl,n⟩
 .obtain⟨v,e1,r⟩:=S.slot i x e
  refine⟨v,e1,r.same sm λd b ex ev o' ho=>k.keep _ _ ho ?_⟩
  subst ex ev
  exact(S.nM (mL.mpr ⟨i,d,e,e1⟩)).2
theorem Sm.bare(S:Sm K Z Θ env C σ H):Sm K (Z++bL env σ) Θ [] C [] H:=by
 refine⟨rfl,?_,λb m=>?_,λi x e=>by simp at e,S.cell⟩
 .have h:=S.nd
  show((Z++bL env σ)++(Θ++[])).Nodup
  rw[lq,qg];have p:(Z++(Θ++bL env σ)).Perm (Z++(bL env σ++Θ)):=ad1 Z List.perm_append_comm;exact p.nodup h
 .rcases dF.mp m with m|m
  .exact S.dom b m
  .exact S.Lf b (fP _ (fP _ m))
theorem Res.back(S:Sm K Z Θ env C σ H)(k:bz Θ H H')(h:Res K (Z++bL env σ) Θ [] C' [] H H' r v):Res K Z Θ env C' σ H H' r v:=by
 have e1:er (bw (Z++bL env σ) Θ [] []) H'=er (bw Z Θ env σ) H':=rH Rt;cases r with
 |im d=>
  obtain⟨S',r⟩:=h
  rw[e1] at r
  exact⟨S.go k S'.cell,r⟩
 |ow d=>
  obtain⟨a,rfl,hn,S',r⟩:=h
  have e2:er (bw (a::(Z++bL env σ)) Θ [] []) H'=er (bw (a::Z) Θ env σ) H':=rH λb=>by
   show b∈a::bw (Z++bL env σ) Θ [] []↔b∈a::bw Z Θ env σ;rw[bJ,bJ,Rt]
  rw[e2] at r
  exact⟨a,rfl,hn,S.Gm hn k (S'.dom a dj) S'.cell,r⟩
 |ce n=>exact⟨S.go k h.1.cell,h.2⟩
 |sc ns=>
  obtain⟨S',a,rfl,q⟩:=h
  rw[e1] at q
  exact⟨S.go k S'.cell,a,rfl,q⟩
 |tp=>exact h
end
section
variable{X:Cx}{x:Str}{k:Nat}{ps:List Str}{p pos:Pos}{e:Expr}{es:List Expr}{f:FN}{g:FA}
theorem aiQ{K:aJ}:∀σ H Q,tE K (bO f g) σ H Q->S7 (spT K f) [] E0 (xQ K g) σ H Q:=by
 rintro σ H Q ⟨Z,Θ,env,C,res,env',C',S,hf,q⟩;unfold bO at hf;split at hf
 .rename_i xs e1 C1 h1;split at hf
  .rename_i r C2 h2;split at hf
   .cases hf
   rename_i nt;cases hf
   refine⟨Z,Θ,env,C,xs,e1,C1,S,h1,λvs H1 k1 f1 S1 a1=>?_⟩
   show spT K f (vs++[]) H1 Q E0;rw[lq];have e2:er (bw (Z++bL e1 σ) Θ [] []) H1=er (bw Z Θ e1 σ) H1:=rH Rt;rw[<-e2] at a1
   exact⟨Z++bL e1 σ,Θ,C1,xs,res,C',S1.bare,a1,h2,λv H2 k2 R=>q v H2 (k1.trans k2) (f1.rst res) (((Res.back S1 k2 (R.res (Bool.eq_false_iff.mpr nt))).from k1).rst S (k1.trans k2))⟩
  .cases hf
 .cases hf
theorem b7(F:dh X.prog X.w X.K X.mg X.base x k ps (spT X.K f))(hr:jk k X.A)(hg:Gl X x)(ha:PA X (e::es) (xQ X.K g))(hdb:(x==("__debug__":Str))=aD:=by decide)
  (he:bG (e::es) X.env=(aD,eval e X.env)::bG es X.env:=by rfl)(hpl:(iM pos (bG es X.env)).any (·.1)=aD:=by rfl):PE X (.Call (.Name x p) (e::es) [] pos) (tE X.K (bO f g)):=(amc F hr hg ha hdb he hpl).weak aiQ
end
theorem Qj:∀{env:En}{σ:St},(∀(i j:Nat)(d e:aA)(a:az),env[i]?=aj (aj (Vl.ow d))->σ[i]?=aj (aj (V.ref a))->env[j]?=aj (aj (Vl.ow e))->σ[j]?=aj (aj (V.ref a))->i=j)->(bL env σ).Nodup
 |[],σ,_=>by cases σ<;>exact oK
 |_::_,[],_=>oK
 |x::en,v::s,h=>by
  rw[bL,lD]
  refine⟨?_,Qj λi j d e a h1 h2 h3 h4=>?_,λa ha b hb e=>?_⟩
  .unfold own1;split
   .exact kI.mpr ⟨by simp,oK⟩
   .exact oK
  .have:=h (i+1) (j+1) d e a (by simpa using h1) (by simpa using h2) (by simpa using h3) (by simpa using h4);lia
  .subst e;unfold own1 at ha;split at ha
   .rw[jB] at ha;subst ha
    obtain⟨j,d,h1,h2⟩:=mL.mp hb
    have:=h 0 (j+1) _ d a rfl rfl (by simpa using h1) (by simpa using h2);lia
   .simp at ha
theorem get_set{α:Type}{l:List α}{i j:Nat}{x y:α}(h:(l.set i x)[j]?=aj y):(j=i/\y=x/\i<l.length)\/(j≠i/\l[j]?=aj y):=by
 by_cases e:i=j
 .subst e;rw[DG,aZ rfl] at h;split at h
  .rename_i hl;cases h;exact .inl ⟨rfl,rfl,hl⟩
  .cases h
 .rw[zQ e] at h;exact .inr ⟨λz=>e z.symm,h⟩
theorem aaC{α:Type}{l:List α}{i:Nat}{x:α}(h:i<l.length):(l.set i x)[i]?=aj x:=by
 rw[DG,aZ rfl,aZ h]
theorem yF{env:En}{σ:St}{i:Nat}{x:Vl}{v:V}{a:az}(h:a∈bL (env.set i (aj x)) (σ.set i (aj v))):a∈bL env σ\/(∃d,x=.ow d)/\v=.ref a:=by
 obtain⟨j,d,h1,h2⟩:=mL.mp h
 rcases get_set h1 with⟨rfl,e,_⟩|⟨n,h1⟩
 .rcases get_set h2 with⟨_,e2,_⟩|⟨n,_⟩
  .cases e;cases e2;exact .inr ⟨⟨d,rfl⟩,rfl⟩
  .exact absurd rfl n
 .rcases get_set h2 with⟨e,_,_⟩|⟨_,h2⟩
  .exact absurd e n
  .exact .inl (mL.mpr ⟨j,d,h1,h2⟩)
section
variable{K:aJ}{Z Θ:List az}{env:En}{C:Ce}{σ:St}{H:Hp}{a:az}{i:Nat}{v:V}
theorem Sm.dN(S:Sm K Z Θ env C σ H):Z.Nodup/\Θ.Nodup/\(bL env σ).Nodup/\(∀b∈Z,b∉Θ):=by
 have h:=S.nd;rw[lD,lD] at h
 obtain⟨h1,⟨h2,h3,_⟩,h4⟩:=h
 exact⟨h1,h2,h3,λb m m'=>h4 b m b (iY _ m') rfl⟩
theorem zF(h1:Z.Nodup)(h2:Θ.Nodup)(h3:O.Nodup)(h4:∀b∈Z,b∉Θ)(h5:∀b∈O,b∉Z/\b∉Θ):(Z++(Θ++O)).Nodup:=by
 rw[lD,lD]
 refine⟨h1,⟨h2,h3,λb m c m' e=>?_⟩,λb m c m' e=>?_⟩
 .subst e;exact(h5 b m').2 m
 .subst e;rcases dF.mp m' with m'|m'
  .exact h4 b m m'
  .exact(h5 b m').1 m
theorem Sm.CQ(S:Sm K Z Θ env C σ H){x:Vl}(hx:∀d,x≠.ow d)(r:CP K (er (bw Z Θ env σ) H) H Θ x v):Sm K Z Θ (env.set i (aj x)) C (σ.set i (aj v)) H:=by
 have sub:∀b,b∈bL (env.set i (aj x)) (σ.set i (aj v))->b∈bL env σ:=λb m=>by
  rcases yF m with m|⟨⟨d,e⟩,_⟩
  .exact m
  .exact absurd e (hx d)
 have dN:=S.dN;have sm:bD (er (bw Z Θ env σ) H) (er (bw Z Θ (env.set i (aj x)) (σ.set i (aj v))) H):=ud λb m=>by
  rcases dF.mp m with m|m
  .exact iY _ m
  .rcases dF.mp m with m|m
   .exact fP _ (iY _ m)
   .exact fP _ (fP _ (sub b m))
 refine⟨by rw[vZ,vZ];exact S.len,?_,S.dom,λj y e=>?_,S.cell⟩
 .refine zF dN.1 dN.2.1 (Qj λp q d e b h1 h2 h3 h4=>?_) dN.2.2.2 λb m=>S.nM (sub b m)
  rcases get_set h1 with⟨rfl,e1,_⟩|⟨n1,h1⟩
  .cases e1;exact absurd rfl (hx d)
  .rcases get_set h3 with⟨rfl,e1,_⟩|⟨n2,h3⟩
   .cases e1;exact absurd rfl (hx e)
   .rcases get_set h2 with⟨e2,_,_⟩|⟨_,h2⟩
    .exact absurd e2 n1
    .rcases get_set h4 with⟨e4,_,_⟩|⟨_,h4⟩
     .exact absurd e4 n2
     .exact Fp dN.2.2.1 h1 h2 h3 h4
 .rcases get_set e with⟨rfl,e1,hl⟩|⟨n,e⟩
  .cases e1
   exact⟨v,aaC (by rw[S.len];exact hl),r.same sm λd b ex _=>absurd ex (hx d)⟩
  .obtain⟨u,e1,r1⟩:=S.slot j y e
   exact⟨u,by rw[zQ (fQ n)];exact e1,r1.same sm λ_ _ _ _ _ h=>h⟩
theorem Sm.acT(S:Sm K (a::Z) Θ env C σ H){d:aA}(r:jV (er (bw (a::Z) Θ env σ) H) H a d):Sm K Z Θ (env.set i (aj (.ow d))) C (σ.set i (aj (.ref a))) H:=by
 have sub:∀b,b∈bL (env.set i (aj (.ow d))) (σ.set i (aj (.ref a)))->b∈bL env σ\/b=a:=λb m=>by
  rcases yF m with m|⟨_,e⟩
  .exact .inl m
  .cases e;exact .inr rfl
 have dN:=S.dN;have Hf:=kI.mp dN.1;have sm:bD (er (bw (a::Z) Θ env σ) H) (er (bw Z Θ (env.set i (aj (.ow d))) (σ.set i (aj (.ref a)))) H):=ud λb m=>by
  rcases dF.mp m with m|m
  .exact iY _ (dB _ m)
  .rcases dF.mp m with m|m
   .exact fP _ (iY _ m)
   .rcases sub b m with m|rfl
    .exact fP _ (fP _ m)
    .exact iY _ dj
 have acU:a∉bL env σ:=λm=>(S.nM m).1 dj
 refine⟨by rw[vZ,vZ];exact S.len,?_,λb m=>S.dom b (dB _ m),λj y e=>?_,S.cell⟩
 .refine zF Hf.2 dN.2.1 (Qj λp q d1 e b h1 h2 h3 h4=>?_) (λb m=>dN.2.2.2 b (dB _ m)) λb m=>?_
  .rcases get_set h1 with⟨rfl,e1,_⟩|⟨n1,h1⟩
   .rcases get_set h3 with⟨e3,_,_⟩|⟨n2,h3⟩
    .exact e3.symm
    .rcases get_set h2 with⟨_,e2,_⟩|⟨n,_⟩
     .cases e2;rcases get_set h4 with⟨e4,_,_⟩|⟨_,h4⟩
      .exact e4.symm
      .exact absurd (mL.mpr ⟨q,e,h3,h4⟩) acU
     .exact absurd rfl n
   .rcases get_set h2 with⟨e2,_,_⟩|⟨_,h2'⟩
    .exact absurd e2 n1
    .have mp:=mL.mpr ⟨p,d1,h1,h2'⟩;rcases get_set h3 with⟨rfl,e3,_⟩|⟨n2,h3⟩
     .rcases get_set h4 with⟨_,e4,_⟩|⟨n,_⟩
      .cases e4;exact absurd mp acU
      .exact absurd rfl n
     .rcases get_set h4 with⟨e4,_,_⟩|⟨_,h4⟩
      .exact absurd e4 n2
      .exact Fp dN.2.2.1 h1 h2' h3 h4
  .rcases sub b m with m|rfl
   .obtain⟨p,q⟩:=S.nM m
    exact⟨λz=>p (dB _ z),q⟩
   .exact⟨Hf.1,dN.2.2.2 b dj⟩
 .rcases get_set e with⟨rfl,e1,hl⟩|⟨n,e⟩
  .cases e1
   exact⟨_,aaC (by rw[S.len];exact hl),a,rfl,r.same sm λ_ h=>h⟩
  .obtain⟨u,e1,r1⟩:=S.slot j y e
   exact⟨u,by rw[zQ (fQ n)];exact e1,r1.same sm λ_ _ _ _ _ h=>h⟩
theorem Res.set(h:Res K Z Θ env C σ H0 H r v):Sm K Z Θ (env.set i (aj r)) C (σ.set i (aj v)) H:=by
 cases r with
 |im d=>exact h.1.CQ (λ_ e=>nomatch e) h.2
 |ow d=>obtain⟨a,rfl,_,S,r⟩:=h;exact S.acT r
 |ce n=>exact h.1.CQ (λ_ e=>nomatch e) h.2
 |sc ns=>exact h.1.CQ (λ_ e=>nomatch e) h.2
 |tp=>exact h.elim
end
inductive Fl where
 |nx|rt (r:Vl)|bk|ct
abbrev FS:=En->Ce->Option (Fl×En×Ce)
structure lC(Θ Θ':List az)(H:Hp):Prop where
 ex:∃Δ,Θ'=Θ++Δ/\∀a∈Δ,H a=ao
theorem lC.refl(Θ:List az)(H:Hp):lC Θ Θ H:=⟨[],by rw[lq],λ_ m=>nomatch m⟩
structure fJ(K:aJ)(Z Θ:List az)(env:En)(σ:St)(H:Hp)(Θ':List az)(env':En)(C':Ce)(σ':St)(H':Hp):Prop where
 th:lC Θ Θ' H
 kp:bz (Θ++bL env σ) H H'
 own:∀a∈bL env' σ',a∈bL env σ\/H a=ao
 sm:Sm K Z Θ' env' C' σ' H'
def Ku(K:aJ)(Z Θ:List az)(C:Ce)(own:List az)(H H':Hp):Vl->V->Prop
 |.im d,v=>Sm K Z Θ [] C [] H'/\RZ (er (bw Z Θ [] []) H') d v
 |.ow d,v=>∃a,v=.ref a/\(a∈own\/H a=ao)/\Sm K (a::Z) Θ [] C [] H'/\jV (er (bw (a::Z) Θ [] []) H') H' a d
 |.ce n,v=>Sm K Z Θ [] C [] H'/\∃a,v=.ref a/\Θ[n]?=aj a
 |.sc ns,v=>Sm K Z Θ [] C [] H'/\∃a,v=.ref a/\bK K (er (bw Z Θ [] []) H') a (ns.map V.int)
 |.tp p d q,v=>∃t a vs us,v=.ref t/\H' t=aj (.tup (vs++.ref a::us))/\(a∈own\/H a=ao)/\Sm K (a::Z) Θ [] C [] H'/\jV (er (bw (a::Z) Θ [] []) H') H' a d/\bW (er (bw (a::Z) Θ [] []) H') p vs/\bW (er (bw (a::Z) Θ [] []) H') q us
structure U3(K:aJ)(Z Θ:List az)(env:En)(σ:St)(H:Hp)(Θ':List az)(C':Ce)(r:Vl)(v:V)(H':Hp):Prop where
 th:lC Θ Θ' H
 kp:bz (Θ++bL env σ) H H'
 ok:Ku K Z Θ' C' (bL env σ) H H' r v
def K1(K:aJ)(Z Θ:List az)(env:En)(σ:St)(H:Hp)(env':En)(C':Ce)(D:Ends):Fl->Prop
 |.nx=>∀Θ' σ' H',fJ K Z Θ env σ H Θ' env' C' σ' H'->D.nx σ' H'
 |.bk=>∀Θ' σ' H',fJ K Z Θ env σ H Θ' env' C' σ' H'->D.bk σ' H'
 |.ct=>∀Θ' σ' H',fJ K Z Θ env σ H Θ' env' C' σ' H'->D.ct σ' H'
 |.rt r=>∀Θ' v H',U3 K Z Θ env σ H Θ' C' r v H'->D.rt v H'
inductive tS(K:aJ)(f:FS)(D:Ends)(σ:St)(H:Hp):Prop
 |mk (Z Θ:List az) (env:En) (C:Ce) (fl:Fl) (env':En) (C':Ce) (S:Sm K Z Θ env C σ H) (hf:f env C=aj (fl,env',C')) (q:K1 K Z Θ env σ H env' C' D fl):tS K f D σ H
section
variable{K:aJ}{Z Θ Θ1 Θ2:List az}{env e1 e2:En}{C C1 C2:Ce}{σ σ1 σ2:St}{H H1 H2:Hp}
theorem lC.trans(h:lC Θ Θ1 H)(k:∀a,H a≠ao->H1 a≠ao)(g:lC Θ1 Θ2 H1):lC Θ Θ2 H:=by
 obtain⟨Δ,e,n⟩:=h.ex
 obtain⟨Δ',e',n'⟩:=g.ex
 refine⟨Δ++Δ',by rw[e',e,qg],λa m=>?_⟩
 rcases dF.mp m with m|m
 .exact n a m
 .cases h:H a with
  |none=>rfl
  |some o=>exact absurd (n' a m) (k a (by rw[h];exact vV _))
theorem ZD(th:lC Θ Θ1 H)(k1:bz (Θ++bL env σ) H H1)(ow:∀a∈bL e1 σ1,a∈bL env σ\/H a=ao)(k2:bz (Θ1++bL e1 σ1) H1 H2):bz (Θ++bL env σ) H H2:=by
 refine⟨λa o e n=>k2.keep a o (k1.keep a o e n) λm=>n ?_,λa e=>k2.dom a (k1.dom a e)⟩
 have hn:H a≠ao:=by rw[e];exact vV _
 rcases dF.mp m with m|m
 .obtain⟨Δ,e',n'⟩:=th.ex
  rw[e'] at m;rcases dF.mp m with m|m
  .exact iY _ m
  .exact absurd (n' a m) hn
 .rcases ow a m with m|m
  .exact fP _ m
  .exact absurd m hn
theorem fJ.trans(p:fJ K Z Θ env σ H Θ1 e1 C1 σ1 H1)(q:fJ K Z Θ1 e1 σ1 H1 Θ2 e2 C2 σ2 H2):fJ K Z Θ env σ H Θ2 e2 C2 σ2 H2 where
 th:=p.th.trans p.kp.dom q.th
 kp:=ZD p.th p.kp p.own q.kp
 own:=λa m=>by
  rcases q.own a m with m|m
  .exact p.own a m
  .exact .inr (p.kp.none m)
 sm:=q.sm
theorem fJ.ret(p:fJ K Z Θ env σ H Θ1 e1 C1 σ1 H1)(q:U3 K Z Θ1 e1 σ1 H1 Θ2 C2 r v H2):U3 K Z Θ env σ H Θ2 C2 r v H2 where
 th:=p.th.trans p.kp.dom q.th
 kp:=ZD p.th p.kp p.own q.kp
 ok:=by
  have h:=q.ok;cases r with
  |im d=>exact h
  |ow d=>
   obtain⟨a,e,m,S,r⟩:=h
   refine⟨a,e,?_,S,r⟩
   rcases m with m|m
   .exact p.own a m
   .exact .inr (p.kp.none m)
  |ce n=>exact h
  |sc ns=>exact h
  |tp=>
   obtain⟨t,a,vs,us,e,e',m,R⟩:=h
   exact⟨t,a,vs,us,e,e',m.elim (p.own a) λm=>.inr (p.kp.none m),R⟩
theorem K1.trans(p:fJ K Z Θ env σ H Θ1 e1 C1 σ1 H1)(h:K1 K Z Θ env σ H e2 C2 D fl):K1 K Z Θ1 e1 σ1 H1 e2 C2 D fl:=by
 cases fl with
 |nx=>exact λΘ' σ' H' q=>h Θ' σ' H' (p.trans q)
 |bk=>exact λΘ' σ' H' q=>h Θ' σ' H' (p.trans q)
 |ct=>exact λΘ' σ' H' q=>h Θ' σ' H' (p.trans q)
 |rt r=>exact λΘ' v H' q=>h Θ' v H' (p.ret q)
theorem yG(k:bz Θ H H1):bz (Θ++O) H H1:=⟨λa o e n=>k.keep a o e λm=>n (iY _ m),k.dom⟩
theorem fJ.uB(k:bz Θ H H1)(f:Fz env e1)(S:Sm K Z Θ e1 C1 σ H1):fJ K Z Θ env σ H Θ e1 C1 σ H1:=
 ⟨lC.refl _ _,yG k,λa m=>.inl (f.own.subset m),S⟩
end
def fK:FS:=λenv C=>aj (.nx,env,C)
def bI(f g:FS):FS:=λenv C=>match f env C with
 |some (.nx,e1,C1)=>g e1 C1
 |r=>r
def eX(c:FT)(f g:FS):FS:=λenv C=>match c env C with
 |some (true,C1)=>f env C1
 |some (false,C1)=>g env C1
 |none=>ao
def cQ(f:FE):FS:=λenv C=>match f env C with
 |some (r,e1,C1)=>aj (.rt r,e1,C1)
 |none=>ao
def yW(i:Nat):FS:=λenv C=>match env[i]? with
 |some (some x)=>aj (.rt x,env,C)
 |_=>ao
def dJ(i:Nat)(f:FE):FS:=λenv C=>match f env C with
 |some (r,e1,C1)=>aj (.nx,e1.set i (aj r),C1)
 |none=>ao
section
variable{X:Cx}{st:dw}{rest:List dw}{pos:Pos}
theorem fJ.same{K:aJ}{Z Θ:List az}{env:En}{C:Ce}{σ:St}{H:Hp}(S:Sm K Z Θ env C σ H):fJ K Z Θ env σ H Θ env C σ H:=fJ.uB (bz.refl _ _) (Fz.refl _) S
theorem gk:jA X [] (tS X.K fK):=ajw.weak λD σ H aP=>by
 obtain⟨Z,Θ,env,C,fl,env',C',S,hf,q⟩:=aP
 cases hf;exact q Θ σ H (fJ.same S)
theorem b8(h:PS X st (tS X.K f)):jA X [st] (tS X.K f):=ajx h
theorem aiR{K:aJ}{f g:FS}:∀D σ H,tS K (bI f g) D σ H->acv (tS K f) (tS K g) D σ H:=by
 rintro D σ H ⟨Z,Θ,env,C,fl,env',C',S,hf,q⟩;unfold bI at hf;split at hf
 .rename_i e1 C1 h1
  exact⟨Z,Θ,env,C,.nx,e1,C1,S,h1,λΘ1 σ1 H1 p=>⟨Z,Θ1,e1,C1,fl,env',C',p.sm,hf,q.trans p⟩⟩
 .rename_i hne
  refine⟨Z,Θ,env,C,fl,env',C',S,hf,?_⟩
  cases fl with
  |nx=>exact absurd hf (hne _ _)
  |bk=>exact q
  |ct=>exact q
  |rt r=>exact q
theorem bM(h:PS X st (tS X.K f))(hr:jA X rest (tS X.K g)):jA X (st::rest) (tS X.K (bI f g)):=(ail h hr).weak aiR
theorem gm(hc:PT X c (fO X.K t))(ha:jA X a (tS X.K f))(hb:jA X b (tS X.K g)):PS X (.If c a b pos) (tS X.K (eX t f g)):=(alX hc ha hb).weak λD σ H aP=>by
 obtain⟨Z,Θ,env,C,fl,env',C',S,hf,q⟩:=aP
 unfold eX at hf;split at hf
 .rename_i C1 h1
  exact⟨Z,Θ,env,C,au,C1,S,h1,λH1 k1 S1=>vH ⟨Z,Θ,env,C1,fl,env',C',S1,hf,q.trans (fJ.uB k1 (Fz.refl _) S1)⟩⟩
 .rename_i C1 h1
  exact⟨Z,Θ,env,C,aD,C1,S,h1,λH1 k1 S1=>vG ⟨Z,Θ,env,C1,fl,env',C',S1,hf,q.trans (fJ.uB k1 (Fz.refl _) S1)⟩⟩
 .cases hf
theorem Sm.none{K:aJ}{Z Θ:List az}{env:En}{C:Ce}{σ:St}{H:Hp}(S:Sm K Z Θ env C σ H):Sm K Z Θ [] C [] H:=by
 have dN:=S.dN
 exact⟨rfl,zF dN.1 dN.2.1 oK dN.2.2.2 (λ_ m=>nomatch m),S.dom,λi x e=>by simp at e,S.cell⟩
theorem Fd:bD (er (bw Z Θ env σ) H) (er (bw Z Θ [] []) H):=ud λb m=>by
 rcases dF.mp m with m|m
 .exact iY _ m
 .rcases dF.mp m with m|m
  .exact fP _ (iY _ m)
  .nomatch m
theorem Res.ret{K:aJ}{Z Θ:List az}{env:En}{C:Ce}{σ:St}{H H':Hp}{O:List az}{r:Vl}{v:V}(h:Res K Z Θ env C σ H H' r v):Ku K Z Θ C O H H' r v:=by
 cases r with
 |im d=>exact⟨h.1.none,h.2.same Fd⟩
 |ow d=>obtain⟨a,e,n,S,r⟩:=h;exact⟨a,e,.inr n,S.none,r.same Fd λ_ h=>h⟩
 |ce n=>exact⟨h.1.none,h.2⟩
 |sc ns=>obtain⟨S,a,e,q⟩:=h;exact⟨S.none,a,e,Fd.seq q⟩
 |tp=>exact h.elim
theorem cW(h:PE X e (tE X.K f)):PS X (.Return (aj e) pos) (tS X.K (cQ f)):=(aaZ h).weak λD σ H aP=>by
 obtain⟨Z,Θ,env,C,fl,env',C',S,hf,q⟩:=aP
 unfold cQ at hf;split at hf
 .rename_i r e1 C1 h1;cases hf
  exact⟨Z,Θ,env,C,r,env',C',S,h1,λv H1 k f R=>q Θ v H1 ⟨lC.refl _ _,yG k,R.ret⟩⟩
 .cases hf
theorem J0(h:PE X e (uq i)):PS X (.Return (aj e) pos) (tS X.K (yW i)):=(aaZ h).weak λD σ H aP=>by
 obtain⟨Z,Θ,env,C,fl,env',C',S,hf,q⟩:=aP
 unfold yW at hf;split at hf
 .rename_i x hx;cases hf
  obtain⟨v,e1,r⟩:=S.slot i x hx
  refine⟨v,e1,q Θ v H ⟨lC.refl _ _,bz.refl _ _,?_⟩⟩
  cases x with
  |im d=>exact⟨S.none,RZ.same Fd r⟩
  |ow d=>
   obtain⟨a,rfl,r⟩:=r
   have m:a∈bL env σ:=mL.mpr ⟨i,d,hx,e1⟩;have sm:bD (er (bw Z Θ env σ) H) (er (bw (a::Z) Θ [] []) H):=ud λb mb=>by
    rcases dF.mp mb with mb|mb
    .rcases bJ.mp mb with rfl|mb
     .exact fP _ (fP _ m)
     .exact iY _ mb
    .rcases dF.mp mb with mb|mb
     .exact fP _ (iY _ mb)
     .nomatch mb
   have dN:=S.dN
   refine⟨a,rfl,.inl m,⟨rfl,zF (kI.mpr ⟨(S.nM m).1,dN.1⟩) dN.2.1 oK (λb mb=>?_) (λ_ m=>nomatch m),λb mb=>?_,λi x e=>by simp at e,S.cell⟩,r.same sm λ_ h=>h⟩
   .rcases bJ.mp mb with rfl|mb
    .exact(S.nM m).2
    .exact dN.2.2.2 b mb
   .rcases bJ.mp mb with rfl|mb
    .exact r.nt
    .exact S.dom b mb
  |ce n=>exact⟨S.none,r⟩
  |sc ns=>obtain⟨a,e,q⟩:=r;exact⟨S.none,a,e,Fd.seq q⟩
  |tp=>exact r.elim
 .cases hf
theorem QK{K:aJ}{i:Nat}{t:TE}{f:FE}(w:∀σ H Q,tE K f σ H Q->t σ H Q):∀D σ H,tS K (dJ i f) D σ H->CK t (yR i) D σ H:=by
 rintro D σ H ⟨Z,Θ,env,C,fl,env',C',S,hf,q⟩;unfold dJ at hf;split at hf
 .rename_i r e1 C1 h1;cases hf;refine w _ _ _ ⟨Z,Θ,env,C,r,e1,C',S,h1,λv H1 k f R=>q Θ _ H1 ⟨lC.refl _ _,yG k,λa m=>?_,R.set⟩⟩;rcases yF m with m|⟨⟨d,e⟩,e2⟩
  .exact .inl (f.own.subset m)
  .subst e
   obtain⟨b,e3,n,_⟩:=R
   rw[e2] at e3;cases e3;exact .inr n
 .cases hf
theorem iT(hN:X.N.Nodup)(hi:X.N[i]?=aj x)(hx:Loc X.env.scope x)(he:PE X e (tE X.K f))(hs:wF e (aj (.Name x pos')) pos.line X.env=pure aD:=by rfl)(hf:X.fn x=au\/X.env.scope.names.lookup x=aj .local:=by first|exact .inl rfl|exact .inr rfl|assumption):
  PS X (.Assign [.Name x pos'] e pos) (tS X.K (dJ i f)):=(aa1 hN hi hx he hs hf).weak (QK λ_ _ _ h=>h)
end
abbrev FG:=aA->En->Option En
abbrev Dj:=List aA->En->Option En
def zG(K:aJ)(g:TG)(fg:FG):Prop:=∀(Z Θ:List az)(env:En)(C:Ce)(σ:St)(H:Hp)(v:V)(d:aA)(env':En),Sm K Z Θ env C σ H->RZ (er (bw Z Θ env σ) H) d v->fg d env=aj env'->
 ∀Q:St->Hp->Prop,(∀σ',Sm K Z Θ env' C σ' H->(∀a∈bL env' σ',a∈bL env σ)->Q σ' H)->g v σ H Q
def GD(K:aJ)(g:uz)(fg:Dj):Prop:=∀(Z Θ:List az)(env:En)(C:Ce)(σ:St)(H:Hp)(vs:List V)(ds:List aA)(env':En),Sm K Z Θ env C σ H->bW (er (bw Z Θ env σ) H) ds vs->fg ds env=aj env'->
 ∀Q:St->Hp->Prop,(∀σ',Sm K Z Θ env' C σ' H->(∀a∈bL env' σ',a∈bL env σ)->Q σ' H)->g vs σ H Q
def dz(i:Nat):FG:=λd env=>aj (env.set i (aj (.im d)))
def nU:Dj:=λds env=>match ds with
 |[]=>aj env
 |_=>ao
def eG(g:FG)(u:Dj):Dj:=λds env=>match ds with
 |d::r=>match g d env with
  |some e1=>u r e1
  |none=>ao
 |[]=>ao
def qb(n:Nat)(u:Dj):FG:=λd env=>match d with
 |.tuple ds=>if ds.length=n then u ds env else ao
 |_=>ao
theorem abt(h:∀a∈bL e1 σ1,a∈bL env σ):bD (er (bw Z Θ env σ) H) (er (bw Z Θ e1 σ1) H):=ud λb m=>by
 rcases dF.mp m with m|m
 .exact iY _ m
 .rcases dF.mp m with m|m
  .exact fP _ (iY _ m)
  .exact fP _ (fP _ (h b m))
section
variable{K:aJ}
theorem gG:zG K (yR i) (dz i):=by
 intro Z Θ env C σ H v d env' S r e Q q;cases e;refine q _ (S.CQ (λ_ z=>nomatch z) r) λa m=>?_
 rcases yF m with m|⟨⟨_,z⟩,_⟩
 .exact m
 .cases z
theorem wO:GD K acw nU:=by
 intro Z Θ env C σ H vs ds env' S r e Q q;unfold nU at e;split at e
 .cases e
  exact⟨r,q _ S λ_ m=>m⟩
 .cases e
theorem iz(h:zG K g fg)(hu:GD K u fu):GD K (abS g u) (eG fg fu):=by
 intro Z Θ env C σ H vs ds env' S r e Q q;unfold eG at e;split at e
 .rename_i d r'
  obtain⟨v,ws,rfl,r1,r2⟩:=r
  split at e
  .rename_i e1 h1
   refine⟨v,ws,rfl,h Z Θ env C σ H v d e1 S r1 h1 _ λσ1 S1 o1=>?_⟩
   exact hu Z Θ e1 C σ1 H ws r' env' S1 (r2.same (abt o1)) e Q λσ2 S2 o2=>q σ2 S2 λa m=>o1 a (o2 a m)
  .cases e
 .cases e
theorem BL(hu:GD K u fu):zG K (acy K n u) (qb n fu):=by
 intro Z Θ env C σ H v d env' S r e Q q;unfold qb at e;split at e
 .rename_i ds;split at e
  .rename_i hl
   obtain⟨a,vs,rfl,ha,r⟩:=r
   exact⟨a,vs,rfl,cz.of (ir ha),(jc r).trans hl,hu Z Θ env C σ H vs ds env' S r e Q q⟩
  .cases e
 .cases e
end
def uw(f:FE)(g:FG):FS:=λenv C=>match f env C with
 |some (r,e1,C1)=>match still r with
  |.im d=>match g d e1 with
   |some e2=>aj (.nx,e2,C1)
   |none=>ao
  |_=>ao
 |none=>ao
theorem Res.rQ{K:aJ}{Z Θ:List az}{env:En}{C:Ce}{σ:St}{H H':Hp}{r:Vl}{v:V}{d:aA}(h:Res K Z Θ env C σ H H' r v)(e:L2.still r=.im d):Sm K Z Θ env C σ H'/\RZ (er (bw Z Θ env σ) H') d v:=by
 have g:=h.still;rw[e] at g;exact g
section
variable{X:Cx}{pos:Pos}
theorem yL{tg e:Expr}{f:FE}{g:TG}{fg:FG}(he:PE X e (tE X.K f))(hg:PG X tg g)(L:zG X.K g fg)(hs:Ac [tg] e pos.line X.env=pure aD:=by rfl)(hw:Ad [tg] e X.env=pure ao:=by rfl)(h1:(rD [tg] X.env).map (·.2)=[assign tg X.env]:=by rfl):
  PS X (.Assign [tg] e pos) (tS X.K (uw f fg)):=(aa0 he hg hs hw h1).weak λD σ H aP=>by
 obtain⟨Z,Θ,env,C,fl,env',C',S,hf,q⟩:=aP
 unfold uw at hf;split at hf
 .rename_i r e1 C1 h1;split at hf
  .rename_i d hd;split at hf
   .rename_i e2 h2;cases hf
    refine⟨Z,Θ,env,C,r,e1,C',S,h1,λv H1 k f R=>?_⟩
    obtain⟨S1,r1⟩:=R.rQ hd
    exact L Z Θ e1 C' σ H1 v d env' S1 r1 h2 D.nx λσ' S' o=>q Θ σ' H1 ⟨lC.refl _ _,yG k,λa m=>.inl (f.own.subset (o a m)),S'⟩
   .cases hf
  .cases hf
 .cases hf
end
inductive oU(K:aJ)(E H:Hp)(Θ:List az):List az->List Vl->List V->Prop
 |nil:oU K E H Θ [] [] []
 |cons {as:List az} {x:Vl} {v:V} {xs:List Vl} {vs:List V}:vo K E Θ x v->oU K E H Θ as xs vs->oU K E H Θ as (x::xs) (v::vs)
 |own {as:List az} {a:az} {d:aA} {xs:List Vl} {vs:List V}:jV E H a d->oU K E H Θ as xs vs->oU K E H Θ (as++[a]) (.ow d::xs) (.ref a::vs)
theorem oU.same{K:aJ}{E E' H:Hp}{Θ as:List az}{xs:List Vl}{vs:List V}(s:bD E E')(h:oU K E H Θ as xs vs):oU K E' H Θ as xs vs:=by
 induction h with
 |nil=>exact .nil
 |cons a _ ih=>exact .cons (a.same s) ih
 |own r _ ih=>exact .own (r.same s λ_ h=>h) ih
theorem oU.heap{K:aJ}{E H H':Hp}{Θ as:List az}{xs:List Vl}{vs:List V}(s:bD H H')(h:oU K E H Θ as xs vs):oU K E H' Θ as xs vs:=by
 induction h with
 |nil=>exact .nil
 |cons a _ ih=>exact .cons a ih
 |own r _ ih=>exact .own (r.same (bD.refl _) λo ho=>s _ _ ho) ih
inductive zH(K:aJ)(f:FA)(σ:St)(H:Hp)(Q:List V->Hp->Prop):Prop
 |mk (Z Θ:List az) (env:En) (C:Ce) (xs:List Vl) (env':En) (C':Ce) (S:Sm K Z Θ env C σ H) (hf:f env C=aj (xs,env',C')) (q:∀vs as H',bz Θ H H'->Fz env env'->(∀a∈as,H a=ao)->Sm K (as++Z) Θ env' C' σ H'->oU K (er (bw (as++Z) Θ env' σ) H') H' Θ as xs vs->Q vs H'):zH K f σ H Q
def wZ(f:FE)(g:FA):FA:=λenv C=>match f env C with
 |some (r,e1,C1)=>match g e1 C1 with
  |some (xs,e2,C2)=>aj (r::xs,e2,C2)
  |none=>ao
 |none=>ao
section
variable{K:aJ}{Z Z' Θ:List az}{env:En}{C:Ce}{σ:St}{H:Hp}
theorem jM:a∈bw Z Θ env σ↔a∈Z\/a∈Θ\/a∈bL env σ:=by rw[dF,dF]
theorem Sm.perm(S:Sm K Z Θ env C σ H)(p:Z.Perm Z'):Sm K Z' Θ env C σ H:=by
 have e:er (bw Z Θ env σ) H=er (bw Z' Θ env σ) H:=rH λa=>by rw[jM,jM,p.mem_iff]
 refine⟨S.len,(List.Perm.append_right _ p).nodup S.nd,λa m=>S.dom a (p.mem_iff.mpr m),λi x h=>?_,S.cell⟩
 rw[<-e];exact S.slot i x h
end
section
variable{X:Cx}{e:Expr}{es:List Expr}{pos:Pos}
theorem abu:PA X [] (zH X.K aV):=vd.weak λσ H Q aP=>by
 obtain⟨Z,Θ,env,C,xs,env',C',S,hf,q⟩:=aP
 cases hf;exact q [] [] H (bz.refl _ _) (Fz.refl _) (λ_ m=>nomatch m) S .nil
theorem Fq(h:PE X e (tE X.K f))(hr:PA X es (zH X.K g))(hs:bG (e::es) X.env=(aD,eval e X.env)::bG es X.env:=by rfl):PA X (e::es) (zH X.K (wZ f g)):=(qw h hr hs).weak λσ H Q aP=>by
 obtain⟨Z,Θ,env,C,xs,env',C',S,hf,q⟩:=aP
 unfold wZ at hf;split at hf
 .rename_i r e1 C1 h1;split at hf
  .rename_i ys e2 C2 h2;cases hf
   refine⟨Z,Θ,env,C,r,e1,C1,S,h1,λv H1 k1 f1 R1=>?_⟩
   have plain:∀{x:Vl},Sm X.K Z Θ e1 C1 σ H1->vo X.K (er (bw Z Θ e1 σ) H1) Θ x v->r=x->zH X.K g σ H1 λxs H2=>Q (v::xs) H2:=λ{x} S1 a1 ex=>by
    subst ex
    refine⟨Z,Θ,e1,C1,ys,env',C',S1,h2,λvs as H2 k2 f2 n2 S2 a2=>q _ as H2 (k1.trans k2) (f1.trans f2) (λa m=>k1.none (n2 a m)) S2 (.cons (a1.same (mj k2 S1.uA λa m=>?_)) a2)⟩
    rcases dF.mp m with m|m
    .rcases dF.mp m with m|m
     .exact .inr (n2 a m)
     .exact .inl (iY _ m)
    .exact .inl (f2.sub (Z:=Z) a (fP _ m))
   cases r with
   |im d=>exact plain (x:=.im d) R1.1 R1.2 rfl
   |ce n=>exact plain (x:=.ce n) R1.1 R1.2 rfl
   |sc ns=>exact plain (x:=.sc ns) R1.1 R1.2 rfl
   |tp=>exact R1.elim
   |ow d=>
    obtain⟨a,rfl,hn,S1,r1⟩:=R1
    refine⟨a::Z,Θ,e1,C1,ys,env',C',S1,h2,λvs as H2 k2 f2 n2 S2 a2=>?_⟩
    have ez:as++a::Z=(as++[a])++Z:=by rw[qg];rfl
    rw[ez] at S2 a2;have na:a∉Θ:=λm=>(S1.dN.2.2.2 a dj) m
    refine q _ (as++[a]) H2 (k1.trans k2) (f1.trans f2) (λb m=>?_) S2 (.own (r1.same (mj k2 S1.uA λb m=>?_) λo ho=>k2.keep _ _ ho na) a2)
    .rcases dF.mp m with m|m
     .exact k1.none (n2 b m)
     .rw[jB.mp m];exact hn
    .rcases dF.mp m with m|m
     .rcases dF.mp m with m|m
      .rcases dF.mp m with m|m
       .exact .inr (n2 b m)
       .rw[jB.mp m];exact .inl dj
      .exact .inl (iY _ (dB _ m))
     .exact .inl (f2.sub (Z:=a::Z) b (fP _ m))
  .cases hf
 .cases hf
end
def setM{α:Type}:List Nat->List α->List (Option α)->List (Option α)
 |i::is,x::xs,e=>setM is xs (e.set i (aj x))
 |_,_,e=>e
theorem aaD{K:aJ}{Z Θ:List az}{C:Ce}{H:Hp}{E:Hp}:∀{as:List az}{xs:List Vl}{vs:List V},oU K E H Θ as xs vs->∀{is:List Nat}{env:En}{σ:St},is.length=xs.length->bD E (er (bw (as++Z) Θ env σ) H)->Sm K (as++Z) Θ env C σ H->
  Sm K Z Θ (setM is xs env) C (setM is vs σ) H/\∀a∈bL (setM is xs env) (setM is vs σ),a∈bL env σ\/a∈as:=by
 intro as xs vs h;induction h with
 |nil=>
  intro is env σ hl _ S;cases is with
  |nil=>exact⟨S,λa m=>.inl m⟩
  |cons _ _=>cases hl
 |@cons as x v xs vs a1 _ ih=>
  intro is env σ hl sm S;cases is with
  |nil=>cases hl
  |cons i is=>
   have hx:∀d,x≠.ow d:=λd z=>by subst z;exact a1
   have sl:CP K (er (bw (as++Z) Θ env σ) H) H Θ x v:=by
    have a2:=a1.same sm;cases x with
    |im d=>exact a2
    |ow d=>exact absurd rfl (hx d)
    |ce n=>exact a2
    |sc ns=>exact a2
    |tp=>exact a2
   have S1:Sm K (as++Z) Θ (env.set i (aj x)) C (σ.set i (aj v)) H:=S.CQ hx sl;have o1:∀b∈bL (env.set i (aj x)) (σ.set i (aj v)),b∈bL env σ:=λb m=>by
    rcases yF m with m|⟨⟨d,z⟩,_⟩
    .exact m
    .exact absurd z (hx d)
   obtain⟨S2,o2⟩:=ih (is:=is) (by simpa using hl) (sm.trans (abt o1)) S1
   refine⟨S2,λb m=>?_⟩
   rcases o2 b m with m|m
   .exact .inl (o1 b m)
   .exact .inr m
 |@own as a d xs vs r _ ih=>
  intro is env σ hl sm S;cases is with
  |nil=>cases hl
  |cons i is=>
   have pm:((as++[a])++Z).Perm (a::(as++Z)):=by
    rw[qg];exact List.perm_middle
   have S0:=S.perm pm;have ee:er (bw ((as++[a])++Z) Θ env σ) H=er (bw (a::(as++Z)) Θ env σ) H:=rH λb=>by rw[jM,jM,pm.mem_iff]
   rw[ee] at sm;have S1:Sm K (as++Z) Θ (env.set i (aj (.ow d))) C (σ.set i (aj (.ref a))) H:=S0.acT (r.same sm λ_ h=>h);have o1:∀b∈bL (env.set i (aj (.ow d))) (σ.set i (aj (.ref a))),b∈bL env σ\/b=a:=λb m=>by
    rcases yF m with m|⟨_,z⟩
    .exact .inl m
    .cases z;exact .inr rfl
   obtain⟨S2,o2⟩:=ih (is:=is) (by simpa using hl) (sm.trans (ud λb m=>by
    rcases dF.mp m with m|m
    .exact iY _ (dB _ m)
    .rcases dF.mp m with m|m
     .exact fP _ (iY _ m)
     .rcases o1 b m with m|rfl
      .exact fP _ (fP _ m)
      .exact iY _ dj)) S1
   refine⟨S2,λb m=>?_⟩
   rcases o2 b m with m|m
   .rcases o1 b m with m|rfl
    .exact .inl m
    .exact .inr (fP _ (jB.mpr rfl))
   .exact .inr (iY _ m)
theorem aaE{K:aJ}{E H:Hp}{Θ as:List az}{xs:List Vl}{vs:List V}(h:oU K E H Θ as xs vs):vs.length=xs.length:=by
 induction h with
 |nil=>rfl
 |cons _ _ ih=>rw[dD,dD,ih]
 |own _ _ ih=>rw[dD,dD,ih]
def zj(is:List Nat)(g:FA):FS:=λenv C=>match g env C with
 |some (xs,e1,C1)=>if is.length=xs.length/\xs.length<=gU then aj (.nx,setM is xs e1,C1) else ao
 |none=>ao
section
variable{X:Cx}{pos:Pos}
theorem als{i j:Nat}{x y:Str}{a b:Expr}{g:FA}{px py pt:Pos}{kt k2 nZ}(hc:X.calm=au)(hN:X.N.Nodup)(hi:X.N[i]?=aj x)(hj:X.N[j]?=aj y)(hij:i≠j)
  (hx:X.env.scope.names.lookup x=aj .local)(hy:X.env.scope.names.lookup y=aj .local)(ha:PA X [a,b] (zH X.K g))
  (hw:Ad [.Tuple [.Name x px,.Name y py] kt pt] (.Tuple [a,b] k2 nZ) X.env=pure (aj [x,y]))
  (hs:Ac [.Tuple [.Name x px,.Name y py] kt pt] (.Tuple [a,b] k2 nZ) pos.line X.env=pure aD:=by rfl):
  PS X (.Assign [.Tuple [.Name x px,.Name y py] kt pt] (.Tuple [a,b] k2 nZ) pos) (tS X.K (zj [i,j] g)):=(akV hc hN hi hj hij hx hy ha hw hs).weak λD σ H aP=>by
 obtain⟨Z,Θ,env,C,fl,env',C',S,hf,q⟩:=aP
 unfold zj at hf;split at hf
 .rename_i xs e1 C1 h1;split at hf
  .rename_i hl;cases hf
   refine⟨Z,Θ,env,C,xs,e1,C',S,h1,λvs as H1 k1 f1 n1 S1 a1=>?_⟩
   have l2:=aaE a1
   obtain⟨S2,o2⟩:=aaD a1 hl.1 (bD.refl _) S1
   have e2:∃v w,vs=[v,w]:=by
    have:vs.length=2:=by rw[l2,<-hl.1];rfl
    match vs,this with
    |[v,w],_=>exact⟨v,w,rfl⟩
   obtain⟨v,w,rfl⟩:=e2
   refine⟨v,w,rfl,q Θ _ H1 ⟨lC.refl _ _,yG k1,λb m=>?_,S2⟩⟩
   rcases o2 b m with m|m
   .exact .inl (f1.own.subset m)
   .exact .inr (n1 b m)
  .cases hf
 .cases hf
end
theorem ZF:∀{env:En}{σ:St}{i:Nat}{d d':aA},env[i]?=aj (aj (.ow d))->bL (env.set i (aj (.ow d'))) σ=bL env σ
 |[],σ,i,d,d',h=>by simp at h
 |x::e,[],i,d,d',h=>by cases i<;>rfl
 |x::e,v::s,0,d,d',h=>by
  simp at h;subst h;show own1 (aj (.ow d')) v++bL e s=own1 (aj (.ow d)) v++bL e s;rcases v with _|v
  .rfl
  .cases v<;>rfl
 |x::e,v::s,i+1,d,d',h=>by
  show own1 x v++bL (e.set i (aj (.ow d'))) s=own1 x v++bL e s;rw[ZF (by simpa using h)]
section
variable{K:aJ}{Z Θ:List az}{env:En}{C:Ce}{σ:St}{H:Hp}{a:az}{i:Nat}{d d':aA}{o:HO}
theorem Sd(h:a∈P):er P (upd H a o)=er P H:=by
 funext b;unfold er;by_cases hb:b=a
 .subst hb;rw[aZ h,aZ h]
 .rw[dm hb]
theorem Sm.write(S:Sm K Z Θ env C σ H)(e1:env[i]?=aj (aj (.ow d)))(e2:σ[i]?=aj (aj (.ref a)))(r:jV (er (bw Z Θ env σ) H) (upd H a o) a d'):fJ K Z Θ env σ H Θ (env.set i (aj (.ow d'))) C σ (upd H a o):=by
 have m:a∈bL env σ:=mL.mpr ⟨i,d,e1,e2⟩;have no:=S.nM m;have eo:bL (env.set i (aj (.ow d'))) σ=bL env σ:=ZF e1;have mp:a∈bw Z Θ env σ:=fP _ (fP _ m);have ep:bw Z Θ (env.set i (aj (.ow d'))) σ=bw Z Θ env σ:=by show _++(_++_)=_;rw[eo]
 refine⟨lC.refl _ _,⟨λb u hb n=>?_,λb hb=>?_⟩,λb mb=>.inl (by rw[eo] at mb;exact mb),⟨by rw[vZ];exact S.len,by rw[ep];exact S.nd,λb mb=>?_,λj y ej=>?_,⟨S.cell.len,λn b ns h1 h2=>?_⟩⟩⟩
 .rw[dm (λz=>n (fP _ (by rw[z];exact m)))];exact hb
 .by_cases z:b=a
  .subst z;rw[f9];exact vV _
  .rw[dm z];exact hb
 .rw[dm (λz=>no.1 (by rw[<-z];exact mb))];exact S.dom b mb
 .rw[ep,Sd mp];rcases get_set ej with⟨rfl,ex,hl⟩|⟨n,ej⟩
  .cases ex
   exact⟨_,e2,a,rfl,r⟩
  .obtain⟨v,e3,r3⟩:=S.slot j y ej
   refine⟨v,e3,r3.same (bD.refl _) λd2 b ex ev u hu=>?_⟩
   subst ex ev;rw[dm]
   .exact hu
   .intro z;subst z;exact n (Fp S.dN.2.2.1 ej e3 e1 e2)
 .rw[dm (λz=>no.2 (by rw[<-z];exact pA h1))];exact S.cell.at_ n b ns h1 h2
end
def Gn:Option (Option Vl)->Bool
 |some (some (.ow (.list _)))=>au
 |_=>aD
def CT(i:Nat)(f:FE):FS:=λenv C=>if Gn env[i]? then match f env C with
  |some (r,e1,C1)=>match still r,e1[i]? with
   |.im d,some (some (.ow (.list ds)))=>if ds.length<gU then aj (.nx,e1.set i (aj (.ow (.list (ds++[d])))),C1) else ao
   |_,_=>ao
  |none=>ao
 else ao
theorem aiS(h:Gn x=au):∃ds,x=aj (aj (.ow (.list ds))):=by
 unfold Gn at h;split at h
 .exact⟨_,rfl⟩
 .cases h
section
variable{X:Cx}{pos:Pos}
theorem abv(ho:PE X o (uq i))(he:PE X e (tE X.K f))
  (hs0:wF (.Call (.Attribute o "append" apos) [e] [] cpos) ao pos.line X.env=pure aD:=by rfl)
  (hbase:HY o "append" X.env (eval o X.env)=eval o X.env:=by rfl)
  (hfew:((iM cpos (bG [e] X.env)).all (λx=>!x.1)&&(Js cpos (Im [] X.env)).all (λx=>x.1.isSome)
   &&decide (([e]:List Expr).length+([]:List tX).length+(if([]:List tX).isEmpty then 0 else 1)<30))=au:=by rfl)
  (hline:(apos.endLine==cpos.line)=au:=by rfl)(hs:bG [e] X.env=(aD,eval e X.env)::bG [] X.env:=by rfl)(hplain:(iM cpos (bG [] X.env)).any (·.1)=aD:=by rfl):
  PS X (.Expr (.Call (.Attribute o "append" apos) [e] [] cpos) pos) (tS X.K (CT i f)):=
 (ajy (abV PySem.F.plainAttrs_list ael PySem.F.type_list_append (Df.r Yw) ho (qw he vd hs) hbase hfew hline hs hplain) hs0).weak λD σ H aP=>by
  obtain⟨Z,Θ,env,C,fl,env',C',S,hf,q⟩:=aP
  unfold CT at hf;split at hf
  .rename_i h0
   obtain⟨ds0,h0⟩:=aiS h0
   obtain⟨v0,U4,a,rfl,vs0,ha0,r0⟩:=S.slot i _ h0
   split at hf
   .rename_i r e1 C1 h1;split at hf
    .rename_i d ds hd hi;split at hf
     .rename_i hl;cases hf
      refine⟨_,U4,.inl ⟨rfl,vs0,bK.of ha0⟩,Z,Θ,env,C,r,e1,C',S,h1,λv H1 k f R=>?_⟩
      obtain⟨S1,r1⟩:=R.rQ hd
      obtain⟨v1,ev1,a1,ea1,vs,ha1,r2⟩:=S1.slot i _ hi
      subst ea1;rw[U4] at ev1;cases ev1
      refine⟨a,vs,v,rfl,rfl,ha1,by rw[jc r2,jR];unfold gU at hl;lia,?_⟩
      have w:fJ X.K Z Θ e1 σ H1 Θ (e1.set i (aj (.ow (.list (ds++[d]))))) C' σ (upd H1 a (.lst (vs++[v]))):=S1.write hi U4 ⟨_,f9,Bm r2 ⟨v,[],rfl,r1,rfl⟩⟩;exact q Θ σ _ ((fJ.uB k f S1).trans w)
     .cases hf
    .cases hf
   .cases hf
  .cases hf
def qO{κ:Type}[DecidableEq κ](f:aA->Option κ)(k:κ)(dk d:aA)(kvs:List (aA×aA)):List (aA×aA):=
 if(kvs.any λp=>decide (f p.1=aj k))=au then kvs.map (λp=>if f p.1=aj k then(p.1,d) else p) else kvs++[(dk,d)]
def putD(kvs:List (aA×aA))(dk d:aA):Option (List (aA×aA)):=match gK dk with
 |some k=>if(dR gK kvs).isSome then aj (qO gK k dk d kvs) else ao
 |none=>match qI dk with
  |some ks=>if(dR qI kvs).isSome then aj (qO qI ks dk d kvs) else ao
  |none=>ao
theorem aaF[DecidableEq κ]:∀{kvs:List (aA×aA)}{ks:List κ}{vs:List V},dR f kvs=aj ks->jq E kvs vs->(kvs.any λp=>decide (f p.1=aj k))=((ks.zip vs).any λkv=>decide (kv.1=k))
 |[],ks,vs,h,r=>by
  cases h
  cases(show vs=[] from r)
  rfl
 |(p,d)::kvs,ks,vs,h,r=>by
  unfold dR at h;split at h
  .rename_i k' t h1 h2;cases h
   obtain⟨v,w,rfl,q,s⟩:=r
   show(decide (f p=aj k)||_)=(decide (k'=k)||_)
   rw[aaF h2 s,h1];congr 1;rw[pF,decide_eq_true_iff,decide_eq_true_iff]
   exact⟨λe=>jb e,λe=>by rw[e]⟩
  .cases h
theorem aaG[DecidableEq κ](hv:RZ E d v):∀{kvs:List (aA×aA)}{ks:List κ}{vs:List V},dR f kvs=aj ks->jq E kvs vs->
  ∃vs',dR f (kvs.map λp=>if f p.1=aj k then(p.1,d) else p)=aj ks/\jq E (kvs.map λp=>if f p.1=aj k then(p.1,d) else p) vs'/\ks.zip vs'=(ks.zip vs).map λkv=>if kv.1=k then(kv.1,v) else kv
 |[],ks,vs,h,r=>by
  cases h
  exact⟨[],rfl,rfl,rfl⟩
 |(p,e)::kvs,ks,vs,h,r=>by
  unfold dR at h;split at h
  .rename_i k' t h1 h2;cases h
   obtain⟨u,w,rfl,q,s⟩:=r
   obtain⟨vs',g1,g2,g3⟩:=aaG (k:=k) hv h2 s
   have h1':f p=aj k':=h1;by_cases ek:k'=k
   .subst ek
    refine⟨v::vs',?_,?_,?_⟩
    .rw[cV];show dR f ((if f p=aj k' then(p,d) else(p,e))::_)=_;rw[aZ h1'];unfold dR;rw[g1];simp only[h1']
    .rw[cV];show jq E ((if f p=aj k' then(p,d) else(p,e))::_) _;rw[aZ h1']
     exact⟨v,vs',rfl,hv,g2⟩
    .show(k',v)::t.zip vs'=(if k'=k' then(k',v) else(k',u))::_
     rw[aZ rfl,g3];rfl
   .have ne:¬f p=aj k:=λz=>ek (jb (h1'.symm.trans z))
    refine⟨u::vs',?_,?_,?_⟩
    .rw[cV];show dR f ((if f p=aj k then(p,d) else(p,e))::_)=_;rw[aY ne];unfold dR;rw[g1];simp only[h1']
    .rw[cV];show jq E ((if f p=aj k then(p,d) else(p,e))::_) _;rw[aY ne]
     exact⟨u,vs',rfl,q,g2⟩
    .show(k',u)::t.zip vs'=(if k'=k then(k',v) else(k',u))::_
     rw[aY ek,g3];rfl
  .cases h
theorem ZG{κ:Type}{f:aA->Option κ}{k:κ}{E:Hp}{dk d:aA}{v:V}(hk:f dk=aj k)(hv:RZ E d v):∀{kvs:List (aA×aA)}{ks:List κ}{vs:List V},dR f kvs=aj ks->jq E kvs vs->
  dR f (kvs++[(dk,d)])=aj (ks++[k])/\jq E (kvs++[(dk,d)]) (vs++[v])/\(ks++[k]).zip (vs++[v])=ks.zip vs++[(k,v)]
 |[],ks,vs,h,r=>by
  cases h
  cases(show vs=[] from r)
  refine⟨?_,⟨v,[],rfl,hv,rfl⟩,rfl⟩
  show dR f [(dk,d)]=_;unfold dR dR;simp only[hk];rfl
 |(p,e)::kvs,ks,vs,h,r=>by
  unfold dR at h;split at h
  .rename_i k' t h1 h2;cases h
   obtain⟨u,w,rfl,q,s⟩:=r
   obtain⟨g1,g2,g3⟩:=ZG hk hv h2 s
   refine⟨?_,⟨u,_,rfl,q,g2⟩,?_⟩
   .show dR f ((p,e)::(kvs++[(dk,d)]))=_;unfold dR;rw[g1];simp only[show f p=aj k' from h1];rfl
   .show(k',u)::(t++[k]).zip (w++[v])=_
    rw[g3];rfl
  .cases h
theorem J1{κ:Type}[DecidableEq κ]{f:aA->Option κ}{k:κ}{E:Hp}{dk d:aA}{v:V}(hk:f dk=aj k)(hv:RZ E d v){kvs:List (aA×aA)}{ks:List κ}{vs:List V}(h:dR f kvs=aj ks)(r:jq E kvs vs):
  ∃ks' vs',dR f (qO f k dk d kvs)=aj ks'/\jq E (qO f k dk d kvs) vs'/\ks'.zip vs'=putK (ks.zip vs) k v:=by
 unfold qO putK;rw[aaF h r];split
 .obtain⟨vs',g1,g2,g3⟩:=aaG (k:=k) hv h r
  exact⟨ks,vs',g1,g2,g3⟩
 .obtain⟨g1,g2,g3⟩:=ZG hk hv h r
  exact⟨_,_,g1,g2,g3⟩
theorem set_dict(hu:X.A.units+1<gJ):vC X (λo i v H Q=>∃a H',o=.ref a/\rZ H a i v H'/\Q H'):=by
 intro pins s σ H o i v ov iv u Q I ro ri rv h
 obtain⟨a,H',rfl,g,q⟩:=h
 cases ro;exact Yy hu I g ri rv λs' I'=>⟨H',I',q⟩
theorem ahW(hu:X.A.units+1<gJ):vC X (λo i v H Q=>∃(a b:az)(ks:List Key),o=.ref a/\H a=aj (.dK [])/\i=.ref b/\H b=aj (.tup (ks.map kV))/\Q (upd H a (.dT [(ks,v)]))):=by
 intro pins s σ H o i v ov iv u Q I ro ri rv h
 obtain⟨a,b,ks,rfl,ha,rfl,hb,q⟩:=h
 cases ro;have hb':(upd H a (.dT [])) b=aj (.tup (ks.map kV)):=by rw[dm (SM hb ha (λz=>nomatch z))];exact hb
 refine Yy hu (I.Lg ha) (rZ.t (kvs:=[]) (k:=ks) (v:=v) f9 hb' (by rw[jR];decide)) ri rv λs' I'=>⟨_,I',?_⟩
 rw[aaa];exact q
theorem vC.or(h:vC X t)(h':vC X t'):vC X (λo i v H Q=>t o i v H Q\/t' o i v H Q):=by
 intro pins s σ H o i v ov iv u Q I ro ri rv q;rcases q with q|q
 .exact h pins s σ H o i v ov iv u Q I ro ri rv q
 .exact h' pins s σ H o i v ov iv u Q I ro ri rv q
theorem aj9(hu:X.A.units+1<gJ):vC X (λo i v H Q=>(S9 o i v H Q\/∃a H',o=.ref a/\rZ H a i v H'/\Q H')\/∃(a b:az)(ks:List Key),o=.ref a/\H a=aj (.dK [])/\i=.ref b/\H b=aj (.tup (ks.map kV))/\Q (upd H a (.dT [(ks,v)]))):=
 (set_list.or (set_dict hu)).or (ahW hu)
def Cq:Option (Option Vl)->Bool
 |some (some _)=>au
 |_=>aD
theorem aka(h:Cq x=au):∃y,x=aj (aj y):=by
 unfold Cq at h;split at h
 .exact⟨_,rfl⟩
 .cases h
def CV(i:Nat)(d dk:aA)(e:En)(C:Ce):Option Vl->Option (Fl×En×Ce)
 |some (.ow (.list ds))=>(intD dk).bind λz=>(n6 ds.length z).bind λj=>aj (.nx,e.set i (aj (.ow (.list (ds.set j d)))),C)
 |some (.ow (.dict kvs))=>(putD kvs dk d).bind λkvs'=>bif decide (kvs.length<gU) then aj (.nx,e.set i (aj (.ow (.dict kvs'))),C) else ao
 |some (.ce n)=>(intD dk).bind λz=>(intD d).bind λy=>(C[n]?).bind λns=>(n6 ns.length z).bind λj=>aj (.nx,e,C.set n (ns.set j y))
 |_=>ao
def GF(i:Nat)(fk:FB)(fe:FE):FS:=λenv C=>(fe env C).bind λp=>(sI (still p.1)).bind λd=>(fk p.2.1 p.2.2).bind λk=>bif Cq p.2.1[i]? then(k.2.1[i]?).bind (CV i d k.1 k.2.1 k.2.2) else ao
def Gp(o i v:V)(H:Hp)(Q:Hp->Prop):Prop:=(S9 o i v H Q\/∃a H',o=.ref a/\rZ H a i v H'/\Q H')\/∃(a b:az)(ks:List Key),o=.ref a/\H a=aj (.dK [])/\i=.ref b/\H b=aj (.tup (ks.map kV))/\Q (upd H a (.dT [(ks,v)]))
section
variable{K:aJ}{Z Θ:List az}{e2:En}{C2:Ce}{σ:St}{H2:Hp}{i:Nat}{d dk:aA}{v w:V}{a:az}{R:Hp->Prop}{p:Fl×En×Ce}
theorem aiT(S2:Sm K Z Θ e2 C2 σ H2)(eu:σ[i]?=aj (aj (.ref a)))(hi:e2[i]?=aj (aj (.ow (.list ds))))(rt:jV (er (bw Z Θ e2 σ) H2) H2 a (.list ds))(r2:RZ (er (bw Z Θ e2 σ) H2) d v)(b2:fZ Z Θ e2 σ H2 dk w)(hf:CV i d dk e2 C2 (aj (.ow (.list ds)))=aj p):
  p.1=.nx/\((∀Hx,fJ K Z Θ e2 σ H2 Θ p.2.1 p.2.2 σ Hx->R Hx)->Gp (.ref a) w v H2 R):=by
 obtain⟨z,hz,hf⟩:=jE hf
 obtain⟨j,hj,hf⟩:=jE hf
 cases hf;have hz:=Rq hz;subst hz
 obtain⟨vs,ha,r3⟩:=rt
 have b2:w=.int z:=b2;subst b2
 exact⟨rfl,λq=>.inl (.inl ⟨a,vs,z,j,rfl,rfl,ha,by rw[jc r3];exact hj,q _ (S2.write hi eu ⟨_,f9,aaw r2 j r3⟩)⟩)⟩
theorem aaH(kvs:List (aA×aA)):qO qI U5 dk d kvs≠[]:=λz=>by
 unfold qO at z;split at z
 .rename_i hz;cases kvs with
  |nil=>cases hz
  |cons _ _=>cases z
 .cases kvs<;>cases z
theorem aiU{kvs:List (aA×aA)}(S2:Sm K Z Θ e2 C2 σ H2)(eu:σ[i]?=aj (aj (.ref a)))(hi:e2[i]?=aj (aj (.ow (.dict kvs))))(rt:jV (er (bw Z Θ e2 σ) H2) H2 a (.dict kvs))(r2:RZ (er (bw Z Θ e2 σ) H2) d v)(b2:fZ Z Θ e2 σ H2 dk w)(hf:CV i d dk e2 C2 (aj (.ow (.dict kvs)))=aj p):
  p.1=.nx/\((∀Hx,fJ K Z Θ e2 σ H2 Θ p.2.1 p.2.2 σ Hx->R Hx)->Gp (.ref a) w v H2 R):=by
 refine hide λGG gg=>?_
 obtain⟨kvs',hp,hf⟩:=jE hf
 cases hl:decide (kvs.length<gU) with
 |false=>rw[hl] at hf;cases hf
 |true=>
 rw[hl] at hf;cases hf;have hl:=of_decide_eq_true hl;have hl':∀{κ:Type}(ks:List κ)(vs:List V),ks.length=kvs.length->(ks.zip vs).length<bU:=λks vs e=>by
  rw[Nf,jR,e];unfold gU at hl;lia
 obtain⟨vs,da,r3⟩:=rt
 unfold putD at hp;split at hp
 .rename_i k hk;split at hp
  case isFalse=>cases hp
  rename_i hs';cases hp;have wk:w=kV k:=by
   cases dk<;>first|(cases hk;exact b2)|cases hk
  rcases da with⟨ks,g1,ha⟩|⟨ks,⟨ne,g2⟩,ha⟩
  .obtain⟨ks',vs',g3,g4,g5⟩:=J1 hk r2 g1 r3
   subst wk;exact gg ⟨rfl,λq=>.inl (.inr ⟨a,_,rfl,rZ.k (k:=k) (v:=v) ha (hl' ks vs (yC g1)),q _ (S2.write hi eu ⟨vs',.inl ⟨ks',g3,by rw[g5];exact f9⟩,g4⟩)⟩)⟩
  .obtain⟨anl,g1⟩:=zN.mp hs'
   exact absurd (Ay g1 g2) ne
 .split at hp
  case h_2=>cases hp
  rename_i U5 hks;split at hp
  case isFalse=>cases hp
  rename_i hs';cases hp
  obtain⟨b,hb,rfl⟩:∃b,H2 b=aj (.tup (U5.map kV))/\w=.ref b:=by
   cases dk<;>first|cases hks|skip
   obtain⟨b,ws,rfl,hb,rr⟩:=b2.tup
   rw[yw hks rr] at hb
   exact⟨b,hb,rfl⟩
  rcases da with⟨ks,g1,ha⟩|⟨ks,⟨ne,g1⟩,ha⟩
  .obtain⟨anl,g2⟩:=zN.mp hs'
   have e0:=Ay g1 g2;subst e0;cases g1;have e0:vs=[]:=r3;subst e0
   obtain⟨ks',vs',g3,g4,g5⟩:=J1 (kvs:=[]) (vs:=[]) (ks:=[]) hks r2 rfl rfl
   exact gg ⟨rfl,λq=>.inr ⟨a,b,U5,rfl,ha,rfl,hb,q _ (S2.write hi eu ⟨vs',.inr ⟨ks',⟨aaH [],g3⟩,by rw[g5];exact f9⟩,g4⟩)⟩⟩
  .obtain⟨ks',vs',g3,g4,g5⟩:=J1 hks r2 g1 r3
   exact gg ⟨rfl,λq=>.inl (.inr ⟨a,_,rfl,rZ.t ha hb (hl' ks vs (yC g1)),q _ (S2.write hi eu ⟨vs',.inr ⟨ks',⟨aaH kvs,g3⟩,by rw[g5];exact f9⟩,g4⟩)⟩)⟩
theorem aiV(S2:Sm K Z Θ e2 C2 σ H2)(hth:Θ[n]?=aj a)(r2:RZ (er (bw Z Θ e2 σ) H2) d v)(b2:fZ Z Θ e2 σ H2 dk w)(hf:CV i d dk e2 C2 (aj (.ce n))=aj p):
  p.1=.nx/\((∀Hx,fJ K Z Θ e2 σ H2 Θ p.2.1 p.2.2 σ Hx->R Hx)->Gp (.ref a) w v H2 R):=by
 refine hide λGG gg=>?_
 obtain⟨z,hz,hf⟩:=jE hf
 obtain⟨y,hy,hf⟩:=jE hf
 obtain⟨ns,hns,hf⟩:=jE hf
 obtain⟨j,hj,hf⟩:=jE hf
 cases hf;have hz:=Rq hz;have hy:=Rq hy;subst hz hy;have b2:w=.int z:=b2;have ev:v=.int y:=r2;subst ev b2;have ha:=S2.cell.at_ n a ns hth hns;have am:a∈Θ:=pA hth;refine gg ⟨rfl,λq=>.inl (.inl ⟨a,_,z,j,rfl,rfl,ha,by rw[bC];exact hj,q _ ?_⟩)⟩;have kc:bz Θ H2 (upd H2 a (.lst ((ns.map V.int).set j (.int y)))):=⟨λb o hb nb=>by rw[dm (λzz=>nb (by rw[zz];exact am))];exact hb,λb hb=>by
  by_cases zz:b=a
  .subst zz;rw[f9];exact vV _
  .rw[dm zz];exact hb⟩
 refine fJ.uB kc (Fz.refl _) (S2.go kc ⟨by rw[vZ];exact S2.cell.len,λm b ms h5 h6=>?_⟩);rcases get_set h6 with⟨rfl,e6,_⟩|⟨nm,h6⟩
 .rw[hth] at h5;cases h5;cases e6;rw[f9,List.map_set]
 .rw[dm]
  .exact S2.cell.at_ m b ms h5 h6
  .intro zz;subst zz
   obtain⟨l1,l1'⟩:=kj.mp h5
   obtain⟨l2,l2'⟩:=kj.mp hth
   rcases aeG m n with hlt|heq|hgt
   .exact zK.mp S2.dN.2.1 m n l1 l2 hlt (l1'.trans l2'.symm)
   .exact nm heq
   .exact zK.mp S2.dN.2.1 n m l2 l1 hgt (l2'.trans l1'.symm)
theorem akb(S2:Sm K Z Θ e2 C2 σ H2)(eu:σ[i]?=aj (aj u))(hi:e2[i]?=aj s)(r2:RZ (er (bw Z Θ e2 σ) H2) d v)(b2:fZ Z Θ e2 σ H2 dk w)(hf:CV i d dk e2 C2 s=aj p):
  p.1=.nx/\((∀Hx,fJ K Z Θ e2 σ H2 Θ p.2.1 p.2.2 σ Hx->R Hx)->Gp u w v H2 R):=by
 cases s with
 |none=>cases hf
 |some s=>
 obtain⟨u',eu',sl⟩:=S2.slot i _ hi
 rw[eu] at eu';cases eu';cases s with
 |im _=>cases hf
 |sc _=>cases hf
 |tp=>cases hf
 |ce n=>
  obtain⟨a,rfl,hth⟩:=sl
  exact aiV S2 hth r2 b2 hf
 |ow x=>
  obtain⟨a,rfl,rt⟩:=sl
  cases x<;>first|exact aiT S2 eu hi rt r2 b2 hf|exact aiU S2 eu hi rt r2 b2 hf|cases hf
end
theorem abw(hu:X.A.units+1<gJ)(ho:PE X o (uq i))(hk:PE X k (fM X.K fk))(he:PE X e (tE X.K fe))
  (ha:∀v,assign (.Subscript o k p) X.env v=(do
   let ov <-pL [v] (eval o X.env)
   let iv <-pL [v,ov] (eval k X.env)
   tW p
   pL [v,ov,iv] (setItem ov iv v)
   release [v,ov,iv] []):=by intro _;rfl)
  (hs:Ac [.Subscript o k p] e pos.line X.env=pure aD:=by rfl)(hw:Ad [.Subscript o k p] e X.env=pure ao:=by rfl)(h1:(rD [.Subscript o k p] X.env).map (·.2)=[assign (.Subscript o k p) X.env]:=by rfl):
  PS X (.Assign [.Subscript o k p] e pos) (tS X.K (GF i fk fe)):=(aa0 he (akU (t:=Gp) ho hk (aj9 hu) ha) hs hw h1).weak λD σ H aP=>by
 obtain⟨Z,Θ,env,C,fl,env',C',S,hf,q⟩:=aP
 obtain⟨p,h1,hf⟩:=jE hf
 obtain⟨d,hd,hf⟩:=jE hf
 obtain⟨kp,h2,hf⟩:=jE hf
 cases h3:Cq p.2.1[i]? with
 |false=>rw[h3] at hf;cases hf
 |true=>
 rw[h3] at hf
 obtain⟨s,hi,hf⟩:=jE hf
 obtain⟨y3,h3⟩:=aka h3
 refine⟨Z,Θ,env,C,p.1,p.2.1,p.2.2,S,h1,λv H1 k1 f1 R1=>?_⟩
 obtain⟨S1,r1⟩:=R1.rQ (Gb hd)
 obtain⟨u,eu,_⟩:=S1.slot i _ h3
 refine⟨u,eu,Z,Θ,p.2.1,p.2.2,kp.1,kp.2.1,kp.2.2,S1,h2,λw H2 k2 f2 S2 b2=>?_⟩
 obtain⟨e0,go⟩:=akb (R:=λHx=>D.nx σ Hx) S2 eu hi (r1.same (Td S1 k2 f2)) b2 hf
 have e0:fl=.nx:=e0;subst e0;exact go λHx st=>q Θ σ _ ((fJ.uB (k1.trans k2) (f1.trans f2) S2).trans st)
end
def intsOf:List aA->Option (List Int)
 |[]=>aj []
 |.int i::r=>match intsOf r with
  |some t=>aj (i::t)
  |none=>ao
 |_=>ao
theorem Jx:∀{ds:List aA}{ns:List Int}{vs:List V},intsOf ds=aj ns->bW E ds vs->vs=ns.map V.int
 |[],ns,vs,h,r=>by cases h;exact r
 |.int i::ds,ns,vs,h,r=>by
  unfold intsOf at h;split at h
  .rename_i t ht;cases h
   obtain⟨u,w,rfl,q,s⟩:=r
   rw[Jx ht s];have:u=.int i:=q;rw[this];rfl
  .cases h
 |.none::_,_,_,h,_=>by cases h
 |.bool _::_,_,_,h,_=>by cases h
 |.str _::_,_,_,h,_=>by cases h
 |.list _::_,_,_,h,_=>by cases h
 |.tuple _::_,_,_,h,_=>by cases h
 |.dict _::_,_,_,h,_=>by cases h
def CW(i:Nat)(f:FE):FS:=λenv C=>match f env C with
 |some (.ow (.list ds),e1,C1)=>match intsOf ds with
  |some ns=>aj (.nx,e1.set i (aj (.ce C1.length)),C1++[ns])
  |none=>ao
 |_=>ao
section
variable{X:Cx}{pos:Pos}
theorem Sm.alu{K:aJ}{Z Θ:List az}{e1:En}{C1:Ce}{σ:St}{H1:Hp}{a:az}{ns:List Int}(S1:Sm K (a::Z) Θ e1 C1 σ H1)(ha:H1 a=aj (.lst (ns.map V.int))):Sm K Z (Θ++[a]) e1 (C1++[ns]) σ H1:=by
 have dN:=S1.dN;have Hf:=kI.mp dN.1;have cl:=S1.cell.len;have c':pN (Θ++[a]) (C1++[ns]) H1:=by
  refine⟨by rw[lO,lO,cl];rfl,λm b ms h5 h6=>?_⟩
  by_cases hm:m<Θ.length
  .rw[o8 hm] at h5;rw[o8 (by rw[cl];exact hm)] at h6;exact S1.cell.at_ m b ms h5 h6
  .rw[o7 (by lia)] at h5;rw[o7 (by lia)] at h6;rw[cl] at h6;cases hm0:m-Θ.length with
   |zero=>rw[hm0] at h5 h6;cases h5;cases h6;exact ha
   |succ j=>rw[hm0] at h5;simp at h5
 have mm:∀b,b∈bw Z (Θ++[a]) e1 σ↔b∈bw (a::Z) Θ e1 σ:=λb=>by
  rw[jM,jM,dF,jB,bJ];constructor
  .rintro(h|(h|h)|h)
   .exact .inl (.inr h)
   .exact .inr (.inl h)
   .exact .inl (.inl h)
   .exact .inr (.inr h)
  .rintro((h|h)|h|h)
   .exact .inr (.inl (.inr h))
   .exact .inl h
   .exact .inr (.inl (.inl h))
   .exact .inr (.inr h)
 refine⟨S1.len,zF Hf.2 ?_ dN.2.2.1 (λb m=>?_) λb m=>?_,λb m=>S1.dom b (dB _ m),λj x e=>?_,c'⟩
 .rw[lD]
  exact⟨dN.2.1,kI.mpr ⟨by simp,oK⟩,λb m c m' e=>by
   rw[jB] at m';subst e m';exact dN.2.2.2 b dj m⟩
 .intro m';rcases dF.mp m' with m'|m'
  .exact dN.2.2.2 b (dB _ m) m'
  .rw[jB.mp m'] at m;exact Hf.1 m
 .obtain⟨p1,p2⟩:=S1.nM m
  refine⟨λz=>p1 (dB _ z),λm'=>?_⟩
  rcases dF.mp m' with m'|m'
  .exact p2 m'
  .rw[jB.mp m'] at p1;exact p1 dj
 .obtain⟨v,e3,r3⟩:=S1.slot j x e
  rw[rH mm]
  refine⟨v,e3,?_⟩
  cases x with
  |im d=>exact r3
  |ow d=>exact r3
  |ce n=>
   obtain⟨b,e5,e6⟩:=r3
   exact⟨b,e5,by rw[o8 (kj.mp e6).1];exact e6⟩
  |sc ns=>exact r3
  |tp=>exact r3
theorem aiW{K:aJ}{i:Nat}{f:FE}:∀D σ H,tS K (CW i f) D σ H->CK (tE K f) (yR i) D σ H:=by
 rintro D σ H ⟨Z,Θ,env,C,fl,env',C',S,hf,q⟩;unfold CW at hf;split at hf
 .rename_i ds e1 C1 h1;split at hf
  .rename_i ns hns;cases hf
   refine⟨Z,Θ,env,C,_,e1,C1,S,h1,λv H1 k f R=>?_⟩
   obtain⟨a,rfl,hn,S1,vs,ha,r⟩:=R
   have ev:=Jx hns r;subst ev;have cl:=S1.cell.len;have o1:∀b∈bL (e1.set i (aj (.ce C1.length))) (σ.set i (aj (.ref a))),b∈bL e1 σ:=λb m=>by
    rcases yF m with m|⟨⟨_,z⟩,_⟩
    .exact m
    .cases z
   have S2:=S1.alu ha;have S3:Sm K Z (Θ++[a]) (e1.set i (aj (.ce C1.length))) (C1++[ns]) (σ.set i (aj (.ref a))) H1:=
    S2.CQ (λ_ z=>nomatch z) ⟨a,rfl,by rw[cl,o7 (bT _),Xk];rfl⟩
   exact q (Θ++[a]) _ H1 ⟨⟨[a],rfl,λb m=>by rw[jB.mp m];exact hn⟩,yG k,λb m=>.inl (f.own.subset (o1 b m)),S3⟩
  .cases hf
 .cases hf
theorem alv(hN:X.N.Nodup)(hi:X.N[i]?=aj x)(hx:Loc X.env.scope x)(he:PE X e (tE X.K f))(hs:wF e (aj (.Name x pos')) pos.line X.env=pure aD:=by rfl)(hf:X.fn x=au\/X.env.scope.names.lookup x=aj .local:=by first|exact .inl rfl|exact .inr rfl|assumption):
  PS X (.Assign [.Name x pos'] e pos) (tS X.K (CW i f)):=(aa1 hN hi hx he hs hf).weak aiW
end
def uf(c:FT)(body:FS):Nat->FS
 |0=>λ_ _=>ao
 |n+1=>λenv C=>match c env C with
  |some (false,C1)=>aj (.nx,env,C1)
  |some (true,C1)=>match body env C1 with
   |some (.nx,e2,C2)=>uf c body n e2 C2
   |some (.ct,e2,C2)=>uf c body n e2 C2
   |some (.bk,e2,C2)=>aj (.nx,e2,C2)
   |some (.rt r,e2,C2)=>aj (.rt r,e2,C2)
   |none=>ao
  |none=>ao
def ab9:Nat:=100000
def U6(c:FT)(body:FS):FS:=uf c body ab9
theorem ahd{K:aJ}{c:FT}{body:FS}{n:Nat}:∀D σ H,tS K (uf c body n) D σ H->aa2 (fO K c) (tS K body) D σ H:=by
 rintro D σ H ⟨Z,Θ,env,C,fl,env',C',S,hf,q⟩
 refine⟨λm σ1 H1=>∃Θ1 e1 C1,fJ K Z Θ env σ H Θ1 e1 C1 σ1 H1/\uf c body m e1 C1=aj (fl,env',C'),⟨n,Θ,env,C,fJ.same S,hf⟩,?_⟩
 rintro m σ1 H1 ⟨Θ1,e1,C1,p,hf⟩;cases m with
 |zero=>cases hf
 |succ m=>
  unfold uf at hf;split at hf
  .rename_i C2 h1;cases hf
   exact⟨Z,Θ1,env',C1,aD,C',p.sm,h1,λH2 k2 S2=>vG (q Θ1 σ1 H2 (p.trans (fJ.uB k2 (Fz.refl _) S2)))⟩
  .rename_i C2 h1
   refine⟨Z,Θ1,e1,C1,au,C2,p.sm,h1,λH2 k2 S2=>vH ⟨λσ' H'=>∃Θ1 e1 C1,fJ K Z Θ env σ H Θ1 e1 C1 σ' H'/\uf c body m e1 C1=aj (fl,env',C'),λσ' H' h=>⟨m,MP m,h⟩,?_⟩⟩
   have p2:=p.trans (fJ.uB k2 (Fz.refl _) S2);split at hf
   .rename_i e3 C3 h2
    exact⟨Z,Θ1,e1,C2,.nx,e3,C3,S2,h2,λΘ3 σ3 H3 p3=>⟨Θ3,e3,C3,p2.trans p3,hf⟩⟩
   .rename_i e3 C3 h2
    exact⟨Z,Θ1,e1,C2,.ct,e3,C3,S2,h2,λΘ3 σ3 H3 p3=>⟨Θ3,e3,C3,p2.trans p3,hf⟩⟩
   .rename_i e3 C3 h2;cases hf
    exact⟨Z,Θ1,e1,C2,.bk,env',C',S2,h2,λΘ3 σ3 H3 p3=>q Θ3 σ3 H3 (p2.trans p3)⟩
   .rename_i r e3 C3 h2;cases hf
    exact⟨Z,Θ1,e1,C2,.rt r,env',C',S2,h2,λΘ3 v H3 p3=>q Θ3 v H3 (p2.ret p3)⟩
   .cases hf
  .cases hf
theorem aiX(hp:PN (model X.prog X.w) X.A X.env X.xe)(hc:PT X c (fO X.K t))(hb:jA X body (tS X.K f)):PS X (.While c body [] pos) (tS X.K (U6 t f)):=(aim hp hc hb).weak ahd
abbrev FI:=En->Ce->Option (List aA×En×Ce)
def xF(P T:List az)(H:Hp)(J:It)(its:List aA):Prop:=∀(i:Nat)(H2:Hp)(P2:List az),bD (er P H) (er P2 H2)->bD (er T H) (er T H2)->(∀a∈P2,H2 a≠ao)->
 (∀d,its[i]?=aj d->J.go i H2/\∀x H3,J.xG i H2 x H3->bD H2 H3/\RZ (er P2 H3) d x)/\(i=its.length->J.stop i H2)
inductive tI(K:aJ)(b:Bool)(f:FI)(σ:St)(H:Hp)(R:It->Hp->Prop):Prop
 |mk (Z Θ:List az) (env:En) (C:Ce) (its:List aA) (env':En) (C':Ce) (S:Sm K Z Θ env C σ H) (hf:f env C=aj (its,env',C')) (q:∀J H',bz Θ H H'->Fz env env'->Sm K Z Θ env' C' σ H'->xF (bw Z Θ env' σ) (if b then Θ else bw Z Θ env' σ) H' J its->R J H'):tI K b f σ H R
theorem PI.weak(h:PI X tg e t)(w:∀σ H Q,t' σ H Q->t σ H Q):PI X tg e t':=λpins s σ H Q I q=>h pins s σ H Q I (w σ H Q q)
theorem PI.or(h:PI X tg e t)(h':PI X tg e t'):PI X tg e (λσ H R=>t σ H R\/t' σ H R):=λpins s σ H R I q=>q.elim (h pins s σ H R I) (h' pins s σ H R I)
section
variable{K:aJ}{P T:List az}{H:Hp}{a:az}{ds:List aA}{vs:List V}
theorem J2(ha:er T H a=aj (.lst vs))(r:bW (er P H) ds vs):xF P T H (Ul K a) ds:=λi H2 P2 s1 s2 n=>by
 have h2:bK K H2 a vs:=bK.of (ir (s2 _ _ ha))
 refine⟨λd hd=>?_,λhi=>⟨vs,h2,by rw[jc r,hi];exact bT _⟩⟩
 obtain⟨v,ev,rv⟩:=uc r hd
 refine⟨⟨vs,v,h2,ev⟩,λx H3 y=>?_⟩
 obtain⟨rfl,y⟩:=y
 have:=y vs h2;rw[ev] at this;cases this
 exact⟨bD.refl _,rv.same s1⟩
theorem Kc(ha:er P H a=aj (.tup vs))(r:bW (er P H) ds vs):xF P T H (Um K a) ds:=λi H2 P2 s1 s2 n=>by
 have h2:cz K H2 a vs:=cz.of (ir (s1 _ _ ha))
 refine⟨λd hd=>?_,λhi=>⟨vs,h2,by rw[jc r,hi];exact bT _⟩⟩
 obtain⟨v,ev,rv⟩:=uc r hd
 refine⟨⟨vs,v,h2,ev⟩,λx H3 y=>?_⟩
 obtain⟨rfl,y⟩:=y
 have:=y vs h2;rw[ev] at this;cases this
 exact⟨bD.refl _,rv.same s1⟩
def chars(z:Str):List aA:=z.cps.toList.map λc=>.str ⟨#[c]⟩
theorem abx(z:Str):xF P T H (Ux z) (chars z):=λi H2 P2 s1 s2 n=>by
 refine⟨λd hd=>?_,λhi=>?_⟩
 .unfold chars at hd;rw[jr] at hd;cases hc:z.cps.toList[i]? with
  |none=>rw[hc] at hd;cases hd
  |some c=>
   rw[hc] at hd;cases hd;have hc':z.cps[i]?=aj c:=by rw[<-Vw];exact hc
   have hlt:i<z.cps.size:=by
    obtain⟨h,_⟩:=Array.getElem?_eq_some_iff.mp hc'
    exact h
   refine⟨hlt,λx H3 y=>?_⟩
   obtain⟨rfl,c',ec,rfl⟩:=y
   rw[hc'] at ec;cases ec
   exact⟨bD.refl _,rfl⟩
 .show z.cps.size<=i;rw[hi];unfold chars;rw[bC,kZ];exact bT _
def pW(lo:Int)(n:Nat):List aA:=(gC n).map λ(k:Nat)=>.int (lo+(k:Int))
theorem aiY(lo:Int)(n:Nat):xF P T H (K9 lo n) (pW lo n):=λi H2 P2 s1 s2 nn=>by
 refine⟨λd hd=>?_,λhi=>?_⟩
 .unfold pW at hd;rw[jr] at hd;by_cases hlt:i<n
  .rw[aee hlt] at hd;cases hd
   refine⟨hlt,λx H3 y=>?_⟩
   obtain⟨rfl,rfl⟩:=y
   exact⟨bD.refl _,rfl⟩
  .rw[Dv (by rw[pD];lia)] at hd;cases hd
 .show n<=i;rw[hi];unfold pW;rw[bC,pD];exact bT _
end
def U7:aA->Option (List aA)
 |.list ds=>aj ds
 |.tuple ds=>aj ds
 |.str z=>aj (chars z)
 |_=>ao
def iB(f:FB):FI:=λenv C=>match f env C with
 |some (d,e1,C1)=>match U7 d with
  |some its=>aj (its,e1,C1)
  |none=>ao
 |none=>ao
def iV(f:FE):FI:=λenv C=>match f env C with
 |some (r,e1,C1)=>match still r with
  |.im d=>match U7 d with
   |some its=>aj (its,e1,C1)
   |none=>ao
  |_=>ao
 |none=>ao
def uC(f:FB):FI:=λenv C=>match f env C with
 |some (.int j,_,C1)=>if -(2^62)<=j/\j<2^62 then aj (pW 0 j.toNat,env,C1) else ao
 |_=>ao
section
variable{X:Cx}{tg e:Expr}
theorem mH(h:PE X e (fM X.K f))(hgo:∀i u,xY tg i u=pure ():=by intro _ _;rfl):PI X tg e (tI X.K au (iB f)):=(((JN h).or (J6 h)).or (aba h hgo)).weak λσ H R aP=>by
 obtain⟨Z,Θ,env,C,its,env',C',S,hf,q⟩:=aP
 unfold iB at hf;split at hf
 .rename_i d e1 C1 h1;split at hf
  .rename_i ys hi;cases hf;cases d<;>first|cases hi|skip
   .refine .inr ⟨Z,Θ,env,C,_,env',C',S,h1,λv H1 k f S1 b=>⟨_,b,q _ H1 k f S1 (abx _)⟩⟩
   .refine .inl (.inl ⟨Z,Θ,env,C,_,env',C',S,h1,λv H1 k f S1 b=>?_⟩)
    obtain⟨a,vs,rfl,ha,r⟩:=b
    exact⟨a,rfl,⟨vs,bK.of (ir ha)⟩,q _ H1 k f S1 (J2 ha r)⟩
   .refine .inl (.inr ⟨Z,Θ,env,C,_,env',C',S,h1,λv H1 k f S1 b=>?_⟩)
    obtain⟨a,vs,rfl,ha,r⟩:=b
    exact⟨a,rfl,⟨vs,cz.of (ir ha)⟩,q _ H1 k f S1 (Kc ha r)⟩
  .cases hf
 .cases hf
theorem anm(h:PE X e (tE X.K f))(hgo:∀i u,xY tg i u=pure ():=by intro _ _;rfl):PI X tg e (tI X.K aD (iV f)):=(((JN h).or (J6 h)).or (aba h hgo)).weak λσ H R aP=>by
 obtain⟨Z,Θ,env,C,its,env',C',S,hf,q⟩:=aP
 unfold iV at hf;split at hf
 .rename_i r e1 C1 h1;split at hf
  .rename_i d hd;split at hf
   .rename_i ys hi;cases hf;cases d<;>first|cases hi|skip
    .refine .inr ⟨Z,Θ,env,C,_,env',C',S,h1,λv H1 k f R=>?_⟩
     obtain⟨S1,b⟩:=R.rQ hd
     exact⟨_,b,q _ H1 k f S1 (abx _)⟩
    .refine .inl (.inl ⟨Z,Θ,env,C,_,env',C',S,h1,λv H1 k f R=>?_⟩)
     obtain⟨S1,a,vs,rfl,ha,r⟩:=R.rQ hd
     exact⟨a,rfl,⟨vs,bK.of (ir ha)⟩,q _ H1 k f S1 (J2 ha r)⟩
    .refine .inl (.inr ⟨Z,Θ,env,C,_,env',C',S,h1,λv H1 k f R=>?_⟩)
     obtain⟨S1,a,vs,rfl,ha,r⟩:=R.rQ hd
     exact⟨a,rfl,⟨vs,cz.of (ir ha)⟩,q _ H1 k f S1 (Kc ha r)⟩
   .cases hf
  .cases hf
 .cases hf
theorem Jy(hg:Gl X "range")(hm:X.mg "range"=ao)(ha:PE X a (fM X.K f))(hs:bG [a] X.env=(aD,eval a X.env)::bG [] X.env:=by rfl)(hs':bG [a] X.env=[(aD,eval a X.env)]:=by rfl):PI X tg (.Call (.Name "range" p) [a] [] pos) (tI X.K b (uC f)):=
 (ahv hg hm (fB ha fX hs) hs').weak λσ H R aP=>by
  obtain⟨Z,Θ,env,C,its,env',C',S,hf,q⟩:=aP
  unfold uC at hf;split at hf
  .rename_i j e1 C1 h1;split at hf
   .rename_i hj;cases hf
    refine⟨Z,Θ,env,C,[.int j],e1,C',S,by unfold dO eU;rw[h1],λvs H1 k f S1 b1=>?_⟩
    cases b1 with
    |cons b1 b2=>
     cases b2
     exact⟨j,by rw[show _=V.int j from b1],hj.1,hj.2,q _ H1 k (Fz.refl _) (S.go k S1.cell) (aiY 0 j.toNat)⟩
   .cases hf
  .cases hf
end
def lG(g:FG)(body:FS):List aA->FS
 |[]=>λenv C=>aj (.nx,env,C)
 |d::r=>λenv C=>match g d env with
  |some e1=>match body e1 C with
   |some (.nx,e2,C2)=>lG g body r e2 C2
   |some (.ct,e2,C2)=>lG g body r e2 C2
   |some (.bk,e2,C2)=>aj (.nx,e2,C2)
   |some (.rt v,e2,C2)=>aj (.rt v,e2,C2)
   |none=>ao
  |none=>ao
def nY(fi:FI)(g:FG)(body:FS):FS:=λenv C=>match fi env C with
 |some (its,e1,C1)=>lG g body its e1 C1
 |none=>ao
theorem fJ.er{K:aJ}{Z Θ Θ1:List az}{env e1:En}{C1:Ce}{σ σ1:St}{H H1:Hp}(p:fJ K Z Θ env σ H Θ1 e1 C1 σ1 H1):bD (er (bw Z Θ env σ) H) (er (bw Z Θ1 e1 σ1) H1):=λb o h=>by
 unfold L2.er at h⊢;split at h
 .cases h
 .rename_i n;have hb:H b≠ao:=by rw[h];exact vV _
  rw[aY]
  .refine p.kp.keep b o h λm=>n ?_
   rcases dF.mp m with m|m
   .exact jM.mpr (.inr (.inl m))
   .exact jM.mpr (.inr (.inr m))
  .intro m;rcases jM.mp m with m|m|m
   .exact n (jM.mpr (.inl m))
   .obtain⟨Δ,e,hn⟩:=p.th.ex
    rw[e] at m;rcases dF.mp m with m|m
    .exact n (jM.mpr (.inr (.inl m)))
    .exact hb (hn b m)
   .rcases p.own b m with m|m
    .exact n (jM.mpr (.inr (.inr m)))
    .exact hb m
theorem akc(s:bD (er P H) (er P2 H2)):bD (er P H) (er P H2):=λb o h=>by
 have h2:=ir (s b o h);unfold er at h⊢;split at h
 .cases h
 .rename_i n;rw[aY n];exact h2
theorem aiZ{K:aJ}{fi:FI}{g:TG}{fg:FG}{body:FS}(L:zG K g fg):∀D σ H,tS K (nY fi fg body) D σ H->acz (tI K aD fi) g (tS K body) D σ H:=by
 rintro D σ H ⟨Z,Θ,env,C,fl,env',C',S,hf,q⟩;unfold nY at hf;split at hf
 .rename_i its e1 C1 h1
  refine⟨Z,Θ,env,C,its,e1,C1,S,h1,λJ H1 k1 f1 S1 it=>?_⟩
  have p1:=fJ.uB k1 f1 S1
  refine⟨λi m σ2 H2=>m=its.length-i/\i<=its.length/\∃Θ2 e2 C2,fJ K Z Θ e1 σ H1 Θ2 e2 C2 σ2 H2/\lG fg body (its.drop i) e2 C2=aj (fl,env',C'),⟨its.length,rfl,lz _,Θ,e1,C1,fJ.same S1,hf⟩,?_⟩
  rintro i m σ2 H2 ⟨rfl,hi,Θ2,e2,C2,p2,hl⟩
  obtain⟨U8,U9⟩:=it i H2 (bw Z Θ2 e2 σ2) p2.er (akc p2.er) p2.sm.zf
  cases hd:its[i]? with
  |none=>
   have hi2:i=its.length:=by
    have:=Vj.mp hd;lia
   rw[hi2,aeZ] at hl;cases hl;exact .inl ⟨U9 hi2,q Θ2 σ2 H2 (p1.trans p2)⟩
  |some d=>
   have hlt:i<its.length:=(kj.mp hd).1;have ed:its.drop i=d::its.drop (i+1):=by
    rw[Vk hlt]
    obtain⟨_,e⟩:=kj.mp hd
    rw[e]
   rw[ed] at hl;unfold lG at hl
   obtain⟨go,yl⟩:=U8 d hd
   refine .inr ⟨go,λσ' H'=>∃Θ2 e2 C2,fJ K Z Θ e1 σ H1 Θ2 e2 C2 σ' H'/\lG fg body (its.drop (i+1)) e2 C2=aj (fl,env',C'),λσ' H' h=>⟨its.length-(i+1),by lia,rfl,hlt,h⟩,λx H3 y=>?_⟩
   obtain⟨s3,r3⟩:=yl x H3 y
   have S3:=p2.sm.Ck s3;have p3:=p2.trans (fJ.uB (bz.of s3) (Fz.refl _) S3);split at hl
   .rename_i e4 h4;refine L Z Θ2 e2 C2 σ2 H3 x d e4 S3 r3 h4 _ λσ4 S4 o4=>?_
    have p4:fJ K Z Θ e1 σ H1 Θ2 e4 C2 σ4 H3:=p3.trans ⟨lC.refl _ _,bz.refl _ _,λa m=>.inl (o4 a m),S4⟩;split at hl
    .rename_i e5 C5 h5
     exact⟨Z,Θ2,e4,C2,.nx,e5,C5,S4,h5,λΘ5 σ5 H5 p5=>⟨Θ5,e5,C5,p4.trans p5,hl⟩⟩
    .rename_i e5 C5 h5
     exact⟨Z,Θ2,e4,C2,.ct,e5,C5,S4,h5,λΘ5 σ5 H5 p5=>⟨Θ5,e5,C5,p4.trans p5,hl⟩⟩
    .rename_i e5 C5 h5;cases hl
     exact⟨Z,Θ2,e4,C2,.bk,env',C',S4,h5,λΘ5 σ5 H5 p5=>q Θ5 σ5 H5 (p1.trans (p4.trans p5))⟩
    .rename_i r e5 C5 h5;cases hl
     exact⟨Z,Θ2,e4,C2,.rt r,env',C',S4,h5,λΘ5 v H5 p5=>q Θ5 v H5 (p1.ret (p4.ret p5))⟩
    .cases hl
   .cases hl
 .cases hf
theorem Ge(hp:PN (model X.prog X.w) X.A X.env X.xe)(hc:X.calm=au)(hi:PI X tg iter (tI X.K aD fi))(hg:PG X tg g)(L:zG X.K g fg)(hb:jA X body (tS X.K f))
  (hs:∀x,qZ iter X.env x=pure x:=by intro _;rfl):PS X (.For tg iter body [] pos) (tS X.K (nY fi fg f)):=(akW hp hc hi hg hb hs).weak (aiZ L)
def sO:gR->aA->Option (List aA)
 |.one,d=>aj [d]
 |.many n,.tuple ds=>if ds.length=n then aj ds else ao
 |_,_=>ao
def frB(js:List Nat)(env:En):En:=js.map λj=>((env[j]?).join).map still
def cO(ds:List aA):En:=ds.map λd=>aj (.im d)
def dU(T:gR)(ft:FT)(fe:FE)(fs:En):List aA->Ce->Option (List aA×Ce)
 |[],C=>aj ([],C)
 |d::r,C=>match sO T d with
  |some ts=>match ft (cO ts++fs) C with
   |some (false,C1)=>dU T ft fe fs r C1
   |some (true,C1)=>match fe (cO ts++fs) C1 with
    |some (x,_,C2)=>match still x with
     |.im y=>match dU T ft fe fs r C2 with
      |some (ys,C3)=>aj (y::ys,C3)
      |none=>ao
     |_=>ao
    |none=>ao
   |none=>ao
  |none=>ao
def ig(js:List Nat)(env:En):En:=env.mapIdx λi x=>if i∈js then x.map still else x
def gW(fi:FI)(T:gR)(ft:FT)(fe:FE)(js:List Nat):FE:=λenv C=>match fi env C with
 |some (its,e1,C1)=>match dU T ft fe (frB js e1) its C1 with
  |some (ys,C2)=>if ys.length<=gU then aj (.ow (.list ys),if iW ys then e1 else ig js e1,C2) else ao
  |none=>ao
 |none=>ao
theorem acd:∀{a b:En},a.length=b.length->(∀(i:Nat)(x y:Option Vl),a[i]?=aj x->b[i]?=aj y->UW x y)->Fz a b
 |[],[],_,_=>trivial
 |x::r,y::t,hl,h=>⟨h 0 x y rfl rfl,acd (by simpa using hl) λi u v h1 h2=>h (i+1) u v (by simpa using h1) (by simpa using h2)⟩
 |[],_::_,hl,_=>by cases hl
 |_::_,[],hl,_=>by cases hl
theorem BP(js:List Nat)(env:En):Fz env (ig js env):=acd (by unfold ig;rw[List.length_mapIdx]) λi x y h1 h2=>by
 unfold ig at h2;rw[ad7,h1] at h2;have h2:(if i∈js then ahe still x else x)=y:=jb h2;rw[<-h2];split
 .cases x with
  |none=>exact .inl rfl
  |some x=>
   cases x with
   |ow d=>exact .inr ⟨d,rfl,rfl⟩
   |im d=>exact .inl rfl
   |ce n=>exact .inl rfl
   |sc ns=>exact .inl rfl
   |tp=>exact .inl rfl
 .exact .inl rfl
theorem aby{js:List Nat}{env:En}{k:Nat}{x:Vl}(h:(frB js env)[k]?=aj (aj x)):∃j:Nat,js[k]?=aj j/\(ig js env)[j]?=aj (aj x)/\∀d,x≠.ow d:=by
 unfold frB at h;rw[jr] at h;cases hj:js[k]? with
 |none=>rw[hj] at h;cases h
 |some j=>
  rw[hj] at h;have h':((env[j]?).join).map still=aj x:=jb h
  refine⟨j,rfl,?_,?_⟩
  .unfold ig;rw[ad7];cases hv:env[j]? with
   |none=>rw[hv] at h';cases h'
   |some y=>
    rw[hv] at h';show aj (if j∈js then ahe still y else y)=_;rw[aZ (pA hj)];exact congrArg aj h'
  .cases hv:(env[j]?).join with
   |none=>rw[hv] at h';cases h'
   |some y=>
    rw[hv] at h';have e:still y=x:=jb h';rw[<-e];intro d z;cases y<;>cases z
theorem BR:∀{env:En}{σ:St},(∀(i:Nat)(d:aA),env[i]?≠aj (aj (.ow d)))->bL env σ=[]
 |[],σ,_=>by cases σ<;>rfl
 |_::_,[],_=>rfl
 |x::e,v::s,h=>by
  rw[bL,BR (env:=e) (σ:=s) λi d z=>h (i+1) d (by simpa using z)];have h0:=h 0;simp at h0;unfold own1;split
  .rename_i d a;exact absurd rfl (h0 d)
  .rfl
section
variable{K:aJ}{Z Θ:List az}{env:En}{C C2:Ce}{σ:St}{H H2:Hp}{D:az}
abbrev kO(D:az)(Z:List az)(env:En)(σ:St):List az:=D::(Z++bL env σ)
theorem oO{js:List Nat}{a:az}{eB:En}{sB:St}(h:bL eB sB=[]):a∈bw (kO D Z env σ) Θ eB sB↔a=D\/a∈bw Z Θ env σ:=by
 rw[jM,jM,h,bJ,dF];constructor
 .rintro((h|h|h)|h|h)
  .exact .inl h
  .exact .inr (.inl h)
  .exact .inr (.inr (.inr h))
  .exact .inr (.inr (.inl h))
  .nomatch h
 .rintro(h|h|h|h)
  .exact .inl (.inl h)
  .exact .inl (.inr (.inl h))
  .exact .inr (.inl h)
  .exact .inl (.inr (.inr h))
theorem Kd{js:List Nat}{ts:List aA}:∀(i:Nat)(d:aA),(cO ts++frB js env)[i]?≠aj (aj (.ow d)):=λi d z=>by
 by_cases hi:i<(cO ts).length
 .rw[o8 hi] at z;unfold cO at z;rw[jr] at z;cases h:ts[i]? with
  |none=>rw[h] at z;cases z
  |some t=>rw[h] at z;cases z
 .rw[o7 (by lia)] at z
  obtain⟨j,_,_,h⟩:=aby z
  exact h d rfl
theorem Sm.blk{js:List Nat}{ts:List aA}{vs:List V}(S:Sm K Z Θ (ig js env) C σ H)(hD:H D=nA)(k:bz Θ H H2)(nt:NT (H2 D))(c:pN Θ C2 H2)(r:bW (er (bw (kO D Z (ig js env) σ) Θ [] []) H2) ts vs):
  Sm K (kO D Z (ig js env) σ) Θ (cO ts++frB js env) C2 (vs.map aj++frees js σ) H2:=by
 have no:=BR (env:=cO ts++frB js env) (σ:=vs.map aj++frees js σ) Kd;have dN:=S.dN;have lv:=jc r;have Lh:(cO ts).length=ts.length:=by unfold cO;rw[bC]
 have ee:er (bw (kO D Z (ig js env) σ) Θ (cO ts++frB js env) (vs.map aj++frees js σ)) H2=er (bw (kO D Z (ig js env) σ) Θ [] []) H2:=rH λa=>by rw[oO (js:=js) no,oO (js:=js) rfl]
 have sm:bD (er (bw Z Θ (ig js env) σ) H) (er (bw (kO D Z (ig js env) σ) Θ [] []) H2):=mj k S.uA λb m=>by
  rcases(oO (js:=js) rfl).mp m with rfl|m
  .exact .inr hD
  .exact .inl m
 refine⟨?_,?_,λb m=>?_,λi x e=>?_,c⟩
 .rw[lO,lO,bC,lv,Lh];unfold frees frB;rw[bC,bC]
 .show(kO D Z (ig js env) σ++(Θ++bL (cO ts++frB js env) (vs.map aj++frees js σ))).Nodup
  rw[no];refine zF (kI.mpr ⟨λm=>?_,?_⟩) dN.2.1 oK (λb m m'=>?_) (λ_ m=>nomatch m)
  .rcases dF.mp m with m|m
   .exact(S.dom D m).ne hD
   .exact S.zf D (jM.mpr (.inr (.inr m))) hD
  .rw[lD]
   exact⟨dN.1,dN.2.2.1,λb m c' m' e=>by subst e;exact(S.nM m').1 m⟩
  .rcases bJ.mp m with rfl|m
   .exact S.zf b (jM.mpr (.inr (.inl m'))) hD
   .rcases dF.mp m with m|m
    .exact dN.2.2.2 b m m'
    .exact(S.nM m).2 m'
 .rcases bJ.mp m with rfl|m
  .exact nt
  .have:NT (H b)/\b∉Θ:=by
    rcases dF.mp m with m|m
    .exact⟨S.dom b m,dN.2.2.2 b m⟩
    .exact⟨S.Lf b (jM.mpr (.inr (.inr m))),(S.nM m).2⟩
   obtain⟨⟨u,e,n⟩,nb⟩:=this
   exact⟨u,k.keep _ _ e nb,n⟩
 .rw[ee];by_cases hi:i<ts.length
  .rw[o8 (by rw[Lh];exact hi)] at e;unfold cO at e;rw[jr] at e;cases ht:ts[i]? with
   |none=>rw[ht] at e;cases e
   |some t=>
    rw[ht] at e;cases e
    obtain⟨v,ev,rv⟩:=uc r ht
    exact⟨v,by rw[o8 (by rw[bC,lv];exact hi),jr,ev];rfl,rv⟩
  .rw[o7 (by rw[Lh];lia),Lh] at e
   obtain⟨j,hj,hx,nx⟩:=aby e
   obtain⟨v,ev,rv⟩:=S.slot j x hx
   refine⟨v,?_,rv.same sm λd _ z=>absurd z (nx d)⟩
   rw[o7 (by rw[bC,lv];lia),bC,lv];unfold frees;rw[jr,hj];show aj ((σ[j]?).join)=_;rw[ev];rfl
end
def cM:FT:=λ_ C=>aj (au,C)
theorem jx{X:Cx}:lK X [] (fO X.K cM):=λpins s σ H Q I aP=>by
 obtain⟨Z,Θ,env,C,b,C',S,hf,q⟩:=aP
 cases hf;exact ajM pins s σ H Q I (q H (bz.refl _ _) S)
theorem Bo{X:Cx}{c:Expr}{f:FT}(h:PT X c (fO X.K f)):lK X [c] (fO X.K f):=ajN h
theorem amh{K:aJ}{T:gR}{E H:Hp}{d:aA}{x:V}{ts:List aA}(h:sO T d=aj ts)(r:RZ E d x)(s:bD E H):∃vs,xJ K T x H vs/\bW E ts vs:=by
 cases T with
 |one=>cases h;exact⟨[x],rfl,x,[],rfl,r,rfl⟩
 |many n=>
  cases d<;>first|cases h|skip
  rename_i ds;have h:(if ds.length=n then aj ds else ao)=aj ts:=h;split at h
  .rename_i hl;cases h
   obtain⟨a,vs,rfl,ha,r⟩:=r
   exact⟨vs,⟨a,rfl,cz.of (s _ _ ha),(jc r).trans hl⟩,r⟩
  .cases h
def um{α:Type}(T:gR)(ft:FT)(st:En->α->Ce->Option (α×Ce))(fs:En):List aA->α->Ce->Option (α×Ce)
 |[],a,C=>aj (a,C)
 |d::r,a,C=>(sO T d).bind λts=>(ft (cO ts++fs) C).bind λp=>bif p.1 then(st (cO ts++fs) a p.2).bind λq=>um T ft st fs r q.1 q.2 else um T ft st fs r a p.2
inductive acV{α:Type}(Θ:List az)(H1:Hp)(n:Nat)(Ob:α->Hp->Prop)(run:Nat->α->Ce->Prop)(i m:Nat)(H2:Hp):Prop
 |mk (a:α) (Ci:Ce) (hm:m=n-i) (hi:i<=n) (ki:bz Θ H1 H2) (ci:pN Θ Ci H2) (ob:Ob a H2) (hc:run i a Ci):acV Θ H1 n Ob run i m H2
section
variable{K:aJ}{α:Type}{T:gR}{ft:FT}{st:En->α->Ce->Option (α×Ce)}{js:List Nat}{Z Θ:List az}{e1:En}{C1 C':Ce}{σ:St}{H1:Hp}{J:It}{its:List aA}{D:az}{o0:HO}{a0 aE:α}
theorem Sg{Hx Hy:Hp}{u:HO}(hD:H1 D=nA)(kk:bz Θ H1 Hx):bz Θ H1 (upd Hx D u):=by
 refine⟨λa o ha na=>?_,λa ha=>?_⟩
 .rw[dm (rA ha hD)];exact kk.keep _ _ ha na
 .by_cases z:a=D
  .subst z;rw[f9];exact vV _
  .rw[dm z];exact kk.dom a ha
theorem Jz{Hx:Hp}{u:HO}(hD:D∉Θ)(c:pN Θ C1 Hx):pN Θ C1 (upd Hx D u):=by
 refine⟨c.len,λn b ns e2 e3=>?_⟩
 rw[dm]
 .exact c.at_ n b ns e2 e3
 .intro z;subst z;exact hD (pA e2)
theorem QL{em:TM}{Ob:α->Hp->Prop}{done:Hp->Prop}(S1:Sm K Z Θ e1 C1 σ H1)(it:xF (bw Z Θ e1 σ) Θ H1 J its)(hD:H1 D=nA)(ob0:Ob a0 (upd H1 D o0))(Dk:∀a Hx Hy,bz Θ Hx Hy->Ob a Hx->Ob a Hy)(obn:∀a Hx,Ob a Hx->NT (Hx D))
  (hem:∀(ts:List aA)(a:α)(C2:Ce)(p:α×Ce)(vs:List V)(H4:Hp)(Q:Hp->Prop),st (cO ts++frB js e1) a C2=aj p->Sm K (kO D Z (ig js e1) σ) Θ (cO ts++frB js e1) C2 (vs.map aj++frees js σ) H4->bz Θ H1 H4->Ob a H4->(∀H6,bz Θ H1 H6->pN Θ p.2 H6->Ob p.1 H6->Q H6)->em (vs.map aj++frees js σ) H4 Q)
  (hc:um T ft st (frB js e1) its a0 C1=aj (aE,C'))(hq:∀H2,bz Θ H1 H2->pN Θ C' H2->Ob aE H2->done H2):xq K T (fO K ft) em (frees js σ) J (upd H1 D o0) done:=by
 have qP:D∉Θ:=λm=>(S1.cell.dom D m).ne hD
 have S1f:=S1.fz (BP js e1)
 refine⟨acV Θ H1 its.length Ob (λi a Ci=>um T ft st (frB js e1) (its.drop i) a Ci=aj (aE,C')),⟨its.length,⟨a0,C1,rfl,lz _,bz.upd hD,Jz qP S1.cell,ob0,hc⟩⟩,λi m H2 hh=>?_⟩
 cases hh with
 |mk a Ci hm hi ki ci ob hc=>
 subst hm;have nt:=obn a H2 ob;have smP:bD (er (bw Z Θ e1 σ) H1) (er (bw (kO D Z (ig js e1) σ) Θ [] []) H2):=mj ki S1.uA λb m=>by
  rcases(oO (js:=js) rfl).mp m with rfl|m
  .exact .inr hD
  .exact .inl ((BP js e1).sub b m)
 have ano:∀a∈bw (kO D Z (ig js e1) σ) Θ [] [],H2 a≠nA:=λa m=>(S1f.blk hD ki nt ci (show bW _ [] [] from rfl)).zf a ((oO (js:=js) (BR (env:=cO []++frB js e1) Kd)).mpr ((oO (js:=js) rfl).mp m))
 obtain⟨U8,U9⟩:=it i H2 _ smP (abm ki) ano
 cases hd:its[i]? with
 |none=>
  have hi2:i=its.length:=Nat.le_antisymm hi (Vj.mp hd);rw[hi2,aeZ] at hc;cases hc;exact .inl ⟨U9 hi2,hq H2 ki ci ob⟩
 |some d=>
  obtain⟨hlt,ed⟩:=kj.mp hd
  rw[Vk hlt,ed] at hc
  obtain⟨go,yl⟩:=U8 d hd
  refine .inr ⟨go,λx H3 y=>?_⟩
  obtain⟨s3,r3⟩:=yl x H3 y
  obtain⟨ts,ht,hc⟩:=jE hc
  obtain⟨p,hft,hc⟩:=jE hc
  obtain⟨vs,tv,rvs⟩:=amh (K:=K) ht r3 (Cj _ _)
  refine⟨vs,tv,?_⟩
  have k3:bz Θ H1 H3:=ki.trans (bz.of s3);have Va:=Dk a _ _ (bz.of s3) ob;have SB:=S1f.blk (js:=js) hD k3 (obn a H3 Va) ⟨ci.len,λn b ns e2 e3=>s3 _ _ (ci.at_ n b ns e2 e3)⟩ rvs;have lt:its.length-(i+1)<its.length-i:=by lia
  refine⟨_,Θ,_,Ci,p.1,p.2,SB,hft,λH4 k4 S4=>?_⟩
  cases hp:p.1 with
  |false=>
   rw[hp] at hc;exact vG ⟨_,lt,⟨a,p.2,rfl,hlt,k3.trans k4,S4.cell,Dk a _ _ k4 Va,hc⟩⟩
  |true=>
   rw[hp] at hc
   obtain⟨q,hs,hc⟩:=jE hc
   exact vH (hem ts a p.2 q vs H4 _ hs S4 (k3.trans k4) (Dk a _ _ k4 Va) λH6 k6 c6 o6=>⟨_,lt,⟨q.1,q.2,rfl,hlt,k6,c6,o6,hc⟩⟩)
end
def TJ(fe:FE):En->List aA->Ce->Option (List aA×Ce):=λenv acc C=>(fe env C).bind λq=>(sI (still q.1)).bind λy=>bif decide (acc.length<gU) then aj (acc++[y],q.2.2) else ao
theorem Ru{T:gR}{ft:FT}{fe:FE}{fs:En}{C':Ce}:∀{its:List aA}{ys acc:List aA}{C:Ce},dU T ft fe fs its C=aj (ys,C')->acc.length+ys.length<=gU->um T ft (TJ fe) fs its acc C=aj (acc++ys,C')
 |[],ys,acc,C,h,_=>by
  cases h;rw[lq];rfl
 |d::r,ys,acc,C,h,hl=>by
  unfold dU at h;unfold um;split at h
  case h_2=>cases h
  rename_i ts ht;rw[ht,j4];split at h
  case h_3=>cases h
  .rename_i C1 hf;rw[hf,j4];exact Ru h hl
  .rename_i C1 hf;rw[hf,j4];split at h
   case h_2=>cases h
   rename_i x e2 C2 hx;split at h
   case h_2=>cases h
   rename_i y hy;split at h
   case h_2=>cases h
   rename_i zs C3 hz;cases h;rw[dD] at hl
   show(TJ fe (cO ts++fs) acc C1).bind _=_
   unfold TJ;rw[hx,j4,hy,show sI (.im y)=aj y from rfl,j4,dZ (by lia),show acc++y::zs=(acc++[y])++zs by rw[qg];rfl];exact Ru hz (by rw[lO];show acc.length+1+_<=_;lia)
theorem aaI{K:aJ}{fi:FI}{T:gR}{ft:FT}{fe:FE}{js:List Nat}:∀σ H Q,tE K (gW fi T ft fe js) σ H Q->Uv K (tI K au fi) T (λ_=>fO K ft) (λ_=>tE K fe) js σ H Q:=by
 rintro σ H Q ⟨Z,Θ,env,C,res,env',C',S,hf,q⟩;unfold gW at hf;split at hf
 case h_2=>cases hf
 rename_i its e1 C1 h1;split at hf
 case h_2=>cases hf
 rename_i ys C2 h2;split at hf
 case isFalse=>cases hf
 rename_i hl;cases hf
 refine⟨Z,Θ,env,C,its,e1,C1,S,h1,λJ H1 k1 f1 S1 it D hD b=>?_⟩
 have qP:D∉Θ:=λm=>(S1.cell.dom D m).ne hD
 have Vb:D∈bw (kO D Z (ig js e1) σ) Θ [] []:=(oO (js:=js) rfl).mpr (.inl rfl);refine QL (a0:=[]) (Ob:=λacc Hx=>jV (er (bw (kO D Z (ig js e1) σ) Θ [] []) Hx) Hx D (.list acc)) S1 it hD ⟨[],f9,rfl⟩ (λa Hx Hy kk r=>r.same (mj kk (λa m=>jM.mpr (.inr (.inl m))) λa m=>.inl m) λo h=>kk.keep _ _ h qP)
  (λa Hx r=>by obtain⟨vs,e,_⟩:=r;exact⟨_,e,λ_ z=>nomatch z⟩) ?_ (Ru (acc:=[]) h2 (by rw[DW,Oh];exact hl)) λH2 ki ci r=>?_
 .intro ts acc C2 p vs H4 Q hs S4 k4 r4 hQ
  obtain⟨w,hfe,hs⟩:=jE hs
  obtain⟨yd,sS,hs⟩:=jE hs
  have sS:=Gb sS;cases hlt:decide (acc.length<gU) with
  |false=>rw[hlt] at hs;cases hs
  |true=>
  rw[hlt] at hs;cases hs
  refine⟨_,Θ,_,C2,w.1,w.2.1,w.2.2,S4,hfe,λy H5 k5 f5 R5=>?_⟩
  obtain⟨S5,r5⟩:=R5.rQ sS
  obtain⟨vM,hD5,rr⟩:=r4.same (mj k5 (λa m=>jM.mpr (.inr (.inl m))) λa m=>.inl m) λo h=>k5.keep _ _ h qP
  have Vc:bL w.2.1 (vs.map aj++frees js σ)=[]:=by
   have:=(Fz.own (σ:=vs.map aj++frees js σ) f5)
   rw[BR Kd] at this;exact ae0.mp this
  have e5:er (bw (kO D Z (ig js e1) σ) Θ w.2.1 (vs.map aj++frees js σ)) H5=er (bw (kO D Z (ig js e1) σ) Θ [] []) H5:=rH λa=>by rw[oO (js:=js) Vc,oO (js:=js) rfl]
  rw[e5] at r5;have lt:=of_decide_eq_true hlt
  refine⟨vM,hD5,by rw[jc rr,jR];unfold gU at lt;lia,hQ _ (Sg (Hy:=H5) hD (k4.trans k5)) (Jz qP S5.cell) ⟨_,f9,?_⟩⟩
  rw[Sd Vb];exact Bm rr ⟨y,[],rfl,r5,rfl⟩
 .obtain⟨vM,hDi,ri⟩:=r
  refine q _ H2 (k1.trans ki) ?_ ?_
  .split
   .exact f1
   .exact f1.trans (BP js e1)
  .refine⟨D,rfl,k1.none hD,?_⟩
   split
   .rename_i hn;have SD:=S1.Gm hD ki ⟨_,hDi,λ_ z=>nomatch z⟩ ci
    exact⟨SD,vM,hDi,ri.jP (λa vs e=>Ga SD (ir e)) hn⟩
   .refine⟨(S1.fz (BP js e1)).Gm hD ki ⟨_,hDi,λ_ z=>nomatch z⟩ ci,vM,hDi,?_⟩
    rw[rH (P':=bw (D::Z) Θ (ig js e1) σ) λa=>by rw[oO (js:=js) rfl];show _↔a∈D::bw Z Θ (ig js e1) σ;rw[bJ]] at ri;exact ri
section
variable{X:Cx}{NT NF:List Str}{js:List Nat}{elt tg iter:Expr}{ifs:List Expr}{T:gR}{fi:FI}{ft:FT}{fe:FE}{scope:jG}{pos:Pos}
theorem jU(B:nQ X NT NF js scope)(tk:m6 tg NT T)(hc:X.calm=au)(hi:PI X tg iter (tI X.K au fi))
  (hin:∀b,lK (X.bk (NT++NF) scope b) ifs (fO X.K ft)/\PE (X.bk (NT++NF) scope b) elt (tE X.K fe))
  (hs:∀x,qZ iter X.env x=pure x:=by intro _;rfl):PE X (.ListComp elt [⟨tg,iter,ifs,0⟩] scope pos) (tE X.K (gW fi T ft fe js)):=(amb B tk hc hi hin hs).weak aaI
theorem Az{i:Nat}{y:Str}{pos' spos:Pos}(B:nQ X NT NF js scope)(tk:m6 tg NT T)(hc:X.calm=au)(hi:PI X tg iter (tI X.K au fi))
  (hin:∀b,lK (X.bk (NT++NF) scope b) ifs (fO X.K ft)/\PE (X.bk (NT++NF) scope b) elt (tE X.K fe))
  (hsw:wF (.ListComp elt [⟨tg,iter,ifs,0⟩] scope pos) (aj (.Name y pos')) spos.line X.env=pure au)(hN:X.N.Nodup)(hI:X.N[i]?=aj y)(hy:X.env.scope.names.lookup y=aj .local)
  (hs:∀x,qZ iter X.env x=pure x:=by intro _;rfl):PS X (.Assign [.Name y pos'] (.ListComp elt [⟨tg,iter,ifs,0⟩] scope pos) spos) (tS X.K (dJ i (gW fi T ft fe js))):=(aiy B tk hc hi hin hsw hN hI hy hs).weak (QK aaI)
end
def Gq(n:Nat):Vl->Bool
 |.ce m=>decide (m<n)
 |_=>au
def fN(k n:Nat)(body:FS):FN:=λxs C=>if xs.length=k then match body (xs.map aj++cA (n-xs.length) ao) C with
  |some (.rt r,_,C')=>if Gq C.length r then aj (r,C'.take C.length) else ao
  |some (.nx,_,C')=>aj (.im .none,C'.take C.length)
  |_=>ao
 else ao
section
variable{K:aJ}{Z Θ:List az}{C:Ce}{H:Hp}{xs:List Vl}{vs:List V}
theorem QM(a:qF K E Θ xs vs):vs.length=xs.length:=by
 induction a with
 |nil=>rfl
 |cons _ _ ih=>rw[dD,dD,ih]
theorem akd(a:qF K E Θ xs vs):∀{i:Nat}{x:Vl},xs[i]?=aj x->∃v,vs[i]?=aj v/\vo K E Θ x v:=by
 induction a with
 |nil=>intro i x e;simp at e
 |cons h _ ih=>
  intro i x e;cases i with
  |zero=>simp at e;subst e;exact⟨_,rfl,h⟩
  |succ i=>
   obtain⟨v,e2,h2⟩:=ih (i:=i) (by simpa using e)
   exact⟨v,by simpa using e2,h2⟩
theorem Sm.start(S:Sm K Z Θ [] C [] H)(a:qF K (er (bw Z Θ [] []) H) Θ xs vs):Sm K Z Θ (xs.map aj++cA n nA) C (vs.map aj++cA n nA) H/\bL (xs.map aj++cA n nA) (vs.map aj++cA n nA)=[]:=by
 have lv:=QM a;have at':∀{i:Nat}{x:Vl},(xs.map aj++cA n nA)[i]?=aj (aj x)->∃v,vs[i]?=aj v/\vo K (er (bw Z Θ [] []) H) Θ x v/\i<vs.length:=λ{i x} e=>by
  by_cases hi:i<xs.length
  .rw[o8 (by rw[bC];exact hi),jr] at e;cases hx:xs[i]? with
   |none=>rw[hx] at e;cases e
   |some y=>
    rw[hx] at e;cases e
    obtain⟨v,e1,h⟩:=akd a hx
    exact⟨v,e1,h,by rw[lv];exact hi⟩
  .rw[o7 (by rw[bC];lia)] at e;have:=pA e;exact nomatch(adN this)
 have no:bL (xs.map aj++cA n nA) (vs.map aj++cA n nA)=[]:=BR λi d e=>by
  obtain⟨v,_,h,_⟩:=at' e
  exact h
 refine⟨⟨by simp[lv],?_,S.dom,λi x e=>?_,S.cell⟩,no⟩
 .show(Z++(Θ++bL _ _)).Nodup
  rw[no];exact S.nd
 .obtain⟨v,e1,h,hl⟩:=at' e
  refine⟨v,by rw[o8 (by rw[bC];exact hl),jr,e1];rfl,?_⟩
  have ee:er (bw Z Θ (xs.map aj++cA n nA) (vs.map aj++cA n nA)) H=er (bw Z Θ [] []) H:=by
   show er (Z++(Θ++bL _ _)) H=_;rw[no];rfl
  rw[ee];cases x with
  |im d=>exact h
  |ow d=>exact h.elim
  |ce m=>exact h
  |sc ns=>exact h
  |tp=>exact h.elim
theorem Sm.cut(S:Sm K Z (Θ++Δ) [] C [] H):Sm K Z Θ [] (C.take Θ.length) [] H:=by
 have dN:=S.dN;have cl:=S.cell.len;rw[lO] at cl
 refine⟨rfl,zF dN.1 (lD.mp dN.2.1).1 oK (λb m m'=>dN.2.2.2 b m (iY _ m')) (λ_ m=>nomatch m),S.dom,λi x e=>by simp at e,⟨by rw[MF];lia,λn a ns e1 e2=>?_⟩⟩
 have hn:n<Θ.length:=(kj.mp e1).1;rw[aeo,aZ hn] at e2;exact S.cell.at_ n a ns (by rw[o8 hn];exact e1) e2
theorem Ku.cut(t:lC Θ Θ' H)(ok:Gq Θ.length r=au)(no:O=[])(h:Ku K Z Θ' C' O H H' r v):KZ K Z Θ (C'.take Θ.length) H H' r v:=by
 obtain⟨Δ,rfl,hn⟩:=t.ex
 have sm:∀{Y:List az},bD (er (bw Y (Θ++Δ) [] []) H') (er (bw Y Θ [] []) H'):=λ{Y}=>ud λa m=>by
  rcases jM.mp m with m|m|m
  .exact jM.mpr (.inl m)
  .exact jM.mpr (.inr (.inl (iY _ m)))
  .nomatch m
 cases r with
 |im d=>exact⟨h.1.cut,h.2.same sm⟩
 |ow d=>
  obtain⟨a,e,m,S,r⟩:=h
  refine⟨a,e,?_,S.cut,r.same sm λ_ h=>h⟩
  rcases m with m|m
  .rw[no] at m;nomatch m
  .exact m
 |ce n=>
  obtain⟨S,a,e,e2⟩:=h
  refine⟨S.cut,a,e,?_⟩
  rw[o8 (of_decide_eq_true ok)] at e2;exact e2
 |sc ns=>
  obtain⟨S,a,e,q⟩:=h
  exact⟨S.cut,a,e,sm.seq q⟩
 |tp=>
  obtain⟨t,a,vs,us,e,e',m,S,r,p,q⟩:=h
  refine⟨t,a,vs,us,e,e',?_,S.cut,r.same sm λ_ h=>h,p.same sm,q.same sm⟩
  rcases m with m|m
  .rw[no] at m;nomatch m
  .exact m
end
section
variable{P:bB}{w:bA}{K:aJ}{mg:Str->Option Value}{base:bh}
theorem jf{x qual:Str}{st:dw}{f:az}{fd:dH}{N ps:List Str}{k:Nat}{body:FS}{k1 k2:Nat}(F:fU K x qual st f fd)(S:gY N ps (bY st))
  (hb:∀(cdv:Value)(A:bV)(outer:List Env)(s:aG)(H:Hp)(E:XK),jk k (A.deeper (envOfC qual (bY st) s.heap.objs.size f cdv))->jA (zc eY P w K mg base N qual (bY st) f cdv A outer s H E).vN (wM st) (tS K body))
  (e1:k1=ps.length:=by rfl)(e2:k2=N.length:=by rfl):dG P w K mg base eY (k+1) f fd ps (spT K (fN k1 k2 body)):=by
 subst e1 e2;refine F.ok S (λvs H Q E h=>?_) (λcdv A outer s H vs Q E hr h=>⟨_,hb cdv A outer s H E hr,?_⟩)
 .obtain⟨Z,Θ,C,xs,r,C',S0,a,hf,_⟩:=h
  unfold fN at hf;split at hf
  .rename_i hl;rw[QM a,hl]
  .cases hf
 .obtain⟨Z,Θ,C,xs,r,C',S0,a,hf,q⟩:=h
  unfold fN at hf;split at hf
  case isFalse=>cases hf
  rename_i hl;have lv:=QM a
  obtain⟨S1,no⟩:=S0.start (n:=N.length-vs.length) a
  rw[lv] at S1 no;have hs:start N vs=vs.map aj++cA (N.length-xs.length) ao:=by unfold start;rw[lv]
  rw[hs];have cl:=S0.cell.len;split at hf
  .rename_i r0 e' C1 hb';split at hf
   .rename_i hok;cases hf
    refine⟨Z,Θ,_,C,.rt r,e',C1,S1,hb',λΘ' v H' R=>?_⟩
    have kp:=R.kp;rw[no,lq] at kp;rw[cl] at q hok;exact q v H' kp (R.ok.cut R.th hok no)
   .cases hf
  .rename_i e' C1 hb';cases hf
   refine⟨Z,Θ,_,C,.nx,e',C1,S1,hb',λΘ' σ' H' R=>?_⟩
   have kp:=R.kp;rw[no,lq] at kp
   obtain⟨Δ,e,hn⟩:=R.th.ex
   have S2:=R.sm.none;rw[e] at S2;rw[cl] at q;exact q .non H' kp ⟨S2.cut,rfl⟩
  .cases hf
theorem alw(hS:bK K H a (ns.map V.int))(h:f [.sc ns] []=aj (.im (.bool au),C')):spT K f [.ref a] H (λv _=>v=.bl au) E:=by
 refine⟨[],[],[],[.sc ns],_,C',⟨rfl,oK,(λ_ m=>nomatch m),λi x e=>by simp at e,⟨rfl,λn b ms e _=>by simp at e⟩⟩,.cons ⟨a,rfl,?_⟩ .nil,h,λv H' _ R=>R.2⟩
 show bK K (er [] H) a _;rw[FZ];exact hS
end
def xg(i:Nat):FE:=λenv C=>match env[i]? with
 |some (some (.sc ns))=>aj (.im (.int ns.length),env,C)
 |_=>ao
def GJ(i:Nat)(f:FB):FE:=λenv C=>match env[i]? with
 |some (some (.sc ns))=>match f env C with
  |some (.int k,_,C1)=>match ie ns k with
   |some z=>aj (.im (.int z),env,C1)
   |none=>ao
  |_=>ao
 |_=>ao
section
variable{X:Cx}{o k:Expr}{i:Nat}{p pos:Pos}
theorem aaJ(ho:PE X o (uq i))(hg:Gl X "len")(hm:X.mg "len"=ao)(hv:tK "len"=aj (.builtin "len"))
  (he:bG [o] X.env=(aD,eval o X.env)::bG [] X.env:=by rfl)(hpl:(iM pos (bG [] X.env)).any (·.1)=aD:=by rfl):PE X (.Call (.Name "len" p) [o] [] pos) (tE X.K (xg i)):=
 (Jr Xi hg hm hv (qw ho vd he) (by decide) (by decide) he hpl).weak λσ H Q aP=>by
  obtain⟨Z,Θ,env,C,r,env',C',S,hf,q⟩:=aP
  unfold xg at hf;split at hf
  .rename_i ns h0;cases hf
   obtain⟨v,ev,a,rfl,sq⟩:=S.slot i _ h0
   have:=q (.int ns.length) H (bz.refl _ _) (Fz.refl _) ⟨S,rfl⟩
   exact⟨_,ev,a,_,rfl,.inl ((Cj _ _).seq sq),by rw[bC];exact this⟩
  .cases hf
theorem alx(ho:PE X o (uq i))(hk:PE X k (fM X.K f))(hs:JP k):PE X (.Subscript o k pos) (tE X.K (GJ i f)):=(S8 Rj ho hk hs).weak λσ H Q aP=>by
 obtain⟨Z,Θ,env,C,r,env',C',S,hf,q⟩:=aP
 unfold GJ at hf;split at hf
 case h_2=>cases hf
 rename_i ns h0;split at hf
 case h_2=>cases hf
 rename_i z e1 C1 h1;split at hf
 case h_2=>cases hf
 rename_i y hy;cases hf
 obtain⟨v,ev,a,rfl,sq⟩:=S.slot i _ h0
 refine⟨_,ev,Z,Θ,env,C,_,e1,C',S,h1,λw H1 k1 f1 S1 b1=>?_⟩
 have S2:=S.go k1 S1.cell
 obtain⟨v2,ev2,a2,ea2,sq2⟩:=S2.slot i _ h0
 rw[ev] at ev2;cases ev2;cases ea2
 refine⟨a,_,z,.int y,rfl,b1,(Cj _ _).seq sq2,?_,q _ H1 k1 (Fz.refl _) ⟨S2,rfl⟩⟩
 unfold ie at hy⊢;rw[bC];cases hj:n6 ns.length z with
 |none=>rw[hj] at hy;cases hy
 |some j=>
  rw[hj] at hy
  show(ns.map V.int)[j]?=_
  rw[jr,show ns[j]?=aj y from hy];rfl
end
section
variable{K:aJ}{X:Cx}
theorem qK(h:Kr Z Θ env σ H [d] vs):∃v,vs=[v]/\fZ Z Θ env σ H d v:=by
 cases h with
 |cons a b=>cases b;exact⟨_,rfl,a⟩
theorem Te(h:Kr Z Θ env σ H [d,e] vs):∃v w,vs=[v,w]/\fZ Z Θ env σ H d v/\fZ Z Θ env σ H e w:=by
 cases h with
 |cons a b=>
  cases b with
  |cons b c=>cases c;exact⟨_,_,rfl,a,b⟩
def CZ:aA->Option Nat
 |.list ds=>aj ds.length
 |.tuple ds=>aj ds.length
 |.str z=>if z.length<=gU then aj z.length else ao
 |.dict kvs=>if(dR gK kvs).isSome then aj kvs.length else ao
 |_=>ao
def mq:List aA->Option Vl
 |[d]=>(CZ d).map λn=>.im (.int n)
 |_=>ao
def ace(K:aJ):List V->Hp->VK->Prop:=λxs H Q=>((∃p ys,xs=[.ref p]/\(bK K H p ys\/cz K H p ys)/\Q (.int ys.length) H)\/∃z,xs=[.str z]/\z.length<=bU/\Q (.int z.length) H)\/∃a kvs,xs=[V.ref a]/\H a=aj (.dK kvs)/\Q (.int kvs.length) H
theorem yx:je X (.builtin "len") (ace X.K):=(Xi.or afW).or ahG
theorem yM:lM K (ace K) mq:=by
 intro Z Θ env C σ H xs ds res S b e Q q;unfold mq at e;split at e
 case h_2=>cases e
 rename_i d
 obtain⟨v,rfl,bb⟩:=qK b
 cases hn:CZ d with
 |none=>rw[hn] at e;cases e
 |some n=>
  rw[hn] at e;cases e;have fin:=q (.int n) H (bz.refl _ _) (jD S rfl rfl);cases d<;>first|cases hn|skip
  .rename_i z;simp only[CZ] at hn;split at hn
   .rename_i hl;cases hn;cases bb.str;exact .inl (.inr ⟨z,rfl,u6 hl,fin⟩)
   .cases hn
  .obtain⟨a,vs,rfl,ha,r⟩:=bb.lst
   exact .inl (.inl ⟨a,vs,rfl,.inl (bK.of ha),by rw[jc r];exact fin⟩)
  .obtain⟨a,vs,rfl,ha,r⟩:=bb.tup
   exact .inl (.inl ⟨a,vs,rfl,.inr (cz.of ha),by rw[jc r];exact fin⟩)
  .rename_i kvs;simp only[CZ] at hn;split at hn
   .rename_i hs;cases hn
    obtain⟨a,vs,rfl,da,r⟩:=bb.dct
    rcases da with⟨ks,h1,ha⟩|⟨ks,⟨ne,h2⟩,ha⟩
    .refine .inr ⟨a,_,rfl,ha,?_⟩;rw[Nf,yC h1,JX r,Nat.min_self];exact fin
    .obtain⟨ks',h1⟩:=zN.mp hs
     exact absurd (Ay h1 h2) ne
   .cases hn
def Gr:List aA->Option Vl
 |[.int i]=>aj (.im (.int (if i<0 then -i else i)))
 |_=>ao
theorem abz:lM K (λxs H Q=>∃i,xs=[.int i]/\Q (.int (if i<0 then -i else i)) H) Gr:=by
 intro Z Θ env C σ H xs ds res S b e Q q;unfold Gr at e;split at e
 case h_2=>cases e
 cases e
 obtain⟨v,rfl,bb⟩:=qK b
 cases bb.int
 exact⟨_,rfl,q _ H (bz.refl _ _) (jD S rfl rfl)⟩
def vp:List aA->Option Vl
 |[.int i]=>aj (.im (.int i))
 |[.bool k]=>aj (.im (.int (if k then 1 else 0)))
 |_=>ao
theorem Ke:lM K (λxs H Q=>(∃i,xs=[.int i]/\Q (.int i) H)\/∃k,xs=[.bl k]/\Q (.int (if k then 1 else 0)) H) vp:=by
 intro Z Θ env C σ H xs ds res S b e Q q;unfold vp at e;split at e
 case h_3=>cases e
 .cases e
  obtain⟨v,rfl,bb⟩:=qK b
  cases bb.int;exact .inl ⟨_,rfl,q _ H (bz.refl _ _) (jD S rfl rfl)⟩
 .cases e
  obtain⟨v,rfl,bb⟩:=qK b
  cases(show v=.bl _ from bb)
  exact .inr ⟨_,rfl,q _ H (bz.refl _ _) (jD S rfl rfl)⟩
def Kf:List aA->Option Vl
 |[.int i,.int j]=>aj (.im (.int (if j<i then j else i)))
 |_=>ao
theorem ake:lM K (λxs H Q=>∃i j,xs=[.int i,.int j]/\Q (.int (if j<i then j else i)) H) Kf:=by
 intro Z Θ env C σ H xs ds res S b e Q q;unfold Kf at e;split at e
 case h_2=>cases e
 cases e
 obtain⟨v,w,rfl,b1,b2⟩:=Te b
 cases b1.int;cases b2.int
 exact⟨_,_,rfl,q _ H (bz.refl _ _) (jD S rfl rfl)⟩
def boolsOf:List aA->Option (List Bool)
 |[]=>aj []
 |.bool b::r=>match boolsOf r with
  |some t=>aj (b::t)
  |none=>ao
 |_=>ao
theorem YL:∀{ds:List aA}{ns:List Bool}{vs:List V},boolsOf ds=aj ns->bW E ds vs->vs=ns.map V.bl
 |[],ns,vs,h,r=>by cases h;exact r
 |.bool i::ds,ns,vs,h,r=>by
  unfold boolsOf at h;split at h
  .rename_i t ht;cases h
   obtain⟨u,w,rfl,q,s⟩:=r
   rw[YL ht s];have:u=.bl i:=q;rw[this];rfl
  .cases h
 |.none::_,_,_,h,_=>by cases h
 |.int _::_,_,_,h,_=>by cases h
 |.str _::_,_,_,h,_=>by cases h
 |.list _::_,_,_,h,_=>by cases h
 |.tuple _::_,_,_,h,_=>by cases h
 |.dict _::_,_,_,h,_=>by cases h
def mC:List aA->Option Vl
 |[.list ds]=>(boolsOf ds).map λbs=>.im (.bool (bs.all id))
 |_=>ao
theorem qG:lM K (λxs H Q=>∃(p:az)(bs:List Bool),xs=[.ref p]/\bK K H p (bs.map V.bl)/\Q (.bl (bs.all id)) H) mC:=by
 intro Z Θ env C σ H xs ds res S b e Q q;unfold mC at e;split at e
 case h_2=>cases e
 rename_i ds;cases hb:boolsOf ds with
 |none=>rw[hb] at e;cases e
 |some bs=>
  rw[hb] at e;cases e
  obtain⟨v,rfl,bb⟩:=qK b
  obtain⟨a,vs,rfl,ha,r⟩:=bb.lst
  rw[YL hb r] at ha
  exact⟨a,bs,rfl,bK.of ha,q _ H (bz.refl _ _) (jD S rfl rfl)⟩
def tY:List aA->Option Vl
 |[.list ds]=>aj (.im (.tuple ds))
 |[.tuple ds]=>aj (.im (.tuple ds))
 |_=>ao
theorem JB:lM K (λxs H Q=>∃p ys,xs=[.ref p]/\((bK K H p ys/\∀l,H l=ao->Q (.ref l) (upd H l (.tup ys)))\/(cz K H p ys/\Q (.ref p) H))) tY:=by
 intro Z Θ env C σ H xs ds res S b e Q q;unfold tY at e;split at e
 case h_3=>cases e
 .cases e
  obtain⟨v,rfl,bb⟩:=qK b
  obtain⟨a,vs,rfl,ha,r⟩:=bb.lst
  exact⟨a,vs,rfl,.inl ⟨bK.of ha,λl hl=>q _ _ (bz.upd hl) (JZ S r hl)⟩⟩
 .cases e
  obtain⟨v,rfl,bb⟩:=qK b
  obtain⟨a,vs,rfl,ha,r⟩:=bb.tup
  exact⟨a,vs,rfl,.inr ⟨cz.of ha,q _ H (bz.refl _ _) ⟨S,bb⟩⟩⟩
end
def pX(n:String):aA->Option Bool
 |.none=>aj aD
 |.bool _=>aj (n=="bool"||n=="int")
 |.int _=>aj (n=="int")
 |.str _=>aj (n=="str")
 |.list _=>aj (n=="list")
 |.tuple _=>aj (n=="tuple")
 |.dict _=>ao
def GK(n:String):Bool:=n=="bool"||n=="int"||n=="str"||n=="list"||n=="tuple"
theorem Sh{K:aJ}{n:String}{d:aA}{b:Bool}(hn:GK n=au)(e:pX n d=aj b):zZ K (G8 d) (.type n)=aj b:=by
 unfold GK at hn;simp only[Bool.or_eq_true,beq_iff_eq] at hn;rcases hn with(((rfl|rfl)|rfl)|rfl)|rfl<;>cases d<;>cases e<;>rfl
theorem ZJ(e:pX n d=aj b):∀kvs,d≠.dict kvs:=λkvs z=>by subst z;cases e
theorem fZ.ty{K:aJ}{Z Θ:List az}{env:En}{σ:St}{H:Hp}{d:aA}{v:V}(h:fZ Z Θ env σ H d v)(hd:∀kvs,d≠.dict kvs):mD K H v (G8 d):=by
 cases d with
 |none=>exact RX.ty (d:=.none) h
 |bool b=>exact RX.ty (d:=.bool b) h
 |int i=>exact RX.ty (d:=.int i) h
 |str z=>exact RX.ty (d:=.str z) h
 |list ds=>
  obtain⟨a,vs,rfl,ha,r⟩:=h.lst
  exact .lst ha
 |tuple ds=>
  obtain⟨a,vs,rfl,ha,r⟩:=h.tup
  exact .tup ha
 |dict kvs=>exact absurd rfl (hd kvs)
def jz(n:String)(f:FB):FE:=λenv C=>match f env C with
 |some (d,_,C1)=>match pX n d with
  |some b=>aj (.im (.bool b),env,C1)
  |none=>ao
 |none=>ao
def yX(m n:String)(f:FB):FE:=λenv C=>match f env C with
 |some (d,_,C1)=>match pX m d,pX n d with
  |some p,some q=>aj (.im (.bool (p||q)),env,C1)
  |_,_=>ao
 |none=>ao
section
variable{X:Cx}{a t t':Expr}{p pos tp:Pos}{x1:Nat}
theorem nP(hn:GK n=au)(ha:PE X a (fM X.K f))(ht:PE X t (tC (.ty n)))(hg:Gl X "isinstance")(hm:X.mg "isinstance"=ao)(hv:tK "isinstance"=aj (.builtin "isinstance"))
  (he:bG [a,t] X.env=(aD,eval a X.env)::bG [t] X.env:=by rfl)(he2:bG [t] X.env=(aD,eval t X.env)::bG [] X.env:=by rfl)(hpl:(iM pos (bG [t] X.env)).any (·.1)=aD:=by rfl):
  PE X (.Call (.Name "isinstance" p) [a,t] [] pos) (tE X.K (jz n f)):=
 (Jr agx hg hm hv (qw ha (qw ht vd he2) he) (by decide) (by decide) he hpl).weak λσ H Q aP=>by
  obtain⟨Z,Θ,env,C,r,env',C',S,hf,q⟩:=aP
  unfold jz at hf;split at hf
  case h_2=>cases hf
  rename_i d e1 C1 h1;split at hf
  case h_2=>cases hf
  rename_i b hb;cases hf
  refine⟨Z,Θ,env,C,d,e1,C',S,h1,λv H1 k f S1 b1=>⟨v,n,G8 d,b,rfl,b1.ty (ZJ hb),Sh hn hb,q _ H1 k (Fz.refl _) ⟨S.go k S1.cell,rfl⟩⟩⟩
theorem akf(hm':GK m=au)(hn:GK n=au)(ha:PE X a (fM X.K f))(ht:PE X t (tC (.ty m)))(ht':PE X t' (tC (.ty n)))(hg:Gl X "isinstance")(hm:X.mg "isinstance"=ao)(hv:tK "isinstance"=aj (.builtin "isinstance"))
  (he:bG [a,.Tuple [t,t'] x1 tp] X.env=(aD,eval a X.env)::bG [.Tuple [t,t'] x1 tp] X.env:=by rfl)(he2:bG [.Tuple [t,t'] x1 tp] X.env=(aD,eval (.Tuple [t,t'] x1 tp) X.env)::bG [] X.env:=by rfl)
  (h3:bG [t,t'] X.env=(aD,eval t X.env)::bG [t'] X.env:=by rfl)(h4:bG [t'] X.env=(aD,eval t' X.env)::bG [] X.env:=by rfl)
  (hpl:(iM pos (bG [.Tuple [t,t'] x1 tp] X.env)).any (·.1)=aD:=by rfl):
  PE X (.Call (.Name "isinstance" p) [a,.Tuple [t,t'] x1 tp] [] pos) (tE X.K (yX m n f)):=
 (Jr afY hg hm hv (qw ha (qw (aa6 (qw ht (qw ht' vd h4) h3)) vd he2) he) (by decide) (by decide) he hpl).weak λσ H Q aP=>by
  obtain⟨Z,Θ,env,C,r,env',C',S,hf,q⟩:=aP
  unfold yX at hf;split at hf
  case h_2=>cases hf
  rename_i d e1 C1 h1;split at hf
  case h_2=>cases hf
  rename_i b b' hb hb';cases hf
  refine⟨Z,Θ,env,C,d,e1,C',S,h1,λv H1 k f S1 b1=>⟨by show 2<=bU;rw[jR];decide,λc hc=>?_⟩⟩
  have kc:bz Θ H1 (upd H1 c (.tup [.ty m,.ty n])):=bz.upd hc;have s2:=S1.Ck (bD.upd (o:=.tup [.ty m,.ty n]) hc);have b2:=b1.go S1 kc (Fz.refl _)
  refine⟨v,c,m,n,G8 d,b,b',rfl,f9,b2.ty (ZJ hb),Sh hm' hb,Sh hn hb',q _ _ (k.trans kc) (Fz.refl _) ⟨S.go (k.trans kc) s2.cell,rfl⟩⟩
end
def ins{α:Type}(lt:α->α->Bool)(x:α):List α->List α
 |[]=>[x]
 |y::r=>if lt y x then y::ins lt x r else x::y::r
def iD{α:Type}(lt:α->α->Bool):List α->List α
 |[]=>[]
 |x::r=>ins lt x (iD lt r)
section
variable{α:Type}{lt:α->α->Bool}
theorem QS(x:α):∀l:List α,(ins lt x l).Perm (x::l)
 |[]=>uM _
 |y::r=>by
  unfold ins;split
  .exact((QS x r).cons y).trans (WL x y r)
  .exact uM _
theorem Ak:∀l:List α,(iD lt l).Perm l
 |[]=>uM _
 |x::r=>(QS x _).trans ((Ak r).cons x)
structure Cr(lt:α->α->Bool)(P:α->Prop):Prop where
 CN:∀a b,P a->P b->lt a b=au->lt b a=aD
 neg:∀a b c,P a->P b->P c->lt a c=au->lt a b=au\/lt b c=au
 tot:∀a b,P a->P b->lt a b=aD->lt b a=aD->a=b
theorem abA(O:Cr lt P)(hx:P x):∀{l:List α},(∀y∈l,P y)->l.Pairwise (λa b=>lt b a=aD)->(ins lt x l).Pairwise (λa b=>lt b a=aD)
 |[],_,_=>qY.mpr ⟨λ_ m=>(nomatch m),zT⟩
 |y::r,hp,h=>by
  rw[qY] at h;have py:=hp y dj;unfold ins;split
  .rename_i hl;rw[qY]
   refine⟨λz m=>?_,abA O hx (λz m=>hp z (dB _ m)) h.2⟩
   rcases bJ.mp ((QS x r).mem_iff.mp m) with rfl|m
   .exact O.CN _ _ py hx hl
   .exact h.1 z m
  .rename_i hl;have hl:lt y x=aD:=by simpa using hl
   rw[qY,qY]
   refine⟨λz m=>?_,h.1,h.2⟩
   rcases bJ.mp m with rfl|m
   .exact hl
   .have pz:=hp z (dB _ m);cases hz:lt z x with
    |false=>rfl
    |true=>
     rcases O.neg z y x pz py hx hz with h1|h1
     .rw[h.1 z m] at h1;cases h1
     .rw[hl] at h1;cases h1
theorem QT(O:Cr lt P):∀{l:List α},(∀y∈l,P y)->(iD lt l).Pairwise (λa b=>lt b a=aD)
 |[],_=>zT
 |x::r,hp=>abA O (hp x dj) (λy m=>hp y (dB _ ((Ak r).mem_iff.mp m))) (QT O λy m=>hp y (dB _ m))
theorem abB(O:Cr lt P):∀{l m:List α},(∀y∈l,P y)->l.Perm m->l.Pairwise (λa b=>lt b a=aD)->m.Pairwise (λa b=>lt b a=aD)->l=m
 |[],m,_,p,_,_=>(afE.mp p).symm
 |x::r,[],_,p,_,_=>absurd p.length_eq (by simp)
 |x::r,y::t,hp,p,h1,h2=>by
  have pm:∀z∈y::t,P z:=λz m=>hp z (p.mem_iff.mpr m)
  rw[qY] at h1 h2;have e:x=y:=by
   have m1:x∈y::t:=p.mem_iff.mp dj;have m2:y∈x::r:=p.mem_iff.mpr dj;rcases bJ.mp m1 with e|m1
   .exact e
   .rcases bJ.mp m2 with e|m2
    .exact e.symm
    .exact O.tot x y (hp x dj) (pm y dj) (h2.1 x m1) (h1.1 y m2)
  subst e;rw[abB O (λz m=>hp z (dB _ m)) ((List.perm_cons x).mp p) h1.2 h2.2]
theorem Rv(O:Cr lt P)(hp:∀y∈l,P y)(p:m.Perm l)(h:m.Pairwise (λa b=>lt b a=aD)):m=iD lt l:=
 abB O (λy hy=>hp y (p.mem_iff.mp hy)) (p.trans (Ak l).symm) h (QT O hp)
end
def ltI(i j:Int):Bool:=decide (i<j)
theorem anp:Cr ltI (λ_=>True):=⟨λa b _ _ h=>by unfold ltI at *;simp at *;lia,λa b c _ _ _ h=>by unfold ltI at *;simp at *;lia,λa b _ _ h1 h2=>by unfold ltI at *;simp at *;lia⟩
theorem K3:Cr strLt (λ_=>True):=by
 refine⟨λa b _ _ h=>?_,λa b c _ _ _ h=>?_,λa b _ _ h1 h2=>?_⟩
 .exact Ro (a:=.inr a) (b:=.inr b) h
 .exact abi (a:=.inr a) (b:=.inr b) (c:=.inr c) rfl rfl h
 .exact Il (J8 (a:=.inr a) (b:=.inr b) rfl h1 h2)
def strsOf:List aA->Option (List Str)
 |[]=>aj []
 |.str i::r=>match strsOf r with
  |some t=>aj (i::t)
  |none=>ao
 |_=>ao
theorem QV:∀{ds:List aA}{ns:List Str}{vs:List V},strsOf ds=aj ns->bW E ds vs->vs=ns.map V.str
 |[],ns,vs,h,r=>by cases h;exact r
 |.str i::ds,ns,vs,h,r=>by
  unfold strsOf at h;split at h
  .rename_i t ht;cases h
   obtain⟨u,w,rfl,q,s⟩:=r
   rw[QV ht s];have:u=.str i:=q;rw[this];rfl
  .cases h
 |.none::_,_,_,h,_=>by cases h
 |.bool _::_,_,_,h,_=>by cases h
 |.int _::_,_,_,h,_=>by cases h
 |.list _::_,_,_,h,_=>by cases h
 |.tuple _::_,_,_,h,_=>by cases h
 |.dict _::_,_,_,h,_=>by cases h
def sr:aA->Option (List Bool)
 |.tuple xs=>(keysOf xs).map λks=>ks.map bH
 |_=>ao
def lN:Key->aA
 |.inl i=>.int i
 |.inr x=>.str x
def vq:aA->List Key
 |.tuple xs=>(keysOf xs).getD []
 |_=>[]
def qQ(ds:List aA):List aA:=(mF (ds.map vq)).map λk=>.tuple (k.map lN)
def yZ(ds:List aA):Option (List aA):=if ds.length<64 then match intsOf ds with
  |some ns=>aj ((iD ltI ns).map .int)
  |none=>match strsOf ds with
   |some zs=>aj ((iD strLt zs).map .str)
   |none=>match ds with
    |[]=>aj []
    |d::_=>match sr d with
     |some (b::sh)=>if(ds.all λe=>decide (sr e=aj (b::sh))) then aj (qQ ds) else ao
     |_=>ao
 else ao
def Fe:List aA->Option Vl
 |[.list ds]=>(yZ ds).map λl=>.ow (.list l)
 |_=>ao
def Sq(K:aJ):List V->Hp->VK->Prop:=λxs H Q=>((∃(p:az)(ns:List Int),xs=[.ref p]/\bK K H p (ns.map V.int)/\ns.length<64/\∀(l:az)(ns':List Int),H l=ao->ns'.Perm ns->ns'.Pairwise (·<=·)->Q (.ref l) (upd H l (.lst (ns'.map V.int))))\/
 ∃(p:az)(ns:List Str),xs=[.ref p]/\bK K H p (ns.map V.str)/\ns.length<64/\∀(l:az)(ns':List Str),H l=ao->ns'.Perm ns->sortedS ns'=au->Q (.ref l) (upd H l (.lst (ns'.map V.str))))\/
 ∃(p:az)(rows:List Row)(b:Bool)(sh:List Bool),xs=[.ref p]/\bK K H p (rows.map λr=>V.ref r.1)/\rows.length<64/\(∀r∈rows,H r.1=aj (.tup (r.2.map kV))/\r.2.map bH=b::sh)/\∀(l:az)(rows':List Row),H l=ao->rows'.Perm rows->rows'.map (·.2)=mF (rows.map (·.2))->Q (.ref l) (upd H l (.lst (rows'.map λr=>V.ref r.1)))
theorem ahf:je X (.builtin "sorted") (Sq X.K):=(aeU.or aeV).or aez
theorem sortI(p:ns'.Perm ns)(h:ns'.Pairwise (·<=·)):ns'=iD ltI ns:=Rv anp (λ_ _=>trivial) p (h.imp λ{a b} hab=>by unfold ltI;simp;exact hab)
theorem abC:∀{x:Str}{r:List Str},risingS x r=au->(x::r).Pairwise (λa b=>strLt b a=aD)
 |x,[],_=>qY.mpr ⟨λ_ m=>(nomatch m),zT⟩
 |x,y::r,h=>by
  unfold risingS at h;rw[jl,Bool.not_eq_true'] at h;have ih:=abC h.2;have hxy:strLt y x=aD:=by
   have:=h.1;unfold strLt;rw[lt_meets];exact this
  rw[qY]
  refine⟨λz m=>?_,ih⟩
  rcases bJ.mp m with rfl|m
  .exact hxy
  .rw[qY] at ih;cases hz:strLt z x with
   |false=>rfl
   |true=>
    rcases K3.neg z y x trivial trivial trivial hz with h1|h1
    .rw[ih.1 z m] at h1;cases h1
    .rw[hxy] at h1;cases h1
theorem abD(p:ns'.Perm ns)(h:sortedS ns'=au):ns'=iD strLt ns:=Rv K3 (λ_ _=>trivial) p (by
 cases ns' with
 |nil=>exact zT
 |cons x r=>exact abC h)
theorem JC:∀{xs:List aA}{ks:List Key},keysOf xs=aj ks->xs=ks.map lN
 |[],ks,h=>by cases h;rfl
 |x::xs,ks,h=>by
  unfold keysOf at h;split at h
  .rename_i k t h1 h2;cases h;rw[JC h2];have:x=lN k:=by
    cases x<;>first|(cases h1;rfl)|cases h1
   rw[this];rfl
  .cases h
theorem JD:∀ks:List Key,keysOf (ks.map lN)=aj ks
 |[]=>rfl
 |k::ks=>by
  show(match gK (lN k),keysOf (ks.map lN) with|some k,some t=>aj (k::t)|_,_=>ao)=_
  rw[JD ks];cases k<;>rfl
theorem ahX{ds:List aA}{rows rows':List Row}(e:ds=rows.map (λr=>.tuple (r.2.map lN)))(h:rows'.map (·.2)=mF (rows.map (·.2))):(rows'.map λr=>Ed (r.2.map lN))=qQ ds:=by
 have e1:ds.map vq=rows.map (·.2):=by
  rw[e,iK];refine uK λr _=>?_
  show(keysOf (r.2.map lN)).getD []=r.2
  rw[JD];rfl
 unfold qQ;rw[e1,<-h,iK];rfl
theorem ahY(h:∀d∈ds,(sr d).isSome=au):(qQ ds).Perm ds:=by
 have:=(YD (ds.map vq)).map λk=>Ed (k.map lN)
 refine this.trans (Wj ?_);rw[iK]
 refine(uK λd hd=>?_).trans (Ip ds)
 have hs:=h d hd;cases d with
 |tuple xs=>
  show Ed (((keysOf xs).getD []).map lN)=.tuple xs;cases hk:keysOf xs with
  |none=>
   have hs:((keysOf xs).map λks=>ks.map bH).isSome=au:=hs;rw[hk] at hs;cases hs
  |some ks=>rw[JC hk];rfl
 |_=>cases hs
theorem ZK:∀{ds:List aA}{vs:List V},(∀d∈ds,sr d=aj sh)->bW E ds vs->∃rows:List Row,vs=rows.map (λr=>V.ref r.1)/\ds=rows.map (λr=>.tuple (r.2.map lN))/\∀r∈rows,E r.1=aj (.tup (r.2.map kV))/\r.2.map bH=sh
 |[],vs,_,r=>⟨[],r,rfl,λ_ m=>(nomatch m)⟩
 |d::ds,vs,h,r=>by
  obtain⟨u,w,rfl,q,s⟩:=r
  obtain⟨rows,e1,e2,e3⟩:=ZK (λd m=>h d (dB _ m)) s
  have hd:=h d dj;cases d<;>first|cases hd|skip
  rename_i xs;have hd:(keysOf xs).map (λks=>ks.map bH)=aj sh:=hd;cases hk:keysOf xs with
  |none=>rw[hk] at hd;cases hd
  |some ks=>
   rw[hk] at hd
   obtain⟨a,vs',rfl,ha,rr⟩:=q
   rw[yw hk rr] at ha
   refine⟨(a,ks)::rows,by rw[e1];rfl,by rw[e2,JC hk];rfl,λr m=>?_⟩
   rcases bJ.mp m with rfl|m
   .exact⟨ha,jb hd⟩
   .exact e3 r m
theorem QW:∀{rows:List Row},(∀r∈rows,E r.1=aj (.tup (r.2.map kV)))->bW E (rows.map λr=>.tuple (r.2.map lN)) (rows.map λr=>V.ref r.1)
 |[],_=>rfl
 |r::rows,h=>by
  refine⟨_,_,rfl,⟨r.1,r.2.map kV,rfl,h r dj,?_⟩,QW λr m=>h r (dB _ m)⟩
  generalize r.2=ks;induction ks with
  |nil=>rfl
  |cons k ks ih=>exact⟨_,_,rfl,by cases k<;>rfl,ih⟩
theorem ZL:∀{ds:List aA}{ns:List Int},intsOf ds=aj ns->ds=ns.map .int
 |[],ns,h=>by cases h;rfl
 |.int i::ds,ns,h=>by
  unfold intsOf at h;split at h
  .rename_i t ht;cases h;rw[ZL ht];rfl
  .cases h
 |.none::_,_,h=>by cases h
 |.bool _::_,_,h=>by cases h
 |.str _::_,_,h=>by cases h
 |.list _::_,_,h=>by cases h
 |.tuple _::_,_,h=>by cases h
 |.dict _::_,_,h=>by cases h
theorem QX:∀{ds:List aA}{ns:List Str},strsOf ds=aj ns->ds=ns.map .str
 |[],ns,h=>by cases h;rfl
 |.str i::ds,ns,h=>by
  unfold strsOf at h;split at h
  .rename_i t ht;cases h;rw[QX ht];rfl
  .cases h
 |.none::_,_,h=>by cases h
 |.bool _::_,_,h=>by cases h
 |.int _::_,_,h=>by cases h
 |.list _::_,_,h=>by cases h
 |.tuple _::_,_,h=>by cases h
 |.dict _::_,_,h=>by cases h
theorem ahZ{K:aJ}:lM K (Sq K) Fe:=by
 intro Z Θ env C σ H xs ds0 res S b e Q q;unfold Fe at e;split at e
 case h_2=>cases e
 rename_i ds;cases hs:yZ ds with
 |none=>rw[hs] at e;cases e
 |some l=>
  rw[hs] at e;cases e
  obtain⟨v,rfl,bb⟩:=qK b
  obtain⟨a,vs,rfl,ha,r⟩:=bb.lst
  unfold yZ at hs;split at hs
  case isFalse=>cases hs
  rename_i hl;split at hs
  .rename_i ns hns;cases hs;have ev:=Jx hns r;subst ev;refine .inl (.inl ⟨a,ns,rfl,bK.of ha,by rw[ZL hns,bC] at hl;exact hl,λl ns' hn p hp=>?_⟩);rw[sortI p hp];exact q _ _ (bz.upd hn) (qx S (aiN _) hn)
  .split at hs
   .rename_i ns hns;cases hs;have ev:=QV hns r;subst ev;refine .inl (.inr ⟨a,ns,rfl,bK.of ha,by rw[QX hns,bC] at hl;exact hl,λl ns' hn p hp=>?_⟩);rw[abD p hp];exact q _ _ (bz.upd hn) (qx S (Zu _) hn)
   .split at hs
    .cases hs
     cases(show vs=[] from r)
     exact .inl (.inl ⟨a,[],rfl,bK.of ha,by decide,λl ns' hn p hp=>by
      rw[W9.mp p];exact q _ _ (bz.upd hn) (qx S rfl hn)⟩)
    .rename_i d0 dr hi1 hi2;split at hs
     case h_2=>cases hs
     rename_i b0 sh hsh;split at hs
     case isFalse=>cases hs
     rename_i hall;cases hs;have hall':∀d∈d0::dr,sr d=aj (b0::sh):=λd m=>of_decide_eq_true (jK.mp hall d m)
     obtain⟨rows,e1,e2,e3⟩:=ZK hall' r
     subst e1;refine .inr ⟨a,rows,b0,sh,rfl,bK.of ha,?_,λr m=>⟨ir (e3 r m).1,(e3 r m).2⟩,λl rows' hn p hp=>?_⟩
     .have:=congrArg wA e2;rw[bC] at this;rw[<-this];exact hl
     .have es:(rows'.map λr=>Ed (r.2.map lN))=qQ (d0::dr):=ahX e2 hp;rw[<-es] at q;exact q _ _ (bz.upd hn) (qx S (QW λr m=>(e3 r (p.mem_iff.mp m)).1) hn)
def JF(ds:List aA):Option (List aA):=if ds.length<64 then match strsOf ds with
  |some ns=>aj ((iD strLt (dedup ns)).map .str)
  |none=>ao
 else ao
section
variable{X:Cx}{l:Expr}{f:FB}{p1 p2 pos1 pos2:Pos}
end
def Kv(f g:FB):FE:=λenv C=>match f env C with
 |some (.list ds,e1,C1)=>match g e1 C1 with
  |some (.int k,_,C2)=>match intsOf ds with
   |some ns=>aj (.im (.int (maxD k ns)),env,C2)
   |none=>ao
  |_=>ao
 |_=>ao
theorem akg(hc:X.calm=au)(hl:PE X l (fM X.K f))(hd:PE X de (fM X.K g))(hg:Gl X "max")(hm:X.mg "max"=ao)(he:bG [l] X.env=(aD,eval l X.env)::bG [] X.env:=by rfl):
  PE X (.Call (.Name "max" p) [l] [⟨aj "default",de,kp⟩] pos) (tE X.K (Kv f g)):=(aj1 hc hl hd hg hm he).weak λσ H Q aP=>by
 obtain⟨Z,Θ,env,C,r,env',C',S,hf,q⟩:=aP
 unfold Kv at hf;split at hf
 case h_2=>cases hf
 rename_i ds e1 C1 h1;split at hf
 case h_2=>cases hf
 rename_i k e2 C2 h2;split at hf
 case h_2=>cases hf
 rename_i ns hns;cases hf
 refine⟨Z,Θ,env,C,_,e1,C1,S,h1,λv H1 k1 f1 S1 b1=>⟨Z,Θ,e1,C1,_,e2,C',S1,h2,λw H2 k2 f2 S2 b2=>?_⟩⟩
 obtain⟨a,vs,rfl,ha,r⟩:=(b1.go S1 k2 f2).lst
 rw[Jx hns r] at ha
 exact⟨a,ns,k,rfl,b2,bK.of ha,q _ H2 (k1.trans k2) (Fz.refl _) ⟨S.go (k1.trans k2) S2.cell,rfl⟩⟩
def Kg:aA->aA->Option Vl
 |.str z,.list ds=>match strsOf ds with
  |some ys=>if(ys.map (·.length)).sum+ys.length*z.length<=gU then aj (.im (.str (Txt.join z ys))) else ao
  |none=>ao
 |_,_=>ao
def Kw(f g:FB):FE:=bu Kg f g
theorem akh(ho:PE X o (fM X.K f))(he:PE X e (fM X.K g))
  (hbase:HY o "join" X.env (eval o X.env)=eval o X.env:=by rfl)
  (hfew:((iM cpos (bG [e] X.env)).all (λx=>!x.1)&&(Js cpos (Im [] X.env)).all (λx=>x.1.isSome)
   &&decide (([e]:List Expr).length+([]:List tX).length+(if([]:List tX).isEmpty then 0 else 1)<30))=au:=by rfl)
  (hline:(apos.endLine==cpos.line)=au:=by rfl)(hs:bG [e] X.env=(aD,eval e X.env)::bG [] X.env:=by rfl)(hplain:(iM cpos (bG [] X.env)).any (·.1)=aD:=by rfl):
  PE X (.Call (.Attribute o "join" apos) [e] [] cpos) (tE X.K (Kw f g)):=
 (abV PySem.F.plainAttrs_str PySem.F.slot_str_join PySem.F.type_str_join (Df.r ajO) ho (qw he vd hs) hbase hfew hline hs hplain).weak λσ H Q aP=>by
  obtain⟨Z,Θ,env,C,r,env',C',S,hf,q⟩:=aP
  unfold Kw bu at hf;split at hf
  case h_2=>cases hf
  rename_i x e1 C1 h1;split at hf
  case h_2=>cases hf
  rename_i y e2 C2 h2;split at hf
  case h_2=>cases hf
  rename_i r0 h3;cases hf
  refine⟨Z,Θ,env,C,x,e1,C1,S,h1,λv H1 k1 f1 S1 b1=>?_⟩
  unfold Kg at h3;split at h3
  case h_2=>cases h3
  rename_i z ds;split at h3
  case h_2=>cases h3
  rename_i ys hys;split at h3
  case isFalse=>cases h3
  rename_i hl;cases h3;cases b1.str
  refine⟨rfl,Z,Θ,e1,C1,_,e2,C',S1,h2,λw H2 k2 f2 S2 b2=>?_⟩
  obtain⟨a,vs,rfl,ha,rr⟩:=b2.lst
  rw[QV hys rr] at ha;have kk:=k1.trans k2
  refine⟨z,a,ys,rfl,rfl,bK.of ha,by unfold gU at hl;lia,?_⟩
  exact q _ H2 kk ((f1.trans f2).rst _) (Res.rst S kk ⟨S2,rfl⟩)
abbrev FO:=En->Ce->Option (Option Int×Ce)
inductive Hg(K:aJ)(f:FO)(σ:St)(H:Hp)(Q:Option Int->Hp->Prop):Prop
 |mk (Z Θ:List az) (env:En) (C:Ce) (o:Option Int) (C':Ce) (S:Sm K Z Θ env C σ H) (hf:f env C=aj (o,C')) (q:∀H',bz Θ H H'->Sm K Z Θ env C' σ H'->Q o H'):Hg K f σ H Q
def oX:FO:=λ_ C=>aj (ao,C)
def oE(f:FB):FO:=λenv C=>match f env C with
 |some (.int i,_,C1)=>aj (aj i,C1)
 |_=>ao
def Dc{α:Type}(xs:List α)(lo hi:Option Int):List α:=(xs.drop (HT.cg xs.length 0 lo)).take (HT.cg xs.length xs.length hi-HT.cg xs.length 0 lo)
def xR(lo hi:Option Int):aA->Option Vl
 |.str z=>if z.length<=gU then aj (.im (.str (Txt.slice z lo hi))) else ao
 |.list ds=>aj (.ow (.list (Dc ds lo hi)))
 |.tuple ds=>aj (.im (.tuple (Dc ds lo hi)))
 |_=>ao
def oF(f:FB)(lo hi:FO):FE:=λenv C=>match f env C with
 |some (d,e1,C1)=>match lo e1 C1 with
  |some (l,C2)=>match hi e1 C2 with
   |some (h,C3)=>match xR l h d with
    |some r=>aj (r,rst r env e1,C3)
    |none=>ao
   |none=>ao
  |none=>ao
 |none=>ao
theorem Rw{E:Hp}{ds:List aA}{vs:List V}{lo hi:Option Int}(r:bW E ds vs):bW E (Dc ds lo hi) (rY vs lo hi):=by
 unfold Dc rY;rw[jc r];exact Zr _ (Zt _ r)
section
variable{X:Cx}{e:Expr}{lo hi:Option Expr}{pos p2:Pos}
theorem PO.weak(h:PO X o t)(w:∀σ H Q,t' σ H Q->t σ H Q):PO X o t':=λpins s σ H Q I q=>h pins s σ H Q I (w σ H Q q)
theorem Cu:PO X ao (Hg X.K oX):=ajF.weak λσ H Q aP=>by
 obtain⟨Z,Θ,env,C,o,C',S,hf,q⟩:=aP
 cases hf;exact q H (bz.refl _ _) S
theorem Cv(h:PE X e (fM X.K f)):PO X (aj e) (Hg X.K (oE f)):=(ajG h).weak λσ H Q aP=>by
 obtain⟨Z,Θ,env,C,o,C',S,hf,q⟩:=aP
 unfold oE at hf;split at hf
 .rename_i i e1 C1 h1;cases hf
  exact⟨Z,Θ,env,C,_,e1,C',S,h1,λv H1 k f S1 b1=>⟨i,b1,q H1 k (S.go k S1.cell)⟩⟩
 .cases hf
theorem Cw{f:FB}{flo fhi:FO}(he:PE X e (fM X.K f))(hl:PO X lo (Hg X.K flo))(hh:PO X hi (Hg X.K fhi)):PE X (.Subscript e (.Slice lo hi ao p2) pos) (tE X.K (oF f flo fhi)):=(ait ((alf.or ajI).or ajV) he hl hh).weak λσ H Q aP=>by
 obtain⟨Z,Θ,env,C,r,env',C',S,hf,q⟩:=aP
 unfold oF at hf;split at hf
 case h_2=>cases hf
 rename_i d e1 C1 h1;split at hf
 case h_2=>cases hf
 rename_i l C2 h2;split at hf
 case h_2=>cases hf
 rename_i h C3 h3;split at hf
 case h_2=>cases hf
 rename_i r0 h4;cases hf
 refine⟨Z,Θ,env,C,d,e1,C1,S,h1,λv H1 k1 f1 S1 b1=>⟨Z,Θ,e1,C1,l,C2,S1,h2,λH2 k2 S2=>⟨Z,Θ,e1,C2,h,C',S2,h3,λH3 k3 S3=>?_⟩⟩⟩
 have kk:=(k1.trans k2).trans k3;have b3:=b1.go S1 (k2.trans k3) (Fz.refl _);have fin:∀{w:V}{H4:Hp},bz Θ H3 H4->Res X.K Z Θ e1 C' σ H3 H4 r w->Q w H4:=λ{w H4} k4 R=>q w H4 (kk.trans k4) (f1.rst _) ((R.from kk).rst S (kk.trans k4))
 cases d<;>first|cases h4|skip
 .rename_i z;simp only[xR] at h4;split at h4
  .rename_i hz;cases h4;cases b3.str;exact .inl (.inl ⟨z,rfl,u6 hz,fin (bz.refl _ _) (jD S3 rfl rfl)⟩)
  .cases h4
 .obtain⟨a,vs,rfl,ha,rr⟩:=b3.lst
  exact .inl (.inr ⟨a,vs,rfl,bK.of ha,λp hp=>fin (bz.upd hp) (qx S3 (Rw rr) hp)⟩)
 .rename_i ds;have b3':=b3
  obtain⟨a,vs,rfl,ha,rr⟩:=b3.tup
  refine .inr ⟨a,vs,rfl,cz.of ha,λec=>?_,λp hp=>fin (bz.upd hp) (JZ S3 (Rw rr) hp)⟩;have rc:=Rw (lo:=l) (hi:=h) rr;rw[ec] at rc;refine fin (bz.refl _ _) ⟨S3,a,vs,rfl,Ga S3 ha,rc⟩
end
def vz(T:gR)(ft:FT)(fk fv:FE)(fs:En):List aA->List (aA×aA)->Ce->Option (List (aA×aA)×Ce)
 |[],acc,C=>aj (acc,C)
 |d::r,acc,C=>match sO T d with
  |some ts=>match ft (cO ts++fs) C with
   |some (false,C1)=>vz T ft fk fv fs r acc C1
   |some (true,C1)=>match fk (cO ts++fs) C1 with
    |some (.im k,_,C2)=>match fv (cO ts++fs) C2 with
     |some (x,_,C3)=>match still x,gK k with
      |.im y,some kk=>if acc.length<gU then vz T ft fk fv fs r (qO gK kk k y acc) C3 else ao
      |_,_=>ao
     |none=>ao
    |_=>ao
   |none=>ao
  |none=>ao
def zm:List (aA×aA)->Bool
 |[]=>au
 |p::r=>jP p.2&&zm r
def xT(fi:FI)(T:gR)(ft:FT)(fk fv:FE)(js:List Nat):FE:=λenv C=>match fi env C with
 |some (its,e1,C1)=>match vz T ft fk fv (frB js e1) its [] C1 with
  |some (kvs,C2)=>aj (.ow (.dict kvs),if zm kvs then e1 else ig js e1,C2)
  |none=>ao
 |none=>ao
theorem jq.jP(t:∀a vs,H a=aj (.tup vs)->H' a=aj (.tup vs)):∀{ds:List (aA×aA)}{vs:List V},zm ds=au->jq H ds vs->jq H' ds vs
 |[],_,_,h=>h
 |(k,d)::ds,vs,n,h=>by
  obtain⟨v,r,e,q,w⟩:=h
  have n':L2.jP d=au/\zm ds=au:=by rw[zm,jl] at n;exact n
  exact⟨v,r,e,RZ.jP t n'.1 q,jq.jP t n'.2 w⟩
def TQ(fk fv:FE):En->List (aA×aA)->Ce->Option (List (aA×aA)×Ce):=λenv acc C=>(fk env C).bind λp=>(sI p.1).bind λk=>(fv env p.2.2).bind λq=>(sI (still q.1)).bind λy=>(gK k).bind λkk=>bif decide (acc.length<gU) then aj (qO gK kk k y acc,q.2.2) else ao
theorem Rx:∀{its:List aA}{acc:List (aA×aA)}{C:Ce},vz T ft fk fv fs its acc C=aj p->um T ft (TQ fk fv) fs its acc C=aj p
 |[],acc,C,h=>h
 |d::r,acc,C,h=>by
  unfold vz at h;unfold um;split at h
  case h_2=>cases h
  rename_i ts ht;rw[ht,j4];split at h
  case h_3=>cases h
  .rename_i C1 hf;rw[hf,j4];exact Rx h
  .rename_i C1 hf;rw[hf,j4]
   show(TQ fk fv (cO ts++fs) acc C1).bind _=_
   unfold TQ;split at h
   case h_2=>cases h
   rename_i k e2 C2 hk;rw[hk,j4,show sI (.im k)=aj k from rfl,j4];split at h
   case h_2=>cases h
   rename_i x e3 C3 hx;rw[hx,j4];split at h
   case h_2=>cases h
   rename_i y kk hy hkk;rw[hy,show sI (.im y)=aj y from rfl,j4,hkk,j4];split at h
   case isFalse=>cases h
   rename_i hl;rw[dZ hl];exact Rx h
inductive Li(P:List az)(D:az)(acc:List (aA×aA))(H:Hp):Prop
 |mk (ks:List Key) (vs:List V) (hk:dR gK acc=aj ks) (hD:H D=aj (.dK (ks.zip vs))) (r:jq (er P H) acc vs):Li P D acc H
theorem aaK{K:aJ}{fi:FI}{T:gR}{ft:FT}{fk fv:FE}{js:List Nat}:∀σ H Q,tE K (xT fi T ft fk fv js) σ H Q->Uy K (tI K au fi) T (λ_=>fO K ft) (λ_=>tE K fk) (λ_=>tE K fv) js σ H Q:=by
 rintro σ H Q ⟨Z,Θ,env,C,res,env',C',S,hf,q⟩;unfold xT at hf;split at hf
 case h_2=>cases hf
 rename_i its e1 C1 h1;split at hf
 case h_2=>cases hf
 rename_i kvs C2 h2;cases hf
 refine⟨Z,Θ,env,C,its,e1,C1,S,h1,λJ H1 k1 f1 S1 it D hD b=>?_⟩
 have qP:D∉Θ:=λm=>(S1.cell.dom D m).ne hD
 have Vb:D∈bw (kO D Z (ig js e1) σ) Θ [] []:=(oO (js:=js) rfl).mpr (.inl rfl);have Dk:∀a Hx Hy,bz Θ Hx Hy->Li (bw (kO D Z (ig js e1) σ) Θ [] []) D a Hx->Li (bw (kO D Z (ig js e1) σ) Θ [] []) D a Hy:=λa Hx Hy kk r=>by
  obtain⟨ks,vs,g1,g2,g3⟩:=r
  exact⟨ks,vs,g1,kk.keep _ _ g2 qP,g3.same (mj kk (λa m=>jM.mpr (.inr (.inl m))) λa m=>.inl m)⟩
 refine QL (a0:=[]) (Ob:=Li (bw (kO D Z (ig js e1) σ) Θ [] []) D) S1 it hD ⟨[],[],rfl,f9,rfl⟩ Dk (λa Hx r=>by obtain⟨ks,vs,_,e,_⟩:=r;exact⟨_,e,λ_ z=>nomatch z⟩) ?_ (Rx h2) λH2 ki ci r=>?_
 .intro ts acc C2 p vs H4 Q hs S4 k4 r4 hQ
  obtain⟨w,hfk,hs⟩:=jE hs
  obtain⟨kd,TV,hs⟩:=jE hs
  obtain⟨w2,hfv,hs⟩:=jE hs
  obtain⟨yd,sS,hs⟩:=jE hs
  obtain⟨kk,hkd,hs⟩:=jE hs
  have TV:=Gb TV;have sS:=Gb sS;cases hlt:decide (acc.length<gU) with
  |false=>rw[hlt] at hs;cases hs
  |true=>
  rw[hlt] at hs;cases hs
  refine⟨_,Θ,_,C2,w.1,w.2.1,w.2.2,S4,hfk,λy H5 k5 f5 R5=>?_⟩
  rw[TV] at R5;have S5:=S4.go k5 R5.1.cell
  refine⟨_,Θ,_,w.2.2,w2.1,w2.2.1,w2.2.2,S5,hfv,λz H6 k6 f6 R6=>?_⟩
  obtain⟨S6,r6⟩:=R6.rQ sS
  obtain⟨ks,vM,hks,hD6,r6'⟩:=Dk _ _ _ (k5.trans k6) r4
  have Vc:bL w2.2.1 (vs.map aj++frees js σ)=[]:=by
   have:=(Fz.own (σ:=vs.map aj++frees js σ) f6)
   rw[BR Kd] at this;exact ae0.mp this
  have e6:er (bw (kO D Z (ig js e1) σ) Θ w2.2.1 (vs.map aj++frees js σ)) H6=er (bw (kO D Z (ig js e1) σ) Θ [] []) H6:=rH λa=>by rw[oO (js:=js) Vc,oO (js:=js) rfl]
  rw[e6] at r6
  obtain⟨ks',vs',g3,g4,g5⟩:=J1 hkd r6 hks r6'
  have lt:=of_decide_eq_true hlt
  refine⟨ks.zip vM,kk,hD6,alo hkd R5.2,?_,hQ _ (Sg (Hy:=H6) hD ((k4.trans k5).trans k6)) (Jz qP S6.cell) ⟨ks',vs',g3,by rw[g5];exact f9,?_⟩⟩
  .rw[Nf,jR,yC hks];unfold gU at lt;lia
  .rw[Sd Vb];exact g4
 .obtain⟨ks,vM,hks,hDi,ri⟩:=r
  refine q _ H2 (k1.trans ki) ?_ ?_
  .split
   .exact f1
   .exact f1.trans (BP js e1)
  .refine⟨D,rfl,k1.none hD,?_⟩
   split
   .rename_i hn;have SD:=S1.Gm hD ki ⟨_,hDi,λ_ z=>nomatch z⟩ ci
    exact⟨SD,vM,.inl ⟨ks,hks,hDi⟩,ri.jP (λa vs e=>Ga SD (ir e)) hn⟩
   .refine⟨(S1.fz (BP js e1)).Gm hD ki ⟨_,hDi,λ_ z=>nomatch z⟩ ci,vM,.inl ⟨ks,hks,hDi⟩,?_⟩
    rw[rH (P':=bw (D::Z) Θ (ig js e1) σ) λa=>by rw[oO (js:=js) rfl];show _↔a∈D::bw Z Θ (ig js e1) σ;rw[bJ]] at ri;exact ri
section
variable{X:Cx}{NT NF:List Str}{js:List Nat}{kx vx tg iter:Expr}{ifs:List Expr}{T:gR}{fi:FI}{ft:FT}{fk fv:FE}{scope:jG}{pos:Pos}
theorem ami(B:nQ X NT NF js scope)(tk:m6 tg NT T)(hc:X.calm=au)(hu:X.A.units+1<gJ)(hi:PI X tg iter (tI X.K au fi))
  (hin:∀b,lK (X.bk (NT++NF) scope b) ifs (fO X.K ft)/\PE (X.bk (NT++NF) scope b) kx (tE X.K fk)/\PE (X.bk (NT++NF) scope b) vx (tE X.K fv))
  (hs:∀x,qZ iter X.env x=pure x:=by intro _;rfl):PE X (.DictComp kx vx [⟨tg,iter,ifs,0⟩] scope pos) (tE X.K (xT fi T ft fk fv js)):=(amd B tk hc hu hi hin hs).weak aaK
theorem ai0(B:nQ X NT NF js scope)(tk:m6 tg NT T)(hc:X.calm=au)(hu:X.A.units+1<gJ)(hi:PI X tg iter (tI X.K au fi))
  (hin:∀b,lK (X.bk (NT++NF) scope b) ifs (fO X.K ft)/\PE (X.bk (NT++NF) scope b) kx (tE X.K fk)/\PE (X.bk (NT++NF) scope b) vx (tE X.K fv))
  (hsw:wF (.DictComp kx vx [⟨tg,iter,ifs,0⟩] scope pos) (aj (.Name y pos')) spos.line X.env=pure au)(hN:X.N.Nodup)(hI:X.N[i]?=aj y)(hy:X.env.scope.names.lookup y=aj .local)
  (hs:∀x,qZ iter X.env x=pure x:=by intro _;rfl):PS X (.Assign [.Name y pos'] (.DictComp kx vx [⟨tg,iter,ifs,0⟩] scope pos) spos) (tS X.K (dJ i (xT fi T ft fk fv js))):=(aiA B tk hc hu hi hin hsw hN hI hy hs).weak (QK aaK)
end
section
variable{X:Cx}
def Ry:List aA->Option Vl
 |[.dict []]=>ao
 |[.dict ((k,v)::r)]=>match sr k with
  |some (b::sh)=>if r.length<63/\(((k,v)::r).all λp=>decide (sr p.1=aj (b::sh)))=au then aj (.ow (.list (qQ (((k,v)::r).map (·.1))))) else ao
  |_=>ao
 |_=>ao
theorem YM:∀{kvs:List (aA×aA)}{ks:List (List Key)},dR qI kvs=aj ks->(∀p∈kvs,sr p.1=aj sh)->kvs.map (·.1)=ks.map (λk=>.tuple (k.map lN))/\∀k∈ks,k.map bH=sh
 |[],ks,h,_=>by cases h;exact⟨rfl,λ_ m=>(nomatch m)⟩
 |(p,d)::kvs,ks,h,hs=>by
  unfold dR at h;split at h
  .rename_i k t h1 h2;cases h
   obtain⟨g1,g2⟩:=YM h2 λq m=>hs q (dB _ m)
   have hp:=hs (p,d) dj
   obtain⟨xs,rfl,hx⟩:∃xs,p=.tuple xs/\keysOf xs=aj k:=by
    have h1':qI p=aj k:=h1;cases p with
    |tuple xs=>exact⟨xs,rfl,h1'⟩
    |_=>cases h1'
   have hp:(keysOf xs).map (λks=>ks.map bH)=aj sh:=hp;rw[hx] at hp
   refine⟨by rw[cV,g1,JC hx];rfl,λk' m=>?_⟩
   rcases bJ.mp m with rfl|m
   .exact jb hp
   .exact g2 k' m
  .cases h
theorem ai1{K:aJ}:lM K (λxs H Q=>∃(d:az)(kvs:List (List Key×V))(b:Bool)(sh:List Bool),xs=[.ref d]/\H d=aj (.dT kvs)/\kvs.length<64/\(∀kv∈kvs,kv.1.map bH=b::sh)/\
  ∀(l:az)(rows:List Row),H l=ao->(rows.map (·.2)).Perm (kvs.map (·.1))->rows.map (·.2)=mF (kvs.map (·.1))->(∀r∈rows,H r.1=aj (.tup (r.2.map kV)))->Q (.ref l) (upd H l (.lst (rows.map λr=>V.ref r.1)))) Ry:=by
 intro Z Θ env C σ H xs ds res S b e Q q;unfold Ry at e;split at e
 .cases e
 .rename_i k0 v0 r0;split at e
  case h_2=>cases e
  rename_i b0 sh hsh;split at e
  case isFalse=>cases e
  rename_i hall;cases e;have hall':∀p∈(k0,v0)::r0,sr p.1=aj (b0::sh):=λd m=>of_decide_eq_true (jK.mp hall.2 d m)
  obtain⟨v,rfl,bb⟩:=qK b
  obtain⟨a,vs,rfl,da,r⟩:=bb.dct
  rcases da with⟨ks,h1,ha⟩|⟨ks,⟨ne,h2⟩,ha⟩
  .exfalso;unfold dR at h1;split at h1
   .rename_i k' t g1 g2;have g1:gK k0=aj k':=g1;cases k0<;>first|cases g1|skip
    all_goals cases hsh
   .cases h1
  .obtain⟨e1,e2⟩:=YM h2 hall'
   have lk:=yC h2;have lr:=JX r;have ez:(ks.zip vs).map (·.1)=ks:=by
    rw[List.map_fst_zip];rw[lk,lr];exact bT _
   refine⟨a,ks.zip vs,b0,sh,rfl,ha,?_,λkv m=>e2 kv.1 (M7 (a:=kv.1) (b:=kv.2) m).1,λl rows hn p hp hr=>?_⟩
   .rw[Nf,lk,lr,dD];lia
   .rw[ez] at hp;have ek:(((k0,v0)::r0).map (·.1)).map vq=ks:=by
     rw[e1,iK]
     refine(uK λk _=>?_).trans (Ip ks)
     show(keysOf (k.map lN)).getD []=k
     rw[JD];rfl
    have es:(rows.map λr=>Ed (r.2.map lN))=qQ (((k0,v0)::r0).map (·.1)):=by
     unfold qQ;rw[ek,<-hp,iK];rfl
    rw[<-es] at q;exact q _ _ (bz.upd hn) (qx S (QW λr m=>Ga S (hr r m)) hn)
 .cases e
theorem abE{K:aJ}{r r':List V->Hp->VK->Prop}{op op':List aA->Option Vl}(h:lM K r op)(h':lM K r' op'):lM K (λxs H Q=>r xs H Q\/r' xs H Q) (λds=>match op ds with|some z=>aj z|none=>op' ds):=by
 intro Z Θ env C σ H xs ds res S b e Q q;cases h1:op ds with
 |some z=>
  simp only[h1] at e;cases e;exact .inl (h Z Θ env C σ H xs ds _ S b h1 Q q)
 |none=>
  simp only[h1] at e;exact .inr (h' Z Θ env C σ H xs ds res S b e Q q)
end
def jX:List aA->List aA->List aA
 |x::xs,y::ys=>.tuple [x,y]::jX xs ys
 |_,_=>[]
theorem Rz:∀{xs ys:List aA}{i:Nat}{d:aA},(jX xs ys)[i]?=aj d->∃x y,xs[i]?=aj x/\ys[i]?=aj y/\d=.tuple [x,y]
 |[],_,i,d,h=>by simp[jX] at h
 |_::_,[],i,d,h=>by simp[jX] at h
 |x::xs,y::ys,0,d,h=>by
  simp[jX] at h
  exact⟨x,y,rfl,rfl,h.symm⟩
 |x::xs,y::ys,i+1,d,h=>by
  obtain⟨a,b,h1,h2,h3⟩:=Rz (i:=i) (by simpa[jX] using h)
  exact⟨a,b,by simpa using h1,by simpa using h2,h3⟩
theorem QZ:∀{xs ys:List aA},(jX xs ys).length=min xs.length ys.length
 |[],_=>by simp[jX]
 |_::_,[]=>by simp[jX]
 |x::xs,y::ys=>by simp[jX,QZ,Nat.succ_min_succ]
theorem aly{K:aJ}{P T:List az}{H:Hp}{a b:az}{ds es:List aA}{vs ws:List V}(ha:er T H a=aj (.lst vs))(hb:er T H b=aj (.lst ws))(r1:bW (er P H) ds vs)(r2:bW (er P H) es ws):xF P T H (Uz K a b) (jX ds es):=λi H2 P2 s1 s2 n=>by
 have h2:bK K H2 a vs:=bK.of (ir (s2 _ _ ha));have h3:bK K H2 b ws:=bK.of (ir (s2 _ _ hb))
 refine⟨λd hd=>?_,λhi=>⟨vs,ws,h2,h3,by rw[hi,QZ,jc r1,jc r2]⟩⟩
 obtain⟨x,y,e1,e2,rfl⟩:=Rz hd
 obtain⟨v,ev,rv⟩:=uc r1 e1
 obtain⟨w,ew,rw'⟩:=uc r2 e2
 refine⟨⟨vs,ws,h2,h3,?_⟩,λz H3 yl=>?_⟩
 .have l1:=(kj.mp ev).1;have l2:=(kj.mp ew).1;lia
 .obtain⟨p,v',w',hp,rfl,rfl,hh⟩:=yl
  obtain⟨g1,g2⟩:=hh vs ws h2 h3
  rw[ev] at g1;rw[ew] at g2;cases g1;cases g2;have sp:bD H2 (upd H2 p (.tup [v,w])):=bD.upd hp
  refine⟨sp,p,[v,w],rfl,?_,v,[w],rfl,rv.same (s1.trans (JT sp)),w,[],rfl,rw'.same (s1.trans (JT sp)),rfl⟩
  unfold er;rw[aY (λm=>n p m hp),f9]
section
variable{X:Cx}{tg e:Expr}
def TX:aA->Option (List aA)
 |.list ds=>aj ds
 |.tuple ds=>aj ds
 |_=>ao
def oY(f:FB):FI:=λenv C=>match f env C with
 |some (d,e1,C1)=>match TX d with
  |some its=>aj (its,e1,C1)
  |none=>ao
 |none=>ao
def Lj(f:FE):FI:=λenv C=>match f env C with
 |some (r,e1,C1)=>match still r with
  |.im d=>match TX d with
   |some its=>aj (its,e1,C1)
   |none=>ao
  |_=>ao
 |none=>ao
theorem rR(h:PE X e (fM X.K f)):PI X tg e (tI X.K au (oY f)):=((JN h).or (J6 h)).weak λσ H R aP=>by
 obtain⟨Z,Θ,env,C,its,env',C',S,hf,q⟩:=aP
 unfold oY at hf;split at hf
 .rename_i d e1 C1 h1;split at hf
  .rename_i ys hi;cases hf;cases d<;>first|cases hi|skip
   .refine .inl ⟨Z,Θ,env,C,_,env',C',S,h1,λv H1 k f S1 b=>?_⟩
    obtain⟨a,vs,rfl,ha,r⟩:=b
    exact⟨a,rfl,⟨vs,bK.of (ir ha)⟩,q _ H1 k f S1 (J2 ha r)⟩
   .refine .inr ⟨Z,Θ,env,C,_,env',C',S,h1,λv H1 k f S1 b=>?_⟩
    obtain⟨a,vs,rfl,ha,r⟩:=b
    exact⟨a,rfl,⟨vs,cz.of (ir ha)⟩,q _ H1 k f S1 (Kc ha r)⟩
  .cases hf
 .cases hf
theorem amj(h:PE X e (tE X.K f)):PI X tg e (tI X.K aD (Lj f)):=((JN h).or (J6 h)).weak λσ H R aP=>by
 obtain⟨Z,Θ,env,C,its,env',C',S,hf,q⟩:=aP
 unfold Lj at hf;split at hf
 .rename_i r e1 C1 h1;split at hf
  .rename_i d hd;split at hf
   .rename_i ys hi;cases hf;cases d<;>first|cases hi|skip
    .refine .inl ⟨Z,Θ,env,C,_,env',C',S,h1,λv H1 k f R=>?_⟩
     obtain⟨S1,a,vs,rfl,ha,r⟩:=R.rQ hd
     exact⟨a,rfl,⟨vs,bK.of (ir ha)⟩,q _ H1 k f S1 (J2 ha r)⟩
    .refine .inr ⟨Z,Θ,env,C,_,env',C',S,h1,λv H1 k f R=>?_⟩
     obtain⟨S1,a,vs,rfl,ha,r⟩:=R.rQ hd
     exact⟨a,rfl,⟨vs,cz.of (ir ha)⟩,q _ H1 k f S1 (Kc ha r)⟩
   .cases hf
  .cases hf
 .cases hf
theorem afi(hc:X.calm=au):je X (.builtin "sorted") (λxs H Q=>∃d:az,xs=[.ref d]/\H d=aj (.dK [])/\∀l,H l=ao->Q (.ref l) (upd H l (.lst []))):=by
 intro pins s σ H xs us Q I r h
 obtain⟨d,rfl,hd,q⟩:=h
 refine bF (Wk hc pins s σ (upd H d (.dT [])) [.ref d] us (λv H'=>∃l,v=.ref l/\H l=ao/\H'=upd (upd H d (.dT [])) l (.lst [])) (I.Lg hd) r ⟨d,[],au,[],rfl,f9,by decide,(λ_ m=>nomatch m),λl rows hl p _ _=>?_⟩) λu s' ⟨v,H',I',rv,l,ev,hl,eH⟩=>?_
 .have:rows=[]:=by
   cases rows with
   |nil=>rfl
   |cons _ _=>exact absurd p.length_eq (by simp)
  subst this
  refine⟨l,rfl,?_,rfl⟩
  by_cases z:l=d
  .subst z;rw[f9] at hl;cases hl
  .rw[dm z] at hl;exact hl
 .subst ev eH;have nd:d≠l:=rA hd hl;have e:upd (upd H d (.dT [])) l (.lst [])=upd (upd H l (.lst [])) d (.dT []):=by
   funext b;by_cases h1:b=l
   .subst h1;rw[f9,dm (fQ nd),f9]
   .rw[dm h1];by_cases h2:b=d
    .subst h2;rw[f9,f9]
    .rw[dm h2,dm h2,dm h1]
  rw[e] at I'
  exact⟨.ref l,_,I'.U0 (by rw[dm nd];exact hd),rv,q l hl⟩
def RB:List aA->Option Vl
 |[.dict []]=>aj (.ow (.list []))
 |_=>ao
theorem ai2{K:aJ}:lM K (λxs H Q=>∃d:az,xs=[.ref d]/\H d=aj (.dK [])/\∀l,H l=ao->Q (.ref l) (upd H l (.lst []))) RB:=by
 intro Z Θ env C σ H xs ds res S b e Q q;unfold RB at e;split at e
 case h_2=>cases e
 cases e
 obtain⟨v,rfl,bb⟩:=qK b
 obtain⟨a,vs,rfl,da,r⟩:=bb.dct
 rcases da with⟨ks,h1,ha⟩|⟨ks,⟨ne,_⟩,_⟩
 .cases h1
  exact⟨a,rfl,ha,λl hl=>q _ _ (bz.upd hl) (qx S rfl hl)⟩
 .exact absurd rfl ne
def qy(ds:List aA):Option Vl:=match Fe ds with
 |some z=>aj z
 |none=>match Ry ds with
  |some z=>aj z
  |none=>RB ds
abbrev abF(K:aJ):List V->Hp->VK->Prop:=λxs H Q=>Sq K xs H Q\/((∃(d:az)(kvs:List (List Key×V))(b:Bool)(sh:List Bool),xs=[.ref d]/\H d=aj (.dT kvs)/\kvs.length<64/\(∀kv∈kvs,kv.1.map bH=b::sh)/\
  ∀(l:az)(rows:List Row),H l=ao->(rows.map (·.2)).Perm (kvs.map (·.1))->rows.map (·.2)=mF (kvs.map (·.1))->(∀r∈rows,H r.1=aj (.tup (r.2.map kV)))->Q (.ref l) (upd H l (.lst (rows.map λr=>V.ref r.1))))\/∃d:az,xs=[.ref d]/\H d=aj (.dK [])/\∀l,H l=ao->Q (.ref l) (upd H l (.lst [])))
theorem Yd(hc:X.calm=au):je X (.builtin "sorted") (abF X.K):=ahf.or ((Wk hc).or (afi hc))
theorem ZM{K:aJ}:lM K (abF K) qy:=abE ahZ (abE ai1 ai2)
end
def Tf:FN:=λ_ _=>ao
theorem aki{P:bB}{w:bA}{K:aJ}{mg:Str->Option Value}{base:bh}{f:az}{fd:dH}{ps:List Str}:dG P w K mg base eY 0 f fd ps (spT K Tf):=by
 have no:∀vs H Q E,¬spT K Tf vs H Q E:=λvs H Q E ⟨_,_,_,_,_,_,_,_,h,_⟩=>nomatch h
 exact⟨λ_ _ _ _ h=>(no _ _ _ _ h).elim,λ_ _ _ _ _ _ _ _ _ _ _ _ _ h=>(no _ _ _ _ h).elim⟩
def su(i:Nat)(f:FB):FE:=λenv C=>match env[i]? with
 |some (some (.ce n))=>match f env C with
  |some (.int k,_,C1)=>match C1[n]? with
   |some ns=>match ie ns k with
    |some z=>aj (.im (.int z),env,C1)
    |none=>ao
   |none=>ao
  |_=>ao
 |_=>ao
theorem yN(ho:PE X o (uq i))(hk:PE X k (fM X.K f))(hs:JP k):PE X (.Subscript o k pos) (tE X.K (su i f)):=(S8 Rj ho hk hs).weak λσ H Q aP=>by
 obtain⟨Z,Θ,env,C,r,env',C',S,hf,q⟩:=aP
 unfold su at hf;split at hf
 case h_2=>cases hf
 rename_i n h0;split at hf
 case h_2=>cases hf
 rename_i z e1 C1 h1;split at hf
 case h_2=>cases hf
 rename_i ns hns;split at hf
 case h_2=>cases hf
 rename_i y hy;cases hf
 obtain⟨v,ev,a,rfl,hth⟩:=S.slot i _ h0
 refine⟨_,ev,Z,Θ,env,C,_,e1,C',S,h1,λw H1 k1 f1 S1 b1=>?_⟩
 have S2:=S.go k1 S1.cell;have ha:=S1.cell.at_ n a ns hth hns
 refine⟨a,_,z,.int y,rfl,b1,bK.of ha,?_,q _ H1 k1 (Fz.refl _) ⟨S2,rfl⟩⟩
 unfold ie at hy⊢;rw[bC];cases hj:n6 ns.length z with
 |none=>rw[hj] at hy;cases hy
 |some j=>
  rw[hj] at hy
  show(ns.map V.int)[j]?=_
  rw[jr,show ns[j]?=aj y from hy];rfl
def Bx(C:Ce)(b:Nat)(n:Int):Prop:=∃x y z:Int,C[b]?=aj [x,y,z]/\0<=x/\0<=y/\y<=3000000000/\0<=z/\z<=n
theorem Bx.mono(h:Bx C b n)(hm:n<=m):Bx C b m:=by
 obtain⟨x,y,z,h1,h2,h3,h4,h5,h6⟩:=h
 exact⟨x,y,z,h1,h2,h3,h4,h5,by lia⟩
theorem Kh{C:Ce}{b:Nat}{l l':List Int}(h:C[b]?=aj l):(C.set b l')[b]?=aj l':=by
 rw[DG,aZ rfl,aZ (kj.mp h).1]
theorem ZP{C C':Ce}(h:C'.length=C.length):C'.take C.length=C':=Vt (by lia)
theorem mul_eq(h:(-18446744073709551616<i/\i<18446744073709551616)\/(-18446744073709551616<j/\j<18446744073709551616)):pP (.int i) (.int j)=aj (.im (.int (i*j))):=by
 unfold pP;exact aZ h
theorem pow_eq(h0:0<=j)(h1:j<=1000000)(h2:i.natAbs<2^64):oR (.int i) (.int j)=aj (.im (.int (i^j.toNat))):=by
 unfold oR;exact aZ ⟨h0,h1,h2⟩
theorem mod_eq(h:0<j):rO (.int i) (.int j)=aj (.im (.int (i%j))):=by
 unfold rO;exact aZ h
theorem fdiv_eq(h:0<j)(h1:j<1073741824):By (.int i) (.int j)=aj (.im (.int (i / j))):=by
 unfold By;exact aZ ⟨h,h1⟩
theorem ZQ(I:Nat->En->Ce->Prop):∀{its:List aA}{env:En}{C:Ce}{k:Nat},I k env C->
  (∀i d env C,its[i]?=aj d->I (k+i) env C->∃e1 fl env' C',g d env=aj e1/\body e1 C=aj (fl,env',C')/\(fl=.nx\/fl=.ct)/\I (k+i+1) env' C')->
  ∃env' C',lG g body its env C=aj (.nx,env',C')/\I (k+its.length) env' C'
 |[],env,C,k,h,_=>⟨env,C,rfl,h⟩
 |d::r,env,C,k,h,st=>by
  obtain⟨e1,fl,anq,C1,h1,h2,h3,h4⟩:=st 0 d env C rfl h
  obtain⟨anr,C2,h5,h6⟩:=ZQ I (its:=r) (env:=anq) (C:=C1) (k:=k+1) h4 λi d' env C hd hi=>by
   have:=st (i+1) d' env C (by simpa using hd) (by rw[show k+(i+1)=k+1+i by lia];exact hi);rw[show k+(i+1)+1=k+1+i+1 by lia] at this;exact this
  refine⟨anr,C2,?_,by rw[dD,show k+(r.length+1)=k+1+r.length by lia];exact h6⟩
  unfold lG;rw[h1];simp only;rw[h2];rcases h3 with rfl|rfl<;>exact h5
theorem YQ(I:Nat->En->Ce->Prop)(h:I 0 env C)
  (st:∀i d env C,its[i]?=aj d->I i env C->∃e1 fl env' C',g d env=aj e1/\body e1 C=aj (fl,env',C')/\(fl=.nx\/fl=.ct)/\I (i+1) env' C'):
  ∃env' C',lG g body its env C=aj (.nx,env',C')/\I its.length env' C':=by
 have:=ZQ I (k:=0) h λi d env C hd hi=>by
  rw[Oh] at hi⊢;exact st i d env C hd hi
 rw[Oh] at this;exact this
theorem Q0(lo:Int)(n:Nat):(pW lo n).length=n:=by unfold pW;rw[bC,pD]
theorem RC{lo:Int}{n i:Nat}{d:aA}(h:(pW lo n)[i]?=aj d):d=.int (lo+i)/\i<n:=by
 unfold pW at h;rw[jr] at h;by_cases hi:i<n
 .rw[aee hi] at h
  exact⟨(jb h).symm,hi⟩
 .rw[Dv (by rw[pD];lia)] at h;cases h
theorem Ye(p:aA->Bool)(g:aA->aA):∀{its:List aA},(∀d∈its,∃ts,sO T d=aj ts/\ft (cO ts++fs) C=aj (p d,C)/\(p d=au->∃x e,fe (cO ts++fs) C=aj (x,e,C)/\still x=.im (g d)))->
  dU T ft fe fs its C=aj ((its.filter p).map g,C)
 |[],_=>rfl
 |d::r,h=>by
  obtain⟨ts,h1,h2,h3⟩:=h d dj
  have ih:=Ye p g (its:=r) λd m=>h d (dB _ m)
  unfold dU;simp only[h1];rw[h2];cases hp:p d with
  |true=>
   obtain⟨x,e,h4,h5⟩:=h3 hp
   simp only[h4,h5,ih,eF,hp,if_true,cV]
  |false=>
   simp only[ih,eF,hp];rfl
theorem YS(I:Nat->Ce->Prop)(R:Nat->aA->Prop):∀{its:List aA}{C:Ce}{k:Nat},I k C->(∀i d C,its[i]?=aj d->I (k+i) C->∃ts x e C' y,sO T d=aj ts/\fe (cO ts++fs) C=aj (x,e,C')/\still x=.im y/\R (k+i) y/\I (k+i+1) C')->
  ∃ys C',dU T cM fe fs its C=aj (ys,C')/\I (k+its.length) C'/\ys.length=its.length/\∀i y,ys[i]?=aj y->R (k+i) y
 |[],C,k,h,_=>⟨[],C,rfl,h,rfl,λi y e=>by simp at e⟩
 |d::r,C,k,h,st=>by
  obtain⟨ts,x,e,C1,y,h1,h2,h3,h4,h5⟩:=st 0 d C rfl h
  obtain⟨ys,C2,h6,h7,h8,h9⟩:=YS I R (its:=r) (C:=C1) (k:=k+1) h5 λi d' C hd hi=>by
   have:=st (i+1) d' C (by simpa using hd) (by rw[show k+(i+1)=k+1+i by lia];exact hi);rw[show k+(i+1)+1=k+1+i+1 by lia,show k+(i+1)=k+1+i by lia] at this;exact this
  refine⟨y::ys,C2,?_,by rw[dD,show k+(r.length+1)=k+1+r.length by lia];exact h7,by simp[h8],λi z hz=>?_⟩
  .unfold dU;simp only[h1,cM,h2,h3];rw[h6]
  .cases i with
   |zero=>simp at hz;subst hz;exact h4
   |succ i=>
    have:=h9 i z (by simpa using hz);rw[show k+(i+1)=k+1+i by lia];exact this
theorem abG(h0:0<=k)(h1:k<xs.length):∃x,ie xs k=aj x/\xs[k.toNat]?=aj x:=by
 have hk:k.toNat<xs.length:=by lia
 refine⟨xs[k.toNat],?_,iI hk⟩
 unfold ie n6;rw[aZ h0,aZ h1];exact iI hk
def Hh(z:Str):Bool:=z.cps.toList.all λc=>decide (97<=c)&&decide (c<=122)
def nameB(z:Str):Bool:=decide (1<=z.length)&&decide (z.length<=8)&&Hh z
abbrev abc:Str:=bZ "abcdefghijklmnopqrstuvwxyz"
theorem alz(r0:0<=r)(r1:r<26):ie abc.cps.toList r=aj (97+r.toNat):=by
 have h:∀k:Nat,k<26->ie abc.cps.toList (k:Int)=aj (97+k):=by decide +kernel
 have:=h r.toNat (by lia)
 rwa [Int.toNat_of_nonneg r0] at this
theorem Yg:∀(l:List Nat)(a:Array Nat),((l.map λc=>(⟨#[c]⟩:Str)).foldl (λacc p=>acc++(bZ "").cps++p.cps) a).toList=a.toList++l
 |[],a=>by simp
 |c::r,a=>by
  simp only[cV,DR];rw[Yg r];have e:(bZ "").cps=#[]:=by decide +kernel
  rw[e];simp
theorem ahg:∀(l:List Nat),(Txt.join (bZ "") (l.map λc=>(⟨#[c]⟩:Str))).cps.toList=l
 |[]=>by decide +kernel
 |c::r=>by
  show(((r.map λc=>(⟨#[c]⟩:Str))).foldl (λacc p=>acc++(bZ "").cps++p.cps) #[c]).toList=c::r
  rw[Yg r];rfl
theorem aaL:∀ys:List Nat,(ys.map ((λx:Str=>x.length) ∘ λc=>(⟨#[c]⟩:Str))).sum=ys.length
 |[]=>rfl
 |c::r=>by
  rw[cV,List.sum_cons,aaL r,dD];show 1+r.length=r.length+1;lia
theorem ah0{l:List Nat}(h1:1<=l.length)(h2:l.length<=8)(h3:∀c∈l,97<=c/\c<=122):nameB (Txt.join (bZ "") (l.map λc=>(⟨#[c]⟩:Str)))=au:=by
 have e:=ahg l;have e2:(Txt.join (bZ "") (l.map λc=>(⟨#[c]⟩:Str))).length=l.length:=by
  show(Txt.join (bZ "") (l.map λc=>(⟨#[c]⟩:Str))).cps.size=_
  rw[show l.length=(Txt.join (bZ "") (l.map λc=>(⟨#[c]⟩:Str))).cps.toList.length from congrArg wA e.symm];simp
 unfold nameB Hh;rw[e,e2];simp only[jl,decide_eq_true_eq,jK]
 exact⟨⟨h1,h2⟩,h3⟩
theorem acW(n:Nat):(Dt ao (aj 7) 1 n).length<=7:=by
 unfold Dt sliceRange;simp only[show(1:Int)>0 by decide,if_true,bC,pD];split<;>(try split)<;>(try split)<;>(try simp only[afT])<;>lia
theorem Q3(z:Str):(Txt.slice z ao (aj 7)).length<=7:=by
 unfold Txt.slice;split
 .rename_i h;have h2:(Dt ao (aj 7) 1 z.length).length=z.length:=by simpa using h
  have:=acW z.length;lia
 .show(((Dt ao (aj 7) 1 z.length).filterMap (z.cps[·]?)).toArray).size<=7
  rw[gB];exact ju (List.length_filterMap_le _ _) (acW _)
theorem akj(hc:c∈(Txt.slice z l u).cps.toList):c∈z.cps.toList:=by
 unfold Txt.slice at hc;split at hc
 .exact hc
 .have hc':c∈((Dt l u 1 z.length).filterMap (z.cps[·]?)):=by simpa using hc
  obtain⟨i,_,e⟩:=Mm.mp hc'
  have:=ad2 e;simpa using this
def lH(z:Str)(k:Nat):Str:=Txt.slice z ao (aj 7)++(⟨#[97+k]⟩:Str)
theorem Qk(z:Str)(k:Nat):(lH z k).cps.toList=(Txt.slice z ao (aj 7)).cps.toList++[97+k]:=by
 show((Txt.slice z ao (aj 7)).cps++#[97+k]).toList=_
 simp
theorem YT(h:nameB z=au)(hk:k<26):nameB (lH z k)=au:=by
 have hl:(lH z k).length=(Txt.slice z ao (aj 7)).length+1:=by
  show((Txt.slice z ao (aj 7)).cps++#[97+k]).size=_
  rw[aeH];rfl
 have:=Q3 z;unfold nameB Hh at h⊢;simp only[jl,decide_eq_true_eq,jK] at h⊢
 refine⟨⟨by lia,by lia⟩,λc hc=>?_⟩
 rw[Qk] at hc;rcases dF.mp hc with hc|hc
 .exact h.2 c (akj hc)
 .rw[jB.mp hc];lia
theorem ai3(h:lH z i=lH z j):i=j:=by
 have e:(lH z i).cps.toList=(lH z j).cps.toList:=by rw[h]
 rw[Qk,Qk] at e;have:=List.append_cancel_left e;simp at this;exact this
theorem ZR[DecidableEq α]:∀{l m:List α},l.Nodup->(∀x∈l,x∈m)->l.length<=m.length
 |[],_,_,_=>lz _
 |a::l,m,hn,hs=>by
  have hn':=kI.mp hn;have ha:=hs a dj;have ih:=ZR (m:=m.erase a) hn'.2 λx hx=>(ad8 (λ(e:x=a)=>hn'.1 (by rw[<-e];exact hx))).mpr (hs x (dB _ hx))
  rw[adO ha] at ih;have:0<m.length:=Ml ha;rw[dD];lia
theorem ai4(z:Str){zs:List Str}(h:zs.length<26):∃k,k<26/\lH z k∉zs:=by
 by_cases hx:∃k,k<26/\lH z k∉zs
 .exact hx
 .have all:∀x∈(gC 26).map (lH z),x∈zs:=λx hm=>by
   obtain⟨k,hk,rfl⟩:=ji.mp hm
   by_cases hm2:lH z k∈zs
   .exact hm2
   .exact absurd ⟨k,ql.mp hk,hm2⟩ hx
  have nd:((gC 26).map (lH z)).Nodup:=by
   rw[List.Nodup,xW];exact apv (λ{a b} hab e=>hab (ai3 e)) (List.nodup_range (n:=26))
  have:=ZR nd all;simp at this;lia
def Names(zs:List Str):Prop:=zs.Nodup/\∀z∈zs,nameB z=au
theorem ZS(z:Str)(zs:List Str):inD (.str z) (zs.map .str)=decide (z∈zs):=by
 unfold inD;rw[pF,af1];simp[List.any_eq_true,sE,toV]
theorem Q4(h:nameB z=au):1<=z.length/\z.length<=8/\∀c∈z.cps.toList,97<=c/\c<=122:=by
 unfold nameB Hh at h;simp only[jl,decide_eq_true_eq,jK] at h
 exact⟨h.1.1,h.1.2,h.2⟩
def Asc(z:Str):Prop:=∀c∈z.cps.toList,c<128
def oZ(n:Nat)(z:Str):Prop:=Asc z/\z.length<=n
theorem oZ.mono(h:oZ n z)(hm:n<=m):oZ m z:=⟨h.1,ju h.2 hm⟩
theorem oZ.line(h:oZ n z)(hn:n<=100000:=by lia):z.length<=bU:=ajP (m:=100000) (ju h.2 hn)
theorem oZ.slice(h:oZ n z)(l u:Option Int):oZ n (Txt.slice z l u):=by
 refine⟨λc hc=>?_,ju (Txt.slice_le z l u) h.2⟩
 unfold Txt.slice at hc;split at hc
 .exact h.1 c hc
 .have hc':c∈((Dt l u 1 z.length).filterMap (z.cps[·]?)):=by simpa using hc
  obtain⟨i,_,e⟩:=Mm.mp hc'
  refine h.1 c ?_;have:=ad2 e;simpa using this
theorem oZ.add(h:oZ n x)(g:oZ m y):oZ (n+m) (x++y):=by
 have e:(x++y).cps=x.cps++y.cps:=rfl
 refine⟨λc hc=>?_,?_⟩
 .rw[e] at hc;have:c∈x.cps.toList\/c∈y.cps.toList:=by simpa using hc
  exact this.elim (h.1 c) (g.1 c)
 .show(x++y).cps.size<=_
  rw[e,aeH];exact Nat.add_le_add h.2 g.2
theorem oZ.name(h:nameB z=au):oZ 8 z:=by
 unfold nameB Hh at h;simp only[jl,decide_eq_true_eq,jK] at h
 exact⟨λc hc=>by have:=h.2 c hc;lia,h.1.2⟩
def lX(zs:List Str)(ps:List (Str×Str)):Prop:=∀(i:Nat)(x:Str×Str),ps[i]?=aj x->zs[i]?=aj x.1/\(x.2=bZ ""\/∃j,j<i/\zs[j]?=aj x.2)
theorem lX.snoc(h:lX zs ps)(ha:zs[ps.length]?=aj a)(hb:b=bZ ""\/∃j,j<ps.length/\zs[j]?=aj b):lX zs (ps++[(a,b)]):=by
 intro i x e;by_cases hi:i<ps.length
 .rw[o8 hi] at e;exact h i x e
 .rw[o7 (by lia)] at e;by_cases h0:i-ps.length=0
  .rw[h0] at e;cases e;have:i=ps.length:=by lia
   subst this
   exact⟨ha,hb⟩
  .rw[Dv (by simp;lia)] at e;cases e
def fY(ps:List (Str×Str))(z:Str):Option Str:=(ps.find? λp=>decide (p.1=z)).map (·.2)
inductive Over(f:Str->Option Str):Str->List Str->Prop
 |stop {z:Str}:f z=ao->Over f z []
 |step {z y:Str} {r:List Str}:f z=aj y->Over f y r->Over f z (z::r)
structure Ln(e B:Nat)(d:aA):Prop where
 ant:d.showable=au
 deep:d.depth<=e
 len:d.shown.length<=B
theorem Ln.mono(h:Ln e B d)(he:e<=e')(hB:B<=B'):Ln e' B' d:=⟨h.ant,ju h.deep he,ju h.len hB⟩
abbrev kJ:=Int×Str×Int×Str×Int×Int
abbrev yO:=Int×Str×Str×Str×Int×Int×Int
abbrev rT:=Int×Str
abbrev dY:=Str×Int×List rT
def dI(r:kJ):aA:=.tuple [.int r.1,.str r.2.1,.int r.2.2.1,.str r.2.2.2.1,.int r.2.2.2.2.1,.int r.2.2.2.2.2]
def jO(r:yO):aA:=.tuple [.int r.1,.str r.2.1,.str r.2.2.1,.str r.2.2.2.1,.int r.2.2.2.2.1,.int r.2.2.2.2.2.1,.int r.2.2.2.2.2.2]
def j5(s:rT):aA:=.tuple [.int s.1,.str s.2]
def bQ(ss:List rT):aA:=.tuple (ss.map j5)
def cP(r:dY):aA:=.tuple [.str r.1,.int r.2.1,bQ r.2.2]
def eN(p:Str×Str):aA:=.tuple [.str p.1,.str p.2]
structure jF where
 ps:List (Str×Str)
 ranks:List kJ
 leaves:List yO
 rules:List dY
def di(h:jF):aA:=.tuple [.tuple (h.ps.map eN),.tuple (h.ranks.map dI),.tuple (h.leaves.map jO),.tuple (h.rules.map cP)]
structure BV(zs own:List Str)(r:kJ):Prop where
 num:0<=r.1/\r.1<=2000
 who:r.2.1∈zs
 rank:1<=r.2.2.1/\r.2.2.1<=9
 part:r.2.2.2.1∈own
 days:0<=r.2.2.2.2.1/\r.2.2.2.2.1<=r.2.2.2.2.2/\r.2.2.2.2.2<=99999
structure RG(zs own:List Str)(r:yO):Prop where
 num:0<=r.1/\r.1<=2000
 giver:r.2.1∈zs
 taker:r.2.2.1∈zs
 ne:r.2.1≠r.2.2.1
 part:r.2.2.2.1∈own
 days:0<=r.2.2.2.2.1/\r.2.2.2.2.1<=r.2.2.2.2.2.1/\r.2.2.2.2.2.1<=99999
 most:0<=r.2.2.2.2.2.2/\r.2.2.2.2.2.2<=1000000000
def alA(own:List Str)(s:rT):Prop:=1<=s.1/\s.1<=9/\(s.2=bZ ""\/s.2∈own)
structure BW(own:List Str)(r:dY):Prop where
 part:r.1∈own
 sum:0<=r.2.1/\r.2.1<=1000000000
 many:r.2.2.length<=6
 seats:∀s∈r.2.2,alA own s
structure u9(zs:List Str)(ps:List (Str×Str))(h:jF):Prop where
 parts:h.ps.Perm ps
 p8:ps.length<=8
 r20:h.ranks.length<=20
 Vd:h.leaves.length<=16
 xU:h.rules.length<=10
 ranks:∀r∈h.ranks,BV zs (ps.map (·.1)) r
 Ve:(h.ranks.map (·.1)).Pairwise (·<·)
 leaves:∀r∈h.leaves,RG zs (ps.map (·.1)) r
 lnd:(h.leaves.map (·.1)).Nodup
 rules:∀r∈h.rules,BW (ps.map (·.1)) r
 unlike:(h.rules.map λr=>(r.1,r.2.1)).Nodup
theorem Jc(h:nameB z=au):Oi z=au:=by
 unfold Oi;rw[Array.all_eq_true'];intro c hc;have:=(Q4 h).2.2 c (by simpa using hc);exact dZ (by lia)
theorem JG:∀{zs:List Str},(∀z∈zs,Oi z=au)->V4 (zs.map gM)=au/\Wm (zs.map gM)=0/\xu (zs.map gM)=au
 |[],_=>⟨by simp[V4],by simp[Wm],rfl⟩
 |z::zs,h=>by
  obtain⟨h1,h2,h3⟩:=JG λx hx=>h x (dB _ hx)
  refine⟨by simp[V4,afj,h z dj];simpa using h1,by simp only[cV,Wm,af2,h2];rfl,?_⟩
  show(au&&xu (zs.map gM))=au
  rw[h3];rfl
theorem XC{zs:List Str}(h:∀z∈zs,Oi z=au):lg (.list (zs.map gM))=au:=by
 obtain⟨h1,h2,_⟩:=JG h
 unfold lg;simp only[afj,h1,af2,h2];decide
theorem af3:∀{l:List α}{m:List β},m.Perm (l.map f)->∃l':List α,l'.Perm l/\m=l'.map f:=λ{l m} p=>by
 generalize e:l.map f=k at p;induction p generalizing l with
 |nil=>
  cases l with
  |nil=>exact⟨[],uM _,rfl⟩
  |cons _ _=>cases e
 |@cons x m k _ ih=>
  cases l with
  |nil=>cases e
  |cons a l=>
   rw[cV,Wn] at e
   obtain⟨l',p',rfl⟩:=ih e.2
   exact⟨a::l',p'.cons a,by rw[cV,e.1]⟩
 |swap x y m=>
  cases l with
  |nil=>cases e
  |cons a l=>
   cases l with
   |nil=>cases e
   |cons b l=>
    rw[cV,cV,Wn,Wn] at e
    obtain⟨e1,e2,e3⟩:=e
    exact⟨b::a::l,WL a b l,by rw[cV,cV,e1,e2,e3]⟩
 |trans _ _ ih1 ih2=>
  obtain⟨l2,p2,e2⟩:=ih2 e
  obtain⟨l1,p1,e1⟩:=ih1 e2.symm
  exact⟨l1,p1.trans p2,e1⟩
theorem tO(x:Str×Str)(ps:List (Str×Str))(z:Str):fY (x::ps) z=if x.1=z then aj x.2 else fY ps z:=by
 unfold fY;rw[wg];by_cases h:x.1=z
 .rw[dZ h,aZ h];rfl
 .rw[iU h,aY h]
theorem wC:∀{ps:List (Str×Str)}{z w:Str},(ps.map (·.1)).Nodup->(fY ps z=aj w↔(z,w)∈ps)
 |[],z,w,_=>by simp[fY]
 |x::ps,z,w,h=>by
  rw[cV,kI] at h;rw[tO];by_cases hz:x.1=z
  .rw[aZ hz,bJ];constructor
   .intro e;left;rw[<-hz,<-jb e]
   .rintro(e|e)
    .rw[<-e]
    .exact absurd (ji.mpr ⟨(z,w),e,hz.symm⟩) h.1
  .rw[aY hz,wC h.2,bJ];constructor
   .exact .inr
   .rintro(e|e)
    .exact absurd (by rw[<-e]) hz
    .exact e
theorem Yh(p:ps'.Perm ps)(h:(ps.map (·.1)).Nodup)(z:Str):fY ps' z=fY ps z:=by
 have h':(ps'.map (·.1)).Nodup:=(p.map (·.1)).nodup_iff.mpr h;cases e:fY ps z with
 |some w=>exact(wC h').mpr (p.mem_iff.mpr ((wC h).mp e))
 |none=>
  cases e':fY ps' z with
  |none=>rfl
  |some w=>
   have:=(wC h).mpr (p.mem_iff.mp ((wC h').mp e'));rw[e] at this;cases this
theorem Yi(h:lX zs ps):ps.map (·.1)=zs.take ps.length:=by
 apply aeA;intro i;rw[jr,aeo];cases e:ps[i]? with
 |none=>
  rw[aY (by have:=Vj.mp e;lia)];rfl
 |some x=>
  rw[aZ (kj.mp e).1,(h i x e).1];rfl
theorem Ek(hN:Names zs)(h:lX zs ps):(ps.map (·.1)).Nodup:=by
 rw[Yi h];exact hN.1.sublist (aew _ _)
theorem af4:nameB (bZ "")=aD:=by decide +kernel
theorem ahh(hN:Names zs)(h:lX zs ps)(hz:z∈ps.map (·.1)):nameB z=au:=by
 rw[Yi h] at hz;exact hN.2 z (List.mem_of_mem_take hz)
theorem Yj(hN:Names zs)(h:lX zs ps):fY ps (bZ "")=ao:=by
 cases e:fY ps (bZ "") with
 |none=>rfl
 |some w=>
  have:=(wC (Ek hN h)).mp e;have:=ahh hN h (ji.mpr ⟨_,this,rfl⟩);rw[af4] at this;cases this
def vQ(f:Str->Option Str):Nat->Str->List Str
 |0,_=>[]
 |n+1,z=>match f z with
  |none=>[]
  |some y=>z::vQ f n y
def up(ps:List (Str×Str))(z:Str):List Str:=vQ (fY ps) (ps.length+1) z
theorem JH(h:f z=ao):∀n,vQ f n z=[]
 |0=>rfl
 |n+1=>by unfold vQ;rw[h]
theorem ZV(h:f z=aj y)(n:Nat):vQ f (n+1) z=z::vQ f n y:=by
 rw[vQ,h]
theorem aaM:∀n z,(vQ f n z).length<=n
 |0,_=>bT 0
 |n+1,z=>by
  cases h:f z with
  |none=>rw[JH h];exact lz _
  |some y=>
   rw[ZV h,dD];exact Nat.succ_le_succ (aaM n y)
theorem aaN(hN:Names zs)(hP:lX zs ps):∀(n i:Nat),i<n->∀x,ps[i]?=aj x->Over (fY ps) x.1 (vQ (fY ps) n x.1)
 |0,_,h,_,_=>absurd h (M9 _)
 |n+1,i,h,x,hx=>by
  have e:fY ps x.1=aj x.2:=(wC (Ek hN hP)).mpr (pA hx);rw[ZV e];refine .step e ?_
  rcases(hP i x hx).2 with h2|⟨j,hj,h2⟩
  .rw[h2,JH (Yj hN hP)];exact .stop (Yj hN hP)
  .have hi:=(kj.mp hx).1;have hjl:j<ps.length:=by lia
   have g:=hP j ps[j] (iI hjl);have e2:ps[j].1=x.2:=by
    have:=g.1;rw[h2] at this
    exact(jb this).symm
   rw[<-e2];exact aaN hN hP n j (by lia) ps[j] (iI hjl)
theorem RJ(hN:Names zs)(hP:lX zs ps)(z:Str):Over (fY ps) z (up ps z):=by
 unfold up;cases e:fY ps z with
 |none=>
  rw[JH e];exact .stop e
 |some w=>
  obtain⟨i,hi,hx⟩:=Dw ((wC (Ek hN hP)).mp e)
  have:=aaN hN hP (ps.length+1) i (by lia) _ (iI hi);rw[hx] at this;exact this
theorem Over.det:∀{z:Str}{a b:List Str},Over f z a->Over f z b->a=b
 |_,_,_,.stop _,.stop _=>rfl
 |_,_,_,.stop h,.step g _=>by rw[h] at g;cases g
 |_,_,_,.step h _,.stop g=>by rw[h] at g;cases g
 |_,_,_,.step h r,.step g s=>by
  rw[h] at g;cases g;rw[Over.det r s]
theorem RK(hN:Names zs)(hP:lX zs ps)(h:fY ps z=aj w):up ps z=z::up ps w:=(RJ hN hP z).det (.step h (RJ hN hP w))
theorem aaO(h:fY ps z=ao):up ps z=[]:=JH h _
theorem alB(ps:List (Str×Str))(z:Str):(up ps z).length<=ps.length+1:=aaM _ _
def eE(l:List (Str×aA)):List (aA×aA):=l.map λp=>(.str p.1,p.2)
theorem Q5:∀l:List (Str×aA),dR gK (eE l)=aj (l.map λp=>.inr p.1)
 |[]=>rfl
 |p::l=>by
  rw[show eE (p::l)=(.str p.1,p.2)::eE l from rfl];unfold dR;rw[Q5 l];simp only[gK];rfl
theorem RL(x z:Str):(gK (.str x)=aj (.inr z))↔x=z:=by
 simp[gK]
theorem YW(z:Str):∀l:List (Str×aA),qJ gK (.inr z) (eE l)=(l.find? λp=>decide (p.1=z)).map (·.2)
 |[]=>rfl
 |p::l=>by
  show(if gK (.str p.1)=aj (.inr z) then aj p.2 else qJ gK (.inr z) (eE l))=_
  rw[wg];by_cases h:p.1=z
  .rw[aZ ((RL _ _).mpr h),dZ h];rfl
  .rw[aY (λe=>h ((RL _ _).mp e)),iU h,YW z l]
theorem ah1(l:List (Str×aA))(z:Str):wY (eE l) (.str z)=aj ((l.find? λp=>decide (p.1=z)).map (·.2)):=by
 show(if(dR gK (eE l)).isSome then aj (qJ gK (.inr z) (eE l)) else ao)=_
 rw[Q5,YW];rfl
theorem ai5(h:z∉l.map (·.1)):qO gK (.inr z) (.str z) d (eE l)=eE (l++[(z,d)]):=by
 unfold qO;rw[aY,eE,eE,yc]
 .rfl
 .rw[aeS,aes];intro p hp
  obtain⟨q,hq,rfl⟩:=ji.mp hp
  have:¬(gK (.str q.1)=aj (.inr z)):=λe=>h (ji.mpr ⟨q,hq,(RL _ _).mp e⟩)
  simpa using this
theorem ai6(ps:List (Str×Str))(g:Str×Str->α)(z:Str):((ps.map λp=>(p.1,g p)).find? λp=>decide (p.1=z)).map (·.2)=(ps.find? λp=>decide (p.1=z)).map g:=by
 rw[List.find?_map,afk];rfl
theorem nD(D:α->aA)(p:α->Bool)(g:α->aA):∀{l:List α},(∀a∈l,∃ts,sO T (D a)=aj ts/\ft (cO ts++fs) C=aj (p a,C)/\(p a=au->∃x e,fe (cO ts++fs) C=aj (x,e,C)/\still x=.im (g a)))->
  dU T ft fe fs (l.map D) C=aj ((l.filter p).map g,C)
 |[],_=>rfl
 |d::r,h=>by
  obtain⟨ts,h1,h2,h3⟩:=h d dj
  have ih:=nD D p g (l:=r) λd m=>h d (dB _ m)
  rw[cV];unfold dU;simp only[h1];rw[h2];cases hp:p d with
  |true=>
   obtain⟨x,e,h4,h5⟩:=h3 hp
   simp only[h4,h5,ih,eF,hp,if_true,cV]
  |false=>
   simp only[ih,eF,hp];rfl
theorem ah2(h:∀x∈l,0<=x):maxD 0 l=l.foldl max 0:=by
 cases l with
 |nil=>rfl
 |cons x l=>
  show l.foldl max x=l.foldl max (max 0 x);have:=h x dj;rw[show max 0 x=x by lia]
def eO(who:Str)(os:List Str)(day:Int)(r:kJ):Bool:=decide (r.2.1=who)&&(decide (r.2.2.2.1∈os)&&(decide (r.2.2.2.2.1<=day)&&decide (day<=r.2.2.2.2.2)))
def nJ(rk:List kJ)(who:Str)(os:List Str)(day:Int):Int:=((rk.filter (eO who os day)).map (·.2.2.1)).foldl max 0
section
variable{prog:bB}{w:bA}{A:bV}{E:Value->aG->Prop}{R:qD->aG->Prop}{s:aG}
theorem ah3(h:Q (.ref s.heap.objs.size) {s with heap:=s.heap.push (qN w)}):aL (model prog w) A (newSet (.type "set")) Q E s:=by
 unfold newSet Yc
 obtain⟨h0,g0,d0,t0,o0⟩:=s
 refine aB (aB (MN (aW ?_)));dsimp only;simp only[newObj];exact aB (wpAny_alloc (aW h))
theorem ah4{elt target iter:Expr}{ifs:List Expr}{rest:List Comprehension}{scope:jG}{pos:Pos}{it acc:Value}{env:Env}(h0:jT (model prog w) A (.compLoop (.SetComp elt (⟨target,iter,ifs,0⟩::rest) scope pos) 0 it acc env) R s)
  (h:aL (model prog w) A (Bt it) (λit' s'=>jT (model prog w) A (.compLoop (.SetComp elt (⟨target,iter,ifs,0⟩::rest) scope pos) 0 it' acc env) R s') (notedBy (model prog w) A env λx s'=>R (.error x) s') s):
  jT (model prog w) A (.compStart (.SetComp elt (⟨target,iter,ifs,0⟩::rest) scope pos) 0 it acc env) R s:=by
 refine codeAny_of_tree (show aL _ A ((compStart (.SetComp elt (⟨target,iter,ifs,0⟩::rest) scope pos) 0 it acc env).onRaise (λx=>do noteFrame x env;tW theWindowsPlace)) _ _ s from wpAny_notedAt ?_);unfold compStart
 refine(show aL _ A (ask >>= _) _ _ s from aB (MN (wpAny_ite ?_)))
 split
 .first
   |exact aB (aW (aW ⟨rfl,h0⟩))
   |exact aW ⟨rfl,h0⟩
 .first
   |exact aB (qp (aB (tG (aB (oN h (λit' s' h'=>aW ⟨rfl,h'⟩) λ_ _ x=>x)))))
   |exact aB (qp (show aL _ _ (tW iter.pos >>= _) _ _ s from aB (tG (aB (oN h (λit' s' h'=>aW ⟨rfl,h'⟩) λ_ _ x=>x)))))
variable{T:Type}[DecidableEq T]{knd:yh prog w T}
theorem agC(hk:knd.is k key=au)(hsc:key.scannable=au)(hS:nW knd s.heap a ks)(room:ks.length+1<qt)
  (h:∀h',uO a s.heap h'->nW knd h' a (lB ks k)->Q .none {s with heap:=h',toks:=s.toks+1}):aL (model prog w) A (call (.builtin "set.add") [.ref a,key]) Q E s:=by
 refine lQ F.slot_set_add hS.ty F.entry_set_add ?_ (F.args_set_add_2 _ _);unfold lW.«set.add» aoW;simp only[MT,bind_assoc];unfold apn setAdd;refine aB (aW ?_)
 try dsimp only
 refine aB (aW ?_)
 try dsimp only
 refine aB (jL (aB (knd.pyHash hk ?_)));refine ajW (knd:=knd) (s:={s with toks:=s.toks+1}) hk hsc hS room λ_ h' hsb hS'=>?_
 exact(show aL _ _ (ret jw) _ _ _ from aW ⟨_,rfl,h h' hsb hS'⟩)
end
theorem af5(elt gens scope pos):eval (.SetComp elt gens scope pos) env=NQ (.SetComp elt gens scope pos) scope env (firstIterPos gens pos) (newSet (.type "set")) (firstAsync gens) (firstIter gens env):=rfl
section
variable{P:bB}{w:bA}{T0:Type}[DecidableEq T0](knd:yh P w T0)(mk:T0->V)
abbrev SO(a:az)(ks:List T0):HO:=.ext λh=>nW knd h a ks
def Tg(D:az)(te:TE):TM:=λσ H Q=>te σ H λy H1=>∃ks k,H1 D=aj (SO knd D ks)/\y=mk k/\ks.length+1<qt/\Q (upd H1 D (SO knd D (lB ks k)))
theorem acf(x:nW knd h a ks):fH P w H h a (SO knd a ks):=
 ⟨x,let ⟨o,_,_,_,e,_⟩:=x;⟨o,e⟩,λ_ _ y e=>y.at e⟩
def tSC(K:aJ)(wi:TI)(T:gR)(ts:Bk->TT)(te:Bk->TE)(js:List Nat):TE:=λσ H Q=>wi σ H λJ H1=>∀D,H1 D=ao->∀b,xq K T (ts b) (Tg knd mk D (te b)) (frees js σ) J (upd H1 D (SO knd D [])) (Q (.ref D))
end
section
variable{X:Cx}{T0:Type}[DecidableEq T0]{knd:yh X.prog X.w T0}{mk:T0->V}{NT NF:List Str}{js:List Nat}{elt tg iter:Expr}{ifs:List Expr}{T:gR}{wi:TI}{ts:Bk->TT}{te:Bk->TE}{scope:jG}{pos:Pos}
theorem alC(hk:∀k v,RelV (mk k) v->knd.is k v=au/\v.scannable=au)(he:PE X elt t):PM X (do let v <-eval elt X.env;tW elt.pos;let _ <-call (.builtin "set.add") [.ref D,v]) (Tg knd mk D t):=by
 intro pins s σ H Q I h;refine aB (bF (he pins s σ H _ I h) λv s1 aP=>?_)
 obtain⟨y,H1,I1,r1,ks,k,hD,ey,hz,q⟩:=aP
 subst ey
 obtain⟨hS,_,_⟩:=I1.hok D _ hD
 obtain⟨k1,k2⟩:=hk _ _ r1
 refine aB (tG (aB (agC k1 k2 hS hz λh' same hS'=>?_)));refine aW ⟨_,?_,q⟩;exact Bg I1 (by rw[hD];exact nC) same (let ⟨o,_,_,_,e,_⟩:=hS';⟨o,e⟩) (acf knd hS')
theorem alD{pins:List (az×Obj)}{σ:St}{s2:aG}{H2:Hp}{cl:List (Str×az)}{it:az}{fp:List az}{tn:Nat->bh->Prop}{J:It}{Q:Hp->Prop}{RR:Value->az->qD->aG->Prop}{E:Value->aG->Prop}
  (hk:∀k v,RelV (mk k) v->knd.is k v=au/\v.scannable=au)(B:nQ X NT NF js scope)(tk:m6 tg NT T)(hc:X.calm=au)
  (hin:∀b,lK (X.bk (NT++NF) scope b) ifs (ts b)/\PE (X.bk (NT++NF) scope b) elt (te b))
  (q2:∀n c,cl.lookup n=aj c->X.env.cells.lookup n=aj c)(q3:∀y∈scope.names,y.2=.free->∃c,cl.lookup y.1=aj c)
  (I2:Inv X pins σ H2 s2)(TT:Turn X.prog X.w X.K tg J fp it tn)(st2:tn 0 s2.heap)(f2:∀b∈fp,jH X pins H2 b)
  (q:∀b,xq X.K T (ts b) (Tg knd mk s2.heap.objs.size (te b)) (frees js σ) J (upd H2 s2.heap.objs.size (SO knd s2.heap.objs.size [])) Q)
  (hR:∀C H' s' m,Inv X pins σ H' s'->jH X pins H' C->s'.heap.Ns C m->Q H'->RR (.ref s2.heap.objs.size) C (.ok .next) s'):
  aL (model X.prog X.w) X.A (newSet (.type "set")) (λacc s₃=>aL (model X.prog X.w) X.A (Wx scope X.env.globals cl [] X.env.qual ao .none (aj X.env)) (λcenv s₄=>
   jT (model X.prog X.w) X.A (.compStart (.SetComp elt [⟨tg,iter,ifs,0⟩] scope pos) 0 (.ref it) acc {cenv with scope:=relabel scope X.env}) (RR acc cenv.locals) s₄) E s₃) E s2:=by
 refine ah3 ?_;have hD:H2 s2.heap.objs.size=ao:=I2.hok.fresh (bT _);have I3:Inv X pins σ (upd H2 s2.heap.objs.size (SO knd s2.heap.objs.size [])) {s2 with heap:=s2.heap.push (qN X.w)}:=
  I2.laid (t':=s2.toks) (λb o e=>bR _ e) (bT _) (acf knd (alj (fV _ rfl)))
 have hsz:(s2.heap.push (qN X.w)).objs.size=s2.heap.objs.size+1:=tD ..;refine Vx B.cell (by intro y hy;simp at hy) (λh₁ hns₁ hsb₁=>?_) B.kind;have qT:∀b∈fp,b<s2.heap.objs.size:=λb hb=>by
  obtain⟨o,e,_⟩:=TT.obj 0 _ st2 b hb
  exact bN e
 have f3:∀b∈fp,jH X pins (upd H2 s2.heap.objs.size (SO knd s2.heap.objs.size [])) b:=λb hb=>⟨by rw[dm (dX (qT b hb))];exact(f2 b hb).1,(f2 b hb).2⟩
 have keep:∀b o,(s2.heap.push (qN X.w)).get? b=aj o->h₁.get? b=aj o:=λb o e=>hsb₁.extBut b o (dX (bN e)) (bR _ e)
 have xK:∀b∈fp,b<(s2.heap.push (qN X.w)).objs.size:=λb hb=>by have:=qT b hb;rw[hsz];exact vX this
 have I4:=I3.blk (s1:={s2 with heap:=h₁,toks:=s2.toks+([]:List (Str×Value)).length}) B q2 q3 f3 xK hns₁ keep rfl I2.bare;have xM:tn 0 h₁:=TT.keep 0 _ _ st2 λb _ o e=>keep b o (bR _ e)
 obtain⟨i1,i2⟩:=hin ⟨cl,(s2.heap.push (qN X.w)).objs.size,{s2 with heap:=s2.heap.push (qN X.w)},upd H2 s2.heap.objs.size (SO knd s2.heap.objs.size []),fp⟩
 have loop:jT (model X.prog X.w) X.A (.compLoop (.SetComp elt [⟨tg,iter,ifs,0⟩] scope pos) 0 (.ref it) (.ref s2.heap.objs.size) (Qu scope cl (s2.heap.push (qN X.w)).objs.size X.env))
   (RR (.ref s2.heap.objs.size) (s2.heap.push (qN X.w)).objs.size) {s2 with heap:=h₁,toks:=s2.toks+([]:List (Str×Value)).length}:=by
  refine Qv (X:=X.blk (NT++NF) scope cl (s2.heap.push (qN X.w)).objs.size {s2 with heap:=s2.heap.push (qN X.w)} (upd H2 s2.heap.objs.size (SO knd s2.heap.objs.size [])) fp)
   (T:=T) (fs:=frees js σ) (done:=Q) rfl (ahI elt tg iter ifs scope pos _ _ _) rfl rfl rfl tk rfl B.nd hc (λx hx=>Vy (B.tg x hx)) i1 (alC (X:=X.bk (NT++NF) scope _) (knd:=knd) hk i2) TT (λb hb=>?_) I4 xM (q _) λH' s' σ' J' qd=>?_
  .exact⟨(f3 b hb).1,dX (xK b hb),λhb2=>by
    rcases bJ.mp (I3.Br b hb2) with z|z
    .exact(f3 b hb).2.1 z
    .exact(f3 b hb).2.2.1 z,.inl hb,λx c e=>(f3 b hb).2.2.2.2.1 x c (q2 x c e),λp hp=>(nomatch(show p∈([]:List (az×Obj)) from hp))⟩
  .obtain⟨m,hn,_⟩:=J'.loc
   exact hR _ H' s' m (I3.Tc f3 J') (I3.vD (bT _) J'.free) hn qd
 exact ah4 loop (TT.self _ 0 _ _ _ xM loop)
theorem amk(hk:∀k v,RelV (mk k) v->knd.is k v=au/\v.scannable=au)(B:nQ X NT NF js scope)(tk:m6 tg NT T)(hc:X.calm=au)(hi:PI X tg iter wi)
  (hin:∀b,lK (X.bk (NT++NF) scope b) ifs (ts b)/\PE (X.bk (NT++NF) scope b) elt (te b))
  (hs:∀x,qZ iter X.env x=pure x:=by intro _;rfl):PE X (.SetComp elt [⟨tg,iter,ifs,0⟩] scope pos) (tSC knd mk X.K wi T ts te js):=by
 intro pins s σ H Q I h
 obtain⟨cl,hclos,q2,q3⟩:=Ep (env:=X.env) (scope:=scope) λy hy e=>I.ok.has y.1 (B.free y hy e)
 rw[af5];refine Hq (use:=ao) rfl hs hclos B.kind B.names (bF (hi pins s σ H _ I h) λv s1 h1=>bF h1 λitv s2 aP=>?_)
 obtain⟨it,fp,tn,J,H2,e,I2,TT,st2,f2,q⟩:=aP
 subst e;refine alD (Q:=λH'=>Q (.ref s2.heap.objs.size) H') (RR:=λacc C=>Jv (model X.prog X.w) X.A X.xe ao (EP X pins σ Q) acc C) hk B tk hc hin q2 q3 I2 TT st2 f2 (q _ (I2.hok.fresh (bT _))) λC H' s' m I' fC hn qd=>?_
 refine⟨m,hn,λh' sb=>⟨.ref s2.heap.objs.size,H',?_,rfl,qd⟩⟩
 exact I'.turned (t':=s'.toks) (λb o hb e=>(sb.2 b hb).trans e) fC.1 fC.2.1 fC.2.2.2.1 fC.2.2.2.2.1 fC.2.2.2.2.2
end
def abH{P:bB}{w:bA}(t:TE):TE:=λσ H Q=>t σ H λx H2=>∃D ks,x=.ref D/\H2 D=aj (SO (H9 P w) D ks)/\ks.length<64/\∀(D':az)(ns':List Str),H2 D'=ao->ns'.Perm ks->sortedS ns'=au->Q (.ref D') (upd H2 D' (.lst (ns'.map V.str)))
theorem ai7(hc:X.calm=au)(hl:PE X e t)(g1:Gl X "sorted")(m1:X.mg "sorted"=ao)
  (he:bG [e] X.env=(aD,eval e X.env)::bG [] X.env:=by rfl)(hpl:(iM pos1 (bG [] X.env)).any (·.1)=aD:=by rfl):PE X (.Call (.Name "sorted" p1) [e] [] pos1) (abH (P:=X.prog) (w:=X.w) t):=by
 intro pins s σ H Q I h;refine Ht (wR I g1 m1 (u:=.builtin "sorted") rfl (adz ?_ he hpl));rw[he];show aL _ _ (JM ((aD,eval e X.env)::iM pos1 (bG [] X.env))) _ _ s;refine VG (bF (hl pins s σ H _ I h) λv s1 ⟨y,H1,I1,r1,D,ks,ey,hD,h64,q⟩=>VM ?_);subst ey;cases r1
 obtain⟨⟨o,es,ep,t,ho,ex,hd,⟨ks',ek,pk⟩,hb,hf,tb⟩,_,_⟩:=I1.hok D _ hD
 obtain⟨e1,e2⟩:=aiM ek
 have few:es.size<64:=by
  rw[<-kZ,ek.len,pk.length_eq];lia
 refine ahb (Ok:=λout=>∃ns',StrsAre out ns'/\ns'.Perm ks/\sortedS ns'=au) (I1.ok.hd hc) ⟨o,ho,ex,hd,hf,tb⟩ few (λus pm B s2 a n P E' ho' hp=>?_) λD h' d tk c out ok ge kk gD=>?_
 .have hS:StrsAre us (us.map strOf):=strsAre_map us λv hv=>e2 v (pm.mem_iff.mp hv)
  refine list_sort_treeK strKind_oneLt ho' hS.keysOf (λv1 v2 rest e=>keyKind_strs (by rw[<-e];exact hS)) (by rw[pm.length_eq,bC,kZ];exact few) λst hp1 hp2=>?_
  obtain⟨ss',b1,b2,b3⟩:=sorted_out_str hS hp1 hp2
  exact hp _ ⟨ss',b1,b2.trans ((pm.map strOf).trans (by rw[e1];exact pk)),b3⟩
 .obtain⟨ns',a1,a2,a3⟩:=ok
  have hz:ns'.length<=bU:=by
   rw[a2.length_eq,jR];lia
  exact⟨.ref D,_,(I1.laid (o:=.lst (ns'.map V.str)) (t':=tk) kk ge ⟨by rw[bC];exact hz,out.toList,c,Qa a1,by simpa[seqObj] using gD⟩).drew d,rfl,q D ns' (I1.hok.fresh ge) a2 a3⟩
def Hi(fi:FI)(T:gR)(ft:FT)(fe:FE)(js:List Nat):FE:=λenv C=>match fi env C with
 |some (its,e1,C1)=>match dU T ft fe (frB js e1) its C1 with
  |some (ys,C2)=>match JF ys with
   |some l=>aj (.ow (.list l),env,C2)
   |none=>ao
  |none=>ao
 |none=>ao
def TY(fe:FE):En->List Str->Ce->Option (List Str×Ce):=λenv acc C=>(fe env C).bind λq=>(sI (still q.1)).bind λy=>(KR y).bind λz=>bif decide (acc.length<64) then aj (acc++[z],q.2.2) else ao
theorem RM:∀{its:List aA}{ys acc:List Str}{C:Ce},dU T ft fe fs its C=aj (ys.map .str,C')->acc.length+ys.length<=64->um T ft (TY fe) fs its acc C=aj (acc++ys,C')
 |[],ys,acc,C,h,_=>by
  cases ys with
  |cons _ _=>cases h
  |nil=>
  cases h;rw[lq];rfl
 |d::r,ys,acc,C,h,hl=>by
  unfold dU at h;unfold um;split at h
  case h_2=>cases h
  rename_i ts ht;rw[ht,j4];split at h
  case h_3=>cases h
  .rename_i C1 hf;rw[hf,j4];exact RM h hl
  .rename_i C1 hf;rw[hf,j4];split at h
   case h_2=>cases h
   rename_i x e2 C2 hx;split at h
   case h_2=>cases h
   rename_i y hy;split at h
   case h_2=>cases h
   rename_i zs C3 hz;cases ys with
   |nil=>cases h
   |cons w ys=>
   injection h with h
   injection h with h1 h2
   injection h1 with h1 h3
   subst h1 h2 h3;rw[dD] at hl
   show(TY fe (cO ts++fs) acc C1).bind _=_
   unfold TY;rw[hx,j4,hy,show sI (.im (.str w))=aj (.str w) from rfl,j4,show KR (.str w)=aj w from rfl,j4,dZ (by lia),show acc++w::ys=(acc++[w])++ys by rw[qg];rfl];exact RM hz (by rw[lO];show acc.length+1+_<=_;lia)
theorem akk{P:bB}{w:bA}{K:aJ}{fi:FI}{T:gR}{ft:FT}{fe:FE}{js:List Nat}:∀σ H Q,tE K (Hi fi T ft fe js) σ H Q->abH (P:=P) (w:=w) (tSC (H9 P w) V.str K (tI K au fi) T (λ_=>fO K ft) (λ_=>tE K fe) js) σ H Q:=by
 rintro σ H Q ⟨Z,Θ,env,C,res,env',C',S,hf,q⟩;unfold Hi at hf;split at hf
 case h_2=>cases hf
 rename_i its e1 C1 h1;split at hf
 case h_2=>cases hf
 rename_i ys C2 h2;split at hf
 case h_2=>cases hf
 rename_i l hs;cases hf;unfold JF at hs;split at hs
 case isFalse=>cases hs
 rename_i hl;split at hs
 case h_2=>cases hs
 rename_i ns hns;cases hs;have hys:=QX hns;subst hys;rw[bC] at hl
 refine⟨Z,Θ,env,C,its,e1,C1,S,h1,λJ H1 k1 f1 S1 it D hD b=>?_⟩
 have qP:D∉Θ:=λm=>(S1.cell.dom D m).ne hD
 refine QL (a0:=[]) (Ob:=λacc Hx=>Hx D=aj (SO (H9 P w) D (dedup acc))) S1 it hD f9 (λa Hx Hy kk r=>kk.keep _ _ r qP) (λa Hx r=>⟨_,r,λ_ z=>nomatch z⟩) ?_ (RM (acc:=[]) h2 (by rw[DW];lia)) λH2 ki ci r=>?_
 .intro ts acc C2 p vs H4 Q hs S4 k4 r4 hQ
  obtain⟨w,hfe,hs⟩:=jE hs
  obtain⟨yd,sS,hs⟩:=jE hs
  obtain⟨z,hz,hs⟩:=jE hs
  have sS:=Gb sS;have hz:=aj5 hz;subst hz;cases hlt:decide (acc.length<64) with
  |false=>rw[hlt] at hs;cases hs
  |true=>
  rw[hlt] at hs;cases hs
  refine⟨_,Θ,_,C2,w.1,w.2.1,w.2.2,S4,hfe,λy H5 k5 f5 R5=>?_⟩
  obtain⟨S5,r5⟩:=R5.rQ sS
  have lt:=of_decide_eq_true hlt;have ld:=Qg acc
  exact⟨dedup acc,z,k5.keep _ _ r4 qP,r5,by unfold qt;lia,hQ _ (Sg (Hy:=H5) hD (k4.trans k5)) (Jz qP S5.cell) (by rw[ag6];exact f9)⟩
 .have kk:=k1.trans ki;have ld:=Qg ns
  refine⟨D,dedup ns,rfl,r,by lia,λD' ns' hn p hp=>?_⟩
  rw[abD p hp];exact q _ _ (kk.trans (bz.upd hn)) (Fz.refl _) ((qx (S.go kk ci) (Zu _) hn).from kk)
theorem aml{X:Cx}{NT NF:List Str}{js:List Nat}{elt tg iter:Expr}{ifs:List Expr}{T:gR}{fi:FI}{ft:FT}{fe:FE}{scope:jG}{pos p1 pos1:Pos}(B:nQ X NT NF js scope)(tk:m6 tg NT T)(hc:X.calm=au)(g1:Gl X "sorted")(m1:X.mg "sorted"=ao)(hi:PI X tg iter (tI X.K au fi))
  (hin:∀b,lK (X.bk (NT++NF) scope b) ifs (fO X.K ft)/\PE (X.bk (NT++NF) scope b) elt (tE X.K fe))
  (hs:∀x,qZ iter X.env x=pure x:=by intro _;rfl)
  (he:bG [.SetComp elt [⟨tg,iter,ifs,0⟩] scope pos] X.env=(aD,eval (.SetComp elt [⟨tg,iter,ifs,0⟩] scope pos) X.env)::bG [] X.env:=by rfl)(hpl:(iM pos1 (bG [] X.env)).any (·.1)=aD:=by rfl):
  PE X (.Call (.Name "sorted" p1) [.SetComp elt [⟨tg,iter,ifs,0⟩] scope pos] [] pos1) (tE X.K (Hi fi T ft fe js)):=
 (ai7 hc (amk (knd:=H9 X.prog X.w) (mk:=V.str) (λk v r=>by obtain⟨t,rfl⟩:=r;exact⟨PySem.strKind_is _ _ _ _,rfl⟩) B tk hc hi hin hs) g1 m1 he hpl).weak akk
section
variable{X:Cx}{tg:Expr}
end
theorem anu(x:α)(r:List α):ie (x::r) 0=aj x:=wL (j:=0) rfl
theorem anv(a x:α)(r:List α):ie (a::x::r) 1=aj x:=wL (j:=1) rfl
theorem anw(a b x:α)(r:List α):ie (a::b::x::r) 2=aj x:=wL (j:=2) rfl
theorem anx(a b c x:α)(r:List α):ie (a::b::c::x::r) 3=aj x:=wL (j:=3) rfl
theorem anz(a b c d x:α)(r:List α):ie (a::b::c::d::x::r) 4=aj x:=wL (j:=4) rfl
theorem anA(a b c d e x:α)(r:List α):ie (a::b::c::d::e::x::r) 5=aj x:=wL (j:=5) rfl
theorem anB(a b c d e f x:α)(r:List α):ie (a::b::c::d::e::f::x::r) 6=aj x:=wL (j:=6) rfl
theorem amm(op:aA->aA->Option Vl)(fa fb:FB)(env:En)(C:Ce):bu op fa fb env C=(fa env C).bind λp=>(fb p.2.1 p.2.2).bind λq=>(op p.1 q.1).bind λr=>aj (r,rst r env q.2.1,q.2.2):=by
 unfold bu;rcases h:fa env C with _|⟨x,e1,C1⟩
 .rfl
 .rcases h2:fb e1 C1 with _|⟨y,e2,C2⟩
  .simp only[j4,h2];rfl
  .simp only[j4,h2];cases op x y<;>rfl
theorem amn(f:FE)(env:En)(C:Ce):aH f env C=(f env C).bind λp=>(dat p.1).map λd=>(d,p.2.1,p.2.2):=by
 unfold aH;rcases h:f env C with _|⟨x,e1,C1⟩<;>rfl
theorem anC(i:Nat)(env:En)(C:Ce):aO i env C=(env[i]?).bind λo=>o.bind λx=>(dat x).map λd=>(d,env,C):=by
 unfold aO;rcases env[i]? with _|(_|x)<;>rfl
theorem amo(f g:FT)(env:En)(C:Ce):vm f g env C=(f env C).bind λp=>if p.1 then g env p.2 else aj (aD,p.2):=by
 unfold vm;rcases h:f env C with _|⟨_|_,D⟩<;>rfl
theorem anD(f g:FT)(env:En)(C:Ce):ni f g env C=(f env C).bind λp=>if p.1 then aj (au,p.2) else g env p.2:=by
 unfold ni;rcases h:f env C with _|⟨_|_,D⟩<;>rfl
theorem amq(f:FT)(env:En)(C:Ce):gP f env C=(f env C).map λp=>(!p.1,p.2):=by
 unfold gP;rcases h:f env C with _|⟨b,D⟩<;>rfl
theorem anE(c:FT)(f g:FS)(env:En)(C:Ce):eX c f g env C=(c env C).bind λp=>if p.1 then f env p.2 else g env p.2:=by
 unfold eX;rcases h:c env C with _|⟨_|_,D⟩<;>rfl
theorem amr(c:FT)(f g:FE)(env:En)(C:Ce):Gz c f g env C=(c env C).bind λp=>if p.1 then f env p.2 else g env p.2:=by
 unfold Gz;rcases h:c env C with _|⟨_|_,D⟩<;>rfl
theorem Ky(op op':aA->aA->Option Vl)(fa fb fc:FB)(h1:fa env C=aj (x,e1,C1))(h2:fb e1 C1=aj (y,e2,C2))(h3:op x y=aj (.im (.bool a)))(h4:fc e2 C2=aj (z,e3,C2))(h5:op' y z=aj (.im (.bool b))):uv op op' fa fb fc env C=aj (.im (.bool (a&&b)),env,C2):=by
 unfold uv;simp only[h1,h2,h3];cases a with
 |false=>rfl
 |true=>simp only[h4,h5];rfl
theorem anF(d:aA)(e f:En):rst (.ow d) e f=f:=rfl
theorem alE(b:Bool)(e f:En):rst (.im (.bool b)) e f=e:=rfl
theorem ams(i:Int)(e f:En):rst (.im (.int i)) e f=e:=rfl
theorem amu(z:Str)(e f:En):rst (.im (.str z)) e f=e:=rfl
theorem anG(l r:List aA)(e f:En):rst (.im (.tuple (.list l::r))) e f=f:=rfl
theorem add_int(i j:Int):cL (.int i) (.int j)=aj (.im (.int (i+j))):=rfl
theorem sub_int(i j:Int):Ks (.int i) (.int j)=aj (.im (.int (i-j))):=rfl
theorem le_int(i j:Int):j7 (.int i) (.int j)=aj (.im (.bool (decide (i<=j)))):=rfl
theorem lt_int(i j:Int):vK (.int i) (.int j)=aj (.im (.bool (decide (i<j)))):=rfl
theorem ge_int(i j:Int):vL (.int i) (.int j)=aj (.im (.bool (decide (j<=i)))):=rfl
theorem gt_int(i j:Int):Gx (.int i) (.int j)=aj (.im (.bool (decide (j<i)))):=rfl
theorem eq_int(i j:Int):jW (.int i) (.int j)=aj (.im (.bool (i==j))):=rfl
theorem eq_bool(a b:Bool):jW (.bool a) (.bool b)=aj (.im (.bool (a==b))):=rfl
theorem ne_bool(a b:Bool):m9 (.bool a) (.bool b)=aj (.im (.bool (!(a==b)))):=rfl
theorem ne_int(i j:Int):m9 (.int i) (.int j)=aj (.im (.bool (!(i==j)))):=rfl
theorem amv(ds:List aA):mq [.list ds]=aj (.im (.int ds.length)):=rfl
theorem amw(ds:List aA):mq [.tuple ds]=aj (.im (.int ds.length)):=rfl
theorem anH(ds:List aA)(i:Int):dW (.tuple ds) (.int i)=(ie ds i).map .im:=rfl
theorem anI(ds:List aA)(i:Int):dW (.list ds) (.int i)=(ie ds i).map .im:=rfl
theorem add_l(h:xs.length+ys.length<=1000000):cL (.list xs) (.list ys)=aj (.ow (.list (xs++ys))):=aZ h
theorem uo{ds:List aA}{i:Nat}{d:aA}(h:ds[i]?=aj d):dW (.tuple ds) (.int i)=aj (.im d):=by
 simp only[dW,vP,wL h,lR]
theorem amx(h:jF):dW (di h) (.int 0)=aj (.im (.tuple (h.ps.map eN))):=uo (i:=0) rfl
theorem amy(h:jF):dW (di h) (.int 1)=aj (.im (.tuple (h.ranks.map dI))):=uo (i:=1) rfl
theorem amz(h:jF):dW (di h) (.int 2)=aj (.im (.tuple (h.leaves.map jO))):=uo (i:=2) rfl
theorem amA(h:jF):dW (di h) (.int 3)=aj (.im (.tuple (h.rules.map cP))):=uo (i:=3) rfl
theorem amB(r:kJ):dW (dI r) (.int 0)=aj (.im (.int r.1)):=uo (i:=0) rfl
theorem amC(r:kJ):dW (dI r) (.int 1)=aj (.im (.str r.2.1)):=uo (i:=1) rfl
theorem amD(r:kJ):dW (dI r) (.int 2)=aj (.im (.int r.2.2.1)):=uo (i:=2) rfl
theorem amE(r:kJ):dW (dI r) (.int 3)=aj (.im (.str r.2.2.2.1)):=uo (i:=3) rfl
theorem amF(r:kJ):dW (dI r) (.int 4)=aj (.im (.int r.2.2.2.2.1)):=uo (i:=4) rfl
theorem amG(r:kJ):dW (dI r) (.int 5)=aj (.im (.int r.2.2.2.2.2)):=uo (i:=5) rfl
theorem Ua(h0:-1000000<=m)(h1:m<=1000000)(a b:α):(if -(2^62)<=m/\m<2^62 then a else b)=a:=aZ (by lia)
theorem jj(en:En)(hk:xs.length=k)(he:xs.map aj++cA (n-xs.length) ao=en)(h:(body en C).map (λp=>(p.1,p.2.2))=aj (.rt r,C1))(hr:Gq C.length r=au)(hC:C1.length=C.length):fN k n body xs C=aj (r,C1):=by
 unfold fN;rw[aZ hk,he];cases hb:body en C with
 |none=>rw[hb] at h;cases h
 |some p=>
  rw[hb] at h
  obtain⟨fl,e1,C2⟩:=p
  have h:(fl,C2)=(Fl.rt r,C1):=jb h;injection h with h1 h2
  subst h1 h2;simp only[hr,if_true,ZP hC]
theorem letters(k:Int)(h0:0<=k)(h1:k<26):vP (.str abc) (.int k)=aj (.str ⟨#[97+k.toNat]⟩):=by
 have e:=alz h0 h1;have hl:abc.length<=gU:=by decide +kernel
 simp only[vP];rw[aZ hl,e];rfl
theorem Pn:∀zs:List Str,strsOf (zs.map gM)=aj zs
 |[]=>rfl
 |z::zs=>by
  show(match strsOf (zs.map gM) with|some t=>aj (z::t)|none=>ao)=_
  rw[Pn zs]
theorem Yk:∀ns:List Int,intsOf (ns.map uV)=aj ns
 |[]=>rfl
 |n::ns=>by
  show(match intsOf (ns.map uV) with|some t=>aj (n::t)|none=>ao)=_
  rw[Yk ns]
theorem ai8:abc.cps.toList=(gC 26).map (97+·):=by decide +kernel
theorem YX:chars abc=(gC 26).map λi=>.str ⟨#[97+i]⟩:=by
 unfold chars;rw[ai8,iK];rfl
theorem Ql:∀zs:List Str,iW (zs.map gM)=au
 |[]=>rfl
 |z::zs=>by
  show(au&&iW (zs.map gM))=au
  rw[Ql zs];rfl
theorem Yl:∀cs:List Nat,iW (cs.map λc=>gM ⟨#[c]⟩)=au
 |[]=>rfl
 |c::cs=>by
  show(au&&iW (cs.map λc=>gM ⟨#[c]⟩))=au
  rw[Yl cs];rfl
theorem Xo:∀cs:List Nat,strsOf (cs.map λc=>gM ⟨#[c]⟩)=aj (cs.map λc=>(⟨#[c]⟩:Str))
 |[]=>rfl
 |c::cs=>by
  show(match strsOf (cs.map λc=>gM ⟨#[c]⟩) with|some t=>aj (_::t)|none=>ao)=_
  rw[Xo cs];rfl
theorem ah5:(bZ "").length=0:=by decide +kernel
theorem ne_nil(zs:List Str)(hz:∀z∈zs,nameB z=au):m9 (.list (zs.map .str)) (.list [])=aj (.im (.bool (!zs.isEmpty))):=by
 have s1:lg (.list (zs.map gM))=au:=XC λz m=>Jc (hz z m)
 have n1:oA (.list (zs.map gM))=au:=(JG λz m=>Jc (hz z m)).2.2;have e:xP (.list (zs.map .str)) (.list [])=aj zs.isEmpty:=by
  show(if oA (.list (zs.map gM))&&oA (.list [])&&(lg (.list (zs.map gM))&&lg (.list [])) then aj (yr (.list (zs.map .str)) (.list [])) else ao)=_
  rw[n1,s1];cases zs<;>rfl
 simp only[m9,e,lR]
theorem akl{zs:List Str}{k:Int}(h0:0<=k)(h1:k<zs.length):∃z,z∈zs/\zs[k.toNat]?=aj z/\dW (.list (zs.map .str)) (.int k)=aj (.im (.str z)):=by
 obtain⟨x,e1,e2⟩:=abG (xs:=zs.map gM) h0 (by rw[bC];exact h1)
 rw[jr] at e2;cases hz:zs[k.toNat]? with
 |none=>rw[hz] at e2;cases e2
 |some z=>
  rw[hz] at e2;cases e2
  refine⟨z,pA hz,rfl,?_⟩
  simp only[dW,vP,e1,lR]
abbrev hEn(b:Nat)(zs:List Str)(ps:List (Str×Str))(own:List Str)(rk:List kJ)(lv:List yO)(ru:List (aA×aA))(v7 v8 v9 v10 v11 uD uE uF Dl uG uH uI:Option Vl):En:=
 [aj (.ce b),aj (.im (.list (zs.map .str))),aj (.ow (.list (ps.map eN))),aj (.ow (.list (own.map .str))),aj (.ow (.list (rk.map dI))),aj (.ow (.list (lv.map jO))),aj (.ow (.dict ru)),v7,v8,v9,v10,v11,uD,uE,uF,Dl,uG,uH,uI]
theorem ai9(r:Vl)(e:En):rst r e e=e:=by
 cases r<;>simp[rst]
theorem Ao:∀ss:List rT,iW (ss.map j5)=au
 |[]=>rfl
 |s::ss=>by
  show(au&&iW (ss.map j5))=au
  rw[Ao ss];rfl
theorem Kz(hk:xs.length=k)(he:xs.map aj++cA (n-xs.length) ao=en)(h:body en C=aj (.rt r,e1,C1))(hr:Gq C.length r=au)(hC:C1.length=C.length):fN k n body xs C=aj (r,C1):=by
 unfold fN;rw[aZ hk,he,h];simp only[hr,if_true,ZP hC]
theorem Qm:∀zs:List Str,(zs.map gM).all lZ=au
 |[]=>rfl
 |z::zs=>by
  rw[cV,HS,Qm zs];rfl
theorem RN(z:Str)(zs:List Str):pU (.str z) (.list (zs.map .str))=aj (.im (.bool (decide (z∈zs)))):=by
 have:inB (.str z) (.list (zs.map .str))=aj (inD (.str z) (zs.map .str)):=aZ (by rw[Qm];rfl);unfold pU;rw[this,ZS];rfl
theorem rF(x z:Str):jW (.str x) (.str z)=aj (.im (.bool (decide (x=z)))):=by
 have:(x==z)=decide (x=z):=by rw[pF];simp
 show aj (Vl.im (.bool (x==z)))=_;rw[this]
theorem aaP(x z:Str):m9 (.str x) (.str z)=aj (.im (.bool (!decide (x=z)))):=by
 have:(x==z)=decide (x=z):=by rw[pF];simp
 show aj (Vl.im (.bool (!(x==z))))=_;rw[this]
def fL(q:List (Str×Str)):List (Str×aA):=q.map λp=>(p.1,.str p.2)
theorem Q6:∀q,zm (eE (fL q))=au
 |[]=>rfl
 |x::q=>by
  show(au&&zm (eE (fL q)))=au
  rw[Q6 q];rfl
theorem Q7(q:List (Str×Str))(z:Str):wY (eE (fL q)) (.str z)=aj ((fY q z).map .str):=by
 rw[ah1];unfold fL fY;rw[ai6,afk];rfl
theorem YZ:∀l:List Int,iW (l.map uV)=au
 |[]=>rfl
 |x::l=>by
  show(au&&iW (l.map uV))=au
  rw[YZ l];rfl
theorem uW:∀(n:Nat),mC [.list (cA n (.bool au))]=aj (.im (.bool au))/\iW (cA n (.bool au))=au:=by
 intro n;have h:boolsOf (cA n (.bool au))=aj (cA n au)/\iW (cA n (.bool au))=au:=by
  induction n with
  |zero=>exact⟨rfl,rfl⟩
  |succ n ih=>
   rw[sX,sX]
   refine⟨?_,?_⟩
   .unfold boolsOf;rw[ih.1]
   .show(au&&iW (cA n (.bool au)))=au
    rw[ih.2];rfl
 refine⟨?_,h.2⟩
 unfold mC;simp only[h.1,lR];congr 3;rw[jK];intro b hb
 exact(List.mem_replicate.mp hb).2
def Bf(L:Nat)(C:Ce)(b k:Nat):Prop:=C.length=L/\∃x y z:Int,C[b]?=aj [x,y,z]/\0<=x/\0<=y/\y<=3000000000/\0<=z/\z+k<=900000
theorem Bf.mono(h:Bf L C b k)(hj:j<=k):Bf L C b j:=by
 obtain⟨l,x,y,z,h1,h2,h3,h4,h5,h6⟩:=h
 exact⟨l,x,y,z,h1,h2,h3,h4,h5,by lia⟩
theorem Bf.eq(h:Bf L C b k)(h':Bf L C' b' k'):C'.length=C.length:=h'.1.trans h.1.symm
theorem alF(C:Ce)(h0:0<=x)(h1:0<=y)(h2:y<=3000000000):Bf (C.length+1) (C++[[x,y,0]]) C.length 800000:=by
 refine⟨by simp,x,y,0,?_,h0,h1,h2,yq _,by lia⟩
 rw[o7 (bT _),Xk];rfl
inductive HE(b:Nat)(zs:List Str)(ps:List (Str×Str))(own:List Str)(rk:List kJ)(lv:List yO)(ru:List (aA×aA)):En->Prop
 |mk (v7 v8 v9 v10 v11 uD uE uF Dl uG uH uI:Option Vl):HE b zs ps own rk lv ru (hEn b zs ps own rk lv ru v7 v8 v9 v10 v11 uD uE uF Dl uG uH uI)
theorem amH(a c:Nat)(h:i<n):a+c*(n-i)=a+c*(n-(i+1))+c:=by
 rw[show n-i=(n-(i+1))+1 by lia,Nat.mul_add,Nat.mul_one,Nat.add_assoc]
theorem alG(a:Nat)(h:i<n):a+(n-i)=a+(n-(i+1))+1:=by lia
section
variable{prog:bB}{w:bA}{A:bV}{E:Value->aG->Prop}{s:aG}
theorem alH(hit:s.heap.IsTupleIter it t i)(ht:s.heap.IsTuple t its)(hx:its[i]?=aj x)
  (q:∀h',h'.IsTupleIter it t (i+1)->uO it s.heap h'->Q x {s with heap:=h'}):aL (model prog w) A (zM (.ref it)) Q E s:=by
 obtain⟨o,ho,hc,hd⟩:=id hit
 obtain⟨ol,hol,_,nl,hdl⟩:=ht
 unfold zM;refine aB (qW (name:=bZ "__next__") hit.typeIs Mf (lQ Mf hit.typeIs adG (show aL _ _ (field (.ref it) 0 >>= _) _ _ s from aB (oM ho hd (x:=.ref t) rfl ?_)) (adD _)));show aL _ _ (if(cY t==jw)=au then _ else _) _ _ s;rw[aY (show ¬((cY t==jw)=au) from iw)]
 refine(show aL _ _ (field (.ref it) 1 >>= _) _ _ s from aB (oM ho hd (x:=.int i 0) rfl (show aL _ _ (yu (.ref t) >>= _) _ _ s from aB (oJ hol hdl ?_))))
 simp only[zR,hx];refine aB (uN ho hd (by simp) (aW ⟨x,rfl,aW (q _ ⟨_,sW _ ho (Vv (Dy hd _)),(V0 ..).trans hc,?_⟩ (pB ..))⟩));rw[Dy hd];simp[iC]
theorem ahi(hh:A.handled=ao)(hit:s.heap.IsTupleIter it t i)(ht:s.heap.IsTuple t its)(hx:its[i]?=ao)
  (q:∀h' e,Ei it s.heap h'->(∃o,h'.get? e=aj o/\o.cls=.type "StopIteration")->E (.ref e) {s with heap:=h'}):aL (model prog w) A (zM (.ref it)) Q E s:=by
 obtain⟨o,ho,hc,hd⟩:=id hit
 obtain⟨ol,hol,_,nl,hdl⟩:=ht
 unfold zM;refine aB (qW (name:=bZ "__next__") hit.typeIs Mf (lQ Mf hit.typeIs adG (show aL _ _ (field (.ref it) 0 >>= _) _ _ s from aB (oM ho hd (x:=.ref t) rfl ?_)) (adD _)));show aL _ _ (if(cY t==jw)=au then _ else _) _ _ s;rw[aY (show ¬((cY t==jw)=au) from iw)]
 refine(show aL _ _ (field (.ref it) 1 >>= _) _ _ s from aB (oM ho hd (x:=.int i 0) rfl (show aL _ _ (yu (.ref t) >>= _) _ _ s from aB (oJ hol hdl ?_))))
 simp only[zR,hx];refine aB (qp (aB (uN ho hd (by simp) (show aL _ _ (FW (.type "StopIteration") [] >>= _) _ _ _ from aB ?_))));simp only[FW,Qy];refine aB (j0 (aB (m:=DY _ _) (Io (a:=jw) (by first|rfl|(simp only[DY];rfl)) (j0 ?_ (by size_fits)))) (by size_fits));simp only[Qz];refine aB (W8 ?_)
 first|rw[show A.in1.handled=ao from hh,] |rw[hh]
 exact aB (aW (Xy (q _ _ (((pB ..).extBut.push _).push _) ⟨_,fV _ rfl,rfl⟩)))
end
theorem Qn(hh:A.handled=ao)(it t:az)(ne:t≠it)(its:Array Value):Draws prog w A it [it,t] its.size (λi v=>its[i]?=aj v) (λi h=>h.IsTupleIter it t i/\h.IsTuple t its) where
 live:=λ_ _ st=>let ⟨o,ho,_⟩:=st.1;⟨o,ho⟩
 frame:=λ_ _ _ st k=>⟨let ⟨o,e,r⟩:=st.1;⟨o,k it (by simp) o e,r⟩,let ⟨o,e,r⟩:=st.2;⟨o,k t (by simp) o e,r⟩⟩
 item:=λi s Q E hi st q=>alH st.1 st.2 (x:=its[i]) (by simp[hi]) λh' a b=>q _ h' s.toks (by simp[hi]) ⟨a,st.2.extBut b.extBut ne⟩ b
 done:=λs Q E st q=>ahi hh st.1 st.2 (by simp) q
section
variable{prog:bB}{w:bA}{A:bV}{E:Value->aG->Prop}{s:aG}{z TI TO i1 i2 l1 l2:az}{f1 f2:List az}{n:Nat}{P1 P2:Nat->Value->Prop}{S1 S2:Nat->bh->Prop}
theorem akm(D:Qw z TI TO i1 i2 l1 l2)(D1:Draws prog w A.in1 i1 [i1,l1] n P1 S1)(D2:Draws prog w A.in1 i2 [i2,l2] n P2 S2)(hi:i<n)
  (hz:qH s.heap z TI TO .none)(hI:mR s.heap TI (.ref i1) (.ref i2))(hO:mR s.heap TO a b)(h1:S1 i s.heap)(h2:S2 i s.heap)
  (q:∀h' tk x y T,P1 i x->P2 i y->s.heap.objs.size<=T->qH h' z TI TO (iC T)->mR h' TO x y->S1 (i+1) h'->S2 (i+1) h'->mR h' T x y->(∀c o,c∉[z,TO,i1,i2]->s.heap.get? c=aj o->h'.get? c=aj o)->Q (aj (.ref T)) {s with heap:=h',toks:=tk}):
  aL (model prog w) A (jn (.ref z)) Q E s:=by
 have hT:s.TypeIs (.ref z) "zip":=⟨_,hz,rfl⟩
 have k1:∀{h h':bh}{c:az}{j:Nat},c≠i1->c≠l1->Ei c h h'->S1 j h->S1 j h':=λ{h h' c j} e1 e2 k st=>D1.frame _ _ _ st λb hb o e=>k b o (λz=>by subst z;simp at hb;rcases hb with hb|hb;exact e1 hb;exact e2 hb) e
 have k2:∀{h h':bh}{c:az}{j:Nat},c≠i2->c≠l2->Ei c h h'->S2 j h->S2 j h':=λ{h h' c j} e1 e2 k st=>D2.frame _ _ _ st λb hb o e=>k b o (λz=>by subst z;simp at hb;rcases hb with hb|hb;exact e1 hb;exact e2 hb) e
 unfold jn;refine aB (yj (qW (name:=bZ "__next__") hT Ng (lQ Ng hT ae1 ?_ (aeI _))))
 refine(show aL _ _ (field (.ref z) 2 >>= _) _ _ _ from aB (oM hz rfl (x:=.bool aD) rfl (show aL _ _ (field (.ref z) 3 >>= _) _ _ _ from aB (oM hz rfl (x:=.ref TI) rfl (aB (oJ hI rfl ?_))))))
 show aL _ _ (Ly (.ref z) >>= _) _ _ _;refine aB ?_;unfold Ly;refine aB (oM hz rfl (x:=.none) rfl (aW ?_));simp only[if_true];refine aB (qp (aB (oM hz rfl (x:=.ref TO) rfl (aB (Hu hz (by simp) λg1 z1 m1=>?_)))));replace z1:qH g1 z TI TO .ellipsis:=z1;refine aB ?_;simp only[ae2,afb,Wh,afl];refine aB (aB (Xa (show aL _ _ (zM (.ref i1) >>= _) _ _ _ from aB (D1.item i _ _ _ hi (k1 D.i1z.symm D.l1z.symm m1.extBut h1) λx g2 t2 px s2 m2=>aW ?_))));have o2:mR g2 TO a b:=m2.extBut _ _ D.TOi1 (m1.extBut _ _ D.TOz hO);refine aB (oJ o2 rfl (aB (ad9 o2 λg3 o3 m3=>aB (uU (aW ?_)))));replace o3:mR g3 TO x b:=o3;refine aB (aB (Xa (show aL _ _ (zM (.ref i2) >>= _) _ _ _ from aB (D2.item i _ _ _ hi (k2 D.TOi2 D.l2TO.symm m3.extBut (k2 D.i12 D.l2i1.symm m2.extBut (k2 D.i2z.symm D.l2z.symm m1.extBut h2))) λy g4 t4 py s4 m4=>aW ?_))));have o4:mR g4 TO x b:=m4.extBut _ _ D.TOi2 o3;refine aB (oJ o4 rfl (aB (ad9 o4 λg5 o5 m5=>aB (uU (aW (aW ?_))))));replace o5:mR g5 TO x y:=o5;refine aB (oJ o5 rfl (aB (wpAny_newTuple ?_)));have sz:g5.objs.size=s.heap.objs.size:=by rw[m5.1,m4.1,m3.1,m2.1,m1.1]
 have z5:qH g5 z TI TO .ellipsis:=m5.extBut _ _ D.TOz.symm (m4.extBut _ _ D.i2z.symm (m3.extBut _ _ D.TOz.symm (m2.extBut _ _ D.i1z.symm z1)));have keep:∀c o,c∉[z,TO,i1,i2]->s.heap.get? c=aj o->g5.get? c=aj o:=λc o hc e=>by
  simp only[bJ,iZ,or_false,not_or] at hc;exact m5.extBut _ _ hc.2.1 (m4.extBut _ _ hc.2.2.2 (m3.extBut _ _ hc.2.1 (m2.extBut _ _ hc.2.2.1 (m1.extBut _ _ hc.1 e))))
 have u1:S1 (i+1) g5:=k1 D.TOi1 D.l1TO.symm m5.extBut (k1 D.i12.symm D.l1i2.symm m4.extBut (k1 D.TOi1 D.l1TO.symm m3.extBut s2));have u2:S2 (i+1) g5:=k2 D.TOi2 D.l2TO.symm m5.extBut s4;have zl:z<g5.objs.size:=bN z5;show aL _ _ (ady (.ref z) (.ref g5.objs.size) >>= _) _ _ _;refine aB ?_;unfold ady;have z6:qH (g5.push {cls:=.type "tuple",data:=.seq #[x,y]}) z TI TO .ellipsis:=bR _ z5;refine aB (Hu z6 (by simp) λg7 z7 m7=>?_);replace z7:qH g7 z TI TO (iC g5.objs.size):=z7;refine Hu z7 (by simp) λg8 z8 m8=>?_
 replace z8:qH g8 z TI TO (iC g5.objs.size):=z8;have up:Ei z g5 g8:=λc o hc e=>m8.extBut _ _ hc (m7.extBut _ _ hc (bR _ e))
 refine aW ⟨_,rfl,aW ?_⟩;refine q g8 _ x y g5.objs.size px py (afX sz.symm) z8 (up _ _ D.TOz o5) (k1 D.i1z.symm D.l1z.symm up u1) (k2 D.i2z.symm D.l2z.symm up u2) ?_ λc o hc e=>up _ _ (λz=>hc (by simp[z])) (keep c o hc e)
 exact m8.extBut _ _ (tL zl) (m7.extBut _ _ (tL zl) (fV _ rfl))
theorem alI(D:Qw z TI TO i1 i2 l1 l2)(D1:Draws prog w A.in1 i1 [i1,l1] n P1 S1)(hz:qH s.heap z TI TO .none)(hI:mR s.heap TI (.ref i1) (.ref i2))(hO:mR s.heap TO a b)(h1:S1 n s.heap)
  (q:∀h',(∀c o,c∉[z,TO,i1,i2]->s.heap.get? c=aj o->h'.get? c=aj o)->Q ao {s with heap:=h'}):aL (model prog w) A (jn (.ref z)) Q E s:=by
 have hT:s.TypeIs (.ref z) "zip":=⟨_,hz,rfl⟩
 unfold jn;refine aB (yj (qW (name:=bZ "__next__") hT Ng (lQ Ng hT ae1 ?_ (aeI _))))
 refine(show aL _ _ (field (.ref z) 2 >>= _) _ _ _ from aB (oM hz rfl (x:=.bool aD) rfl (show aL _ _ (field (.ref z) 3 >>= _) _ _ _ from aB (oM hz rfl (x:=.ref TI) rfl (aB (oJ hI rfl ?_))))))
 show aL _ _ (Ly (.ref z) >>= _) _ _ _;refine aB ?_;unfold Ly;refine aB (oM hz rfl (x:=.none) rfl (aW ?_));simp only[if_true];refine aB (qp (aB (oM hz rfl (x:=.ref TO) rfl (aB (Hu hz (by simp) λg1 z1 m1=>?_)))));replace z1:qH g1 z TI TO .ellipsis:=z1;refine aB ?_;simp only[ae2,afb,Wh,afl];refine aB (aB (Xa (show aL _ _ (zM (.ref i1) >>= _) _ _ _ from aB (D1.done _ _ _ (D1.frame _ _ _ h1 λb hb o e=>m1.extBut b o (λz=>by subst z;simp at hb;rcases hb with hb|hb;exact D.i1z hb.symm;exact D.l1z hb.symm) e) λg2 x m2 hx=>?_))))
 obtain⟨ox,e1,e2⟩:=hx
 have z2:qH g2 z TI TO .ellipsis:=m2 _ _ D.i1z.symm z1;have nz:x≠z:=λy=>by subst y;rw[z2] at e1;cases e1;simp at e2
 refine Hu z2 (by simp) λg3 _ m3=>?_
 refine aB (MK (T:="StopIteration") (b:=au) ⟨ox,m3.extBut _ _ nz e1,e2⟩ Wy (aW (q _ λc o hc e=>?_)));simp only[bJ,iZ,or_false,not_or] at hc;exact m3.extBut _ _ hc.1 (m2 _ _ hc.2.2.1 (m1.extBut _ _ hc.1 e))
end
abbrev Dm(h:bh)(a:az):bh:=h.push {cls:=.type "tuple_iterator",data:=.fields #[.ref a,.int 0 0]}
abbrev Lp(h:bh)(a b:az):bh:=Dm (Dm h a) b
abbrev Lq(h:bh)(a b:az):bh:=(Lp h a b).push {cls:=.type "tuple",data:=.seq #[.ref h.objs.size,.ref (Dm h a).objs.size]}
abbrev Lr(h:bh)(a b:az):bh:=(Lq h a b).push {cls:=.type "tuple",data:=.seq #[.none,.none]}
abbrev Dp(h:bh)(a b:az):bh:=(Lr h a b).push {cls:=.type "zip",data:=.fields #[.none,.bool aD,.bool aD,.ref (Lp h a b).objs.size,.ref (Lq h a b).objs.size]}
theorem alJ(a b:az)(xs ys:Array Value):Meets (lW.«zip.__new__» ⟨[.type "zip",.ref a,.ref b],[]⟩) (λ_ R s=>s.heap.IsTuple a xs/\s.heap.IsTuple b ys/\R (.ok (.ret (.ref (Lr s.heap a b).objs.size))) {s with heap:=Dp s.heap a b}):=
 .of_wp λprog w A R s h=>by
  obtain⟨hp,g,d,tk,os⟩:=s;obtain⟨h1,h2,q⟩:=h
  have sub:=sub_zip;have t1:af6 (agD ⟨hp,g,d,tk,os⟩) a xs:=h1;have t2:af6 (agD ⟨Dm hp a,g,d,tk,os⟩) b ys:=apw h2 _;wp_walk using VF t1,VF t2
  exact⟨_,rfl,q⟩
theorem ah6(h1:s.heap.IsTuple a xs)(h2:s.heap.IsTuple b ys)
  (q:∀h',qH h' (s.heap.objs.size+4) (s.heap.objs.size+2) (s.heap.objs.size+3) .none->mR h' (s.heap.objs.size+2) (.ref s.heap.objs.size) (.ref (s.heap.objs.size+1))->mR h' (s.heap.objs.size+3) .none .none->h'.IsTupleIter s.heap.objs.size a 0->h'.IsTupleIter (s.heap.objs.size+1) b 0->
   (∀c o,s.heap.get? c=aj o->h'.get? c=aj o)->Q (.ref (s.heap.objs.size+4)) {s with heap:=h'}):aL (model prog w) A (call (.type "zip") [.ref a,.ref b]) Q E s:=by
 refine callType_new F.called_zip (by decide) (F.typeCall_zip_2 _ _) (F.newCall_zip_2 _ _) (λobj=>F.args_object_init_3 obj _ _) F.entry_zip_new (alJ a b xs ys) ⟨h1,h2,?_⟩;have z1:(Dm s.heap a).objs.size=s.heap.objs.size+1:=tD ..;have z2:(Lp s.heap a b).objs.size=s.heap.objs.size+2:=(tD ..).trans (by rw[z1]);have z3:(Lq s.heap a b).objs.size=s.heap.objs.size+3:=(tD ..).trans (by rw[z2]);have z4:(Lr s.heap a b).objs.size=s.heap.objs.size+4:=(tD ..).trans (by rw[z3]);have g5:(Dp s.heap a b).get? (Lr s.heap a b).objs.size=aj _:=fV _ rfl;have g4:(Dp s.heap a b).get? (Lq s.heap a b).objs.size=aj _:=bR _ (fV _ rfl);have g3:(Dp s.heap a b).get? (Lp s.heap a b).objs.size=aj _:=bR _ (bR _ (fV _ rfl));have g2:(Dp s.heap a b).get? (Dm s.heap a).objs.size=aj _:=bR _ (bR _ (bR _ (fV _ rfl)));have g1:(Dp s.heap a b).get? s.heap.objs.size=aj _:=bR _ (bR _ (bR _ (bR _ (fV _ rfl))));rw[z2,z3,z4] at g5;rw[z1,z2] at g3;rw[z3] at g4;rw[z1] at g2;show _/\_;rw[z4]
 exact⟨⟨_,g5,rfl⟩,q _ g5 g3 g4 ⟨_,g1,rfl,rfl⟩ ⟨_,g2,rfl,rfl⟩ λc o e=>bR _ (bR _ (bR _ (bR _ (bR _ e))))⟩
def Ub(K:aJ)(a b:az):It:=⟨λi H=>∃xs ys,cz K H a xs/\cz K H b ys/\xs.length=ys.length/\i<xs.length,
 λi H v H'=>∃p x y,H p=ao/\v=.ref p/\H'=upd H p (.tup [x,y])/\∀xs ys,cz K H a xs->cz K H b ys->xs[i]?=aj x/\ys[i]?=aj y,
 λi H=>∃xs ys,cz K H a xs/\cz K H b ys/\xs.length=ys.length/\i=xs.length⟩
theorem ah7{P:bB}{w:bA}{K:aJ}{es:List Expr}{k:Nat}{ps:Pos}{a b z TI TO i1 i2:az}(D:Qw z TI TO i1 i2 a b):
  Turn P w K (.Tuple es k ps) (Ub K a b) [z,TI,TO,i1,i2] z (λi h=>qH h z TI TO .none/\mR h TI (.ref i1) (.ref i2)/\(∃c d,mR h TO c d)/\h.IsTupleIter i1 a i/\h.IsTupleIter i2 b i) where
 mem:=by simp
 obj:=λi h st c hc=>by
  obtain⟨h1,h2,⟨_,_,h3⟩,⟨o4,e4,_,d4⟩,⟨o5,e5,_,d5⟩⟩:=st
  simp only[bJ,iZ,or_false] at hc;rcases hc with rfl|rfl|rfl|rfl|rfl
  .exact⟨_,h1,λv q=>by cases q⟩
  .exact⟨_,h2,λv q=>by cases q⟩
  .exact⟨_,h3,λv q=>by cases q⟩
  .exact⟨_,e4,λv q=>by rw[d4] at q;cases q⟩
  .exact⟨_,e5,λv q=>by rw[d5] at q;cases q⟩
 keep:=λi h h' st kk=>by
  obtain⟨h1,h2,⟨c,d,h3⟩,⟨o4,e4,r4⟩,⟨o5,e5,r5⟩⟩:=st
  exact⟨kk z (by simp) _ h1,kk TI (by simp) _ h2,⟨c,d,kk TO (by simp) _ h3⟩,⟨o4,kk i1 (by simp) _ e4,r4⟩,⟨o5,kk i2 (by simp) _ e5,r5⟩⟩
 item:=by
  intro X hP hw hK hc i pins s σ H E I hf st hg;subst hP hw hK
  obtain⟨xs,ys,ha,hb,hn,hi⟩:=hg
  obtain⟨its,r1,p1,_⟩:=I.tuple ha
  obtain⟨its2,r2,p2,_⟩:=I.tuple hb
  have l1:=r1.length;have l2:=r2.length;have hh:X.A.in1.handled=ao:=by simp[I.ok.hd hc]
  have D1:=Qn (prog:=X.prog) (w:=X.w) hh i1 a D.l1i1 its.toArray;have D2:Draws X.prog X.w X.A.in1 i2 [i2,b] its.toArray.size (λi v=>its2.toArray[i]?=aj v) (λi h=>h.IsTupleIter i2 b i/\h.IsTuple b its2.toArray):=by
   have:=Qn (prog:=X.prog) (w:=X.w) hh i2 b D.l2i2 its2.toArray;rw[show its.toArray.size=its2.toArray.size by simp;lia];exact this
  obtain⟨s1,s2,⟨c3,d3,s3⟩,s4,s5⟩:=st
  refine akm D D1 D2 (by simp;lia) s1 s2 s3 ⟨s4,p1⟩ ⟨s5,p2⟩ λh' tk x y T px py hT a1 a2 a3 a4 a5 kk=>⟨_,rfl,wpAny_letOwnedTupleGo_zip a1 λh2 z2 m2=>?_⟩
  have ltz:z<T:=nq (bN s1) hT;have ex:xs[i]?=aj (xs.getD i .non):=by
   have:i<xs.length:=hi;simp[nF,this]
  have ey:ys[i]?=aj (ys.getD i .non):=by
   have:i<ys.length:=by lia
   simp[nF,this]
  obtain⟨u1,hu1,q1⟩:=r1.get ex
  obtain⟨u2,hu2,q2⟩:=r2.get ey
  have e1:u1=x:=by
   have:its[i]?=aj x:=by simpa using px
   rw[hu1] at this;exact jb this
  have e2:u2=y:=by
   have:its2[i]?=aj y:=by simpa using py
   rw[hu2] at this;exact jb this
  subst e1 e2;have wf:∀c,c∈[z,TO,i1,i2]->jH X pins H c:=λc hc=>hf c (by simp at hc⊢;rcases hc with rfl|rfl|rfl|rfl<;>simp)
  have G5:H T=ao:=I.hok.fresh hT;have kT:mR h2 T u1 u2:=m2.extBut _ _ (tL ltz) a5
  refine⟨.ref T,upd H T (.tup [xs.getD i .non,ys.getD i .non]),I.JQ (t':=tk) (λc o hc e=>m2.extBut _ _ (λz=>hc (by simp[z])) (kk c o hc e)) wf (bD.upd G5) (λc o e n=>?_) (λc u e=>?_),rfl,⟨T,_,_,G5,rfl,rfl,λxs' ys' h1 h2=>?_⟩,?_,λc hc=>?_⟩
  .rw[dm]
   .exact n
   .intro z;subst z;exact absurd (bN e) (Er.mpr hT)
  .by_cases G6:c=T
   .subst G6;rw[f9] at e;cases e;exact .inr ⟨by show 2<=bU;decide,[u1,u2],.cons q1 (.cons q2 .nil),_,kT,rfl,_,rfl⟩
   .rw[dm G6] at e;exact .inl e
  .rw[I.PK h1 ha,I.PK h2 hb]
   exact⟨ex,ey⟩
  .have ltI:TI≠z:=D.TIz
   refine⟨z2,m2.extBut _ _ D.TIz (kk _ _ ?_ s2),⟨_,_,m2.extBut _ _ D.TOz a2⟩,a3.1.extBut m2.extBut D.i1z,a4.1.extBut m2.extBut D.i2z⟩
   simp only[bJ,iZ,or_false,not_or]
   exact⟨D.TIz,D.TITO,D.TIi1,D.TIi2⟩
  .rw[dm]
   .exact(hf c hc).1
   .intro e;subst e;have:c<s.heap.objs.size:=by
     simp only[bJ,iZ,or_false] at hc
     obtain⟨o4,e4,_⟩:=s4
     obtain⟨o5,e5,_⟩:=s5
     rcases hc with rfl|rfl|rfl|rfl|rfl
     .exact bN s1
     .exact bN s2
     .exact bN s3
     .exact bN e4
     .exact bN e5
    exact absurd this (Er.mpr hT)
 done:=by
  intro X hP hw hK hc i pins s σ H E I hf st hg;subst hP hw hK
  obtain⟨xs,ys,ha,hb,hn,hi⟩:=hg
  obtain⟨its,r1,p1,_⟩:=I.tuple ha
  have l1:=r1.length;have hh:X.A.in1.handled=ao:=by simp[I.ok.hd hc]
  have D1:=Qn (prog:=X.prog) (w:=X.w) hh i1 a D.l1i1 its.toArray
  obtain⟨s1,s2,⟨c3,d3,s3⟩,s4,s5⟩:=st
  have e:i=its.toArray.size:=by simp;lia
  subst e;have wf:∀c,c∈[z,TO,i1,i2]->jH X pins H c:=λc hc=>hf c (by simp at hc⊢;rcases hc with rfl|rfl|rfl|rfl<;>simp)
  exact alI D D1 s1 s2 s3 ⟨s4,p1⟩ λh' kk=>⟨rfl,I.JQ (t':=s.toks) kk wf (bD.refl H) (λ_ _ _ n=>n) λ_ _ e=>.inl e⟩
 self:=λ_ _ _ _ _ st h=>MJ st.1 h
def amI(K:aJ)(t:TA):TI:=λσ H R=>t σ H λvs H1=>∃a b xs ys,vs=[.ref a,.ref b]/\cz K H1 a xs/\cz K H1 b ys/\R (Ub K a b) H1
theorem akn{X:Cx}{es:List Expr}{k:Nat}{ps:Pos}{x y:Expr}{t:TA}{p pos:Pos}(hg:Gl X "zip")(hm:X.mg "zip"=ao)(ha:PA X [x,y] t)(hs:bG [x,y] X.env=[(aD,eval x X.env),(aD,eval y X.env)]:=by rfl)(hs2:bG [y] X.env=[(aD,eval y X.env)]:=by rfl):
  PI X (.Tuple es k ps) (.Call (.Name "zip" p) [x,y] [] pos) (amI X.K t):=by
 intro pins s σ H R I h;refine Call_ (wR I hg hm adY (LQ (bF (ha pos pins s σ H _ I h) λus s1 aP=>?_) (by rw[hs,hs2]) (by rw[hs2];rfl)))
 obtain⟨vs,H1,I1,r1,a,b,xs,ys,e,h1,h2,q⟩:=aP
 subst e;cases r1 with
 |cons r rr=>
  cases rr with
  |cons r' rr=>
   cases rr;cases r;cases r'
   obtain⟨its,v1,p1,_⟩:=I1.tuple h1
   obtain⟨its2,v2,p2,_⟩:=I1.tuple h2
   have UG:a<s1.heap.objs.size:=by obtain⟨_,e,_⟩:=p1;exact bN e
   have qT:b<s1.heap.objs.size:=by obtain⟨_,e,_⟩:=p2;exact bN e
   refine ah6 p1 p2 λh' g1 g2 g3 g4 g5 kk=>MJ g1 ?_
   have I2:Inv X pins σ H1 {s1 with heap:=h'}:=I1.kept (t':=s1.toks) kk
   refine⟨s1.heap.objs.size+4,[s1.heap.objs.size+4,s1.heap.objs.size+2,s1.heap.objs.size+3,s1.heap.objs.size,s1.heap.objs.size+1],_,_,H1,rfl,I2,ah7 (zipApart_new UG qT),⟨g1,g2,⟨_,_,g3⟩,g4,g5⟩,λc hc=>?_,q⟩
   refine I1.vD ?_ (I1.hok.fresh ?_)
   all_goals
    simp only[bJ,iZ,or_false] at hc;rcases hc with rfl|rfl|rfl|rfl|rfl<;>lia
theorem ako{K:aJ}{P T:List az}{H:Hp}{a b:az}{ds es:List aA}{vs ws:List V}(ha:er P H a=aj (.tup vs))(hb:er P H b=aj (.tup ws))(r1:bW (er P H) ds vs)(r2:bW (er P H) es ws)(hl:ds.length=es.length):xF P T H (Ub K a b) (jX ds es):=λi H2 P2 s1 s2 n=>by
 have h2:cz K H2 a vs:=cz.of (ir (s1 _ _ ha));have h3:cz K H2 b ws:=cz.of (ir (s1 _ _ hb));have l1:=jc r1;have l2:=jc r2
 refine⟨λd hd=>?_,λhi=>⟨vs,ws,h2,h3,by lia,by rw[hi,QZ];lia⟩⟩
 obtain⟨x,y,e1,e2,rfl⟩:=Rz hd
 obtain⟨v,ev,rv⟩:=uc r1 e1
 obtain⟨w,ew,rw'⟩:=uc r2 e2
 refine⟨⟨vs,ws,h2,h3,by lia,(kj.mp ev).1⟩,λz H3 yl=>?_⟩
 obtain⟨p,v',w',hp,rfl,rfl,hh⟩:=yl
 obtain⟨g1,g2⟩:=hh vs ws h2 h3
 rw[ev] at g1;rw[ew] at g2;cases g1;cases g2;have sp:bD H2 (upd H2 p (.tup [v,w])):=bD.upd hp
 refine⟨sp,p,[v,w],rfl,?_,v,[w],rfl,rv.same (s1.trans (JT sp)),w,[],rfl,rw'.same (s1.trans (JT sp)),rfl⟩
 unfold er;rw[aY (λm=>n p m hp),f9]
def zL:aA->Option (Bool×List aA)
 |.list xs=>aj (au,xs)
 |.tuple xs=>aj (aD,xs)
 |_=>ao
def K4:List aA->Option (List aA)
 |[x,y]=>(zL x).bind λp=>(zL y).bind λq=>if p.1=q.1/\(p.1=au\/p.2.length=q.2.length) then aj (jX p.2 q.2) else ao
 |_=>ao
theorem aaQ(xs ys:List aA):K4 [.list xs,.list ys]=aj (jX xs ys):=aZ (c:=au=au/\(au=au\/xs.length=ys.length)) (e:=ao) ⟨rfl,.inl rfl⟩
theorem akp(h:xs.length=ys.length):K4 [.tuple xs,.tuple ys]=aj (jX xs ys):=aZ (c:=aD=aD/\(aD=au\/xs.length=ys.length)) (e:=ao) ⟨rfl,.inr h⟩
theorem acg(h:zL x=aj (b,xs)):x=cond b (.list xs) (.tuple xs):=by
 cases x<;>first|(cases h;rfl)|cases h
theorem akq(h:K4 ds=aj l):∃xs ys,(ds=[.list xs,.list ys]\/ds=[.tuple xs,.tuple ys]/\xs.length=ys.length)/\l=jX xs ys:=by
 match ds,h with
 |[x,y],h=>
  obtain⟨⟨b,xs⟩,hx,h⟩:=xV.mp h
  obtain⟨⟨c,ys⟩,hy,h⟩:=xV.mp h
  rw[acg hx,acg hy];split at h
  .rename_i hc
   obtain⟨h1,h2⟩:=hc
   cases h
   cases(show b=c from h1)
   refine⟨xs,ys,?_,rfl⟩
   cases b with
   |true=>exact .inl rfl
   |false=>exact .inr ⟨rfl,h2.resolve_left iw⟩
  .cases h
def Dd(f:xN):FI:=λenv C=>(f env C).bind λp=>(K4 p.1).map λl=>(l,p.2)
theorem aaR(hg:Gl X "zip")(hm:X.mg "zip"=ao)(ha:PA X [x,y] (xO X.K f))(hs:bG [x,y] X.env=[(aD,eval x X.env),(aD,eval y X.env)]:=by rfl)(hs2:bG [y] X.env=[(aD,eval y X.env)]:=by rfl):
  PI X (.Tuple es k ps) (.Call (.Name "zip" p) [x,y] [] pos) (tI X.K au (Dd f)):=((alh hg hm ha hs hs2).or (akn hg hm ha hs hs2)).weak λσ H R aP=>by
 obtain⟨Z,Θ,env,C,its,env',C',S,hf,q⟩:=aP
 refine hide λGG gg=>?_
 obtain⟨⟨ds,e1,C1⟩,h1,h2⟩:=xV.mp hf
 obtain⟨l,h3,h4⟩:=zO.mp h2
 cases h4
 obtain⟨xs,ys,hd,rfl⟩:=akq h3
 rcases hd with rfl|⟨rfl,hl⟩
 .refine gg (.inl ⟨Z,Θ,env,C,_,env',C',S,h1,λvs H1 k f S1 b1=>?_⟩);refine hide λG2 g2=>?_
  obtain⟨_,_,rfl,b1,b2⟩:=Te b1
  obtain⟨a,vs1,rfl,ha,r1⟩:=b1
  obtain⟨b,vs2,rfl,hb,r2⟩:=b2
  exact g2 ⟨a,b,vs1,vs2,rfl,bK.of (ir ha),bK.of (ir hb),q _ H1 k f S1 (aly ha hb r1 r2)⟩
 .refine gg (.inr ⟨Z,Θ,env,C,_,env',C',S,h1,λvs H1 k f S1 b1=>?_⟩);refine hide λG2 g2=>?_
  obtain⟨_,_,rfl,b1,b2⟩:=Te b1
  obtain⟨a,vs1,rfl,ha,r1⟩:=b1
  obtain⟨b,vs2,rfl,hb,r2⟩:=b2
  exact g2 ⟨a,b,vs1,vs2,rfl,cz.of (ir ha),cz.of (ir hb),q _ H1 k f S1 (ako ha hb r1 r2 hl)⟩
def rJ:aA->aA->Option Vl
 |.list xs,.int n=>if 0<=n/\n<=1000/\xs.length<=1000 then aj (.ow (.list (cA n.toNat xs).flatten)) else ao
 |a,b=>pP a b
def ach:R2:=λx y H Q=>(rI Gw λi j=>.int (i*j)) x y H Q\/acI x y H Q
theorem Ft:cX X (nG .Mult) ach:=yH.or alc
theorem aaS(h:bW H ds vs):∀n,bW H (cA n ds).flatten (cA n vs).flatten
 |0=>rfl
 |n+1=>by
  rw[sX,sX,Dz,Dz];exact Bm h (aaS h n)
theorem Fv{K:aJ}:gA K ach rJ:=by
 intro Z Θ env C σ H x y dx dy res S bx dM e Q q;unfold rJ at e;split at e
 .rename_i xs n;split at e
  case isFalse=>cases e
  rename_i hn;cases e
  obtain⟨a,vs,rfl,ha,r1⟩:=bx.lst
  cases dM.int;have l1:=jc r1;refine .inr ⟨a,n,vs,rfl,rfl,ha,by lia,by lia,?_,λp hp=>q _ _ (bz.upd hp) (qx S (aaS r1 _) hp)⟩;rw[jR,l1];have:xs.length*n.toNat<=1000*1000:=Nat.mul_le_mul hn.2.2 (by lia);lia
 .exact .inl (yK Z Θ env C σ H x y dx dy res S bx dM e Q q)
section
variable{X:Cx}
end
section
variable{prog:bB}{w:bA}{A:bV}{E:Value->aG->Prop}{s:aG}{R:qD->aG->Prop}{I S:az}{fp wr:List az}{n:Nat}{Pv:Nat->Value->Prop}{St:Nat->bh->Prop}{bt:Nat->Nat->Bool}{HK:bh->Prop}
end
section
variable{X:Cx}
end
section
variable{prog:bB}{w:bA}{A:bV}{E:Value->aG->Prop}{s:aG}{r d:az}{kvs:List (Key×Value)}{ep:Nat}{b c:Bool}{Q:Value->aG->Prop}
end
def Bl(L:Nat)(C:Ce)(b k:Nat):Prop:=C.length=L/\∃x y z:Int,C[b]?=aj [x,y,z]/\0<=x/\0<=z/\z+k<=900000
theorem Bl.mono(h:Bl L C b k)(hj:j<=k):Bl L C b j:=by
 obtain⟨l,x,y,z,h1,h2,h5,h6⟩:=h
 exact⟨l,x,y,z,h1,h2,h5,by lia⟩
theorem Bl.eq(h:Bl L C b k)(h':Bl L C' b' k'):C'.length=C.length:=h'.1.trans h.1.symm
def n1(f s:Int)(k:Nat):Str:=⟨#[97+((f+s*k)%26).toNat]⟩
def v2(f s:Int)(k:Nat):Int:=(f+s*k)%676
def two(v:Int):Str:=(⟨#[97+(v / 26).toNat]⟩:Str)++(⟨#[97+(v%26).toNat]⟩:Str)
def n2(hd tl:Str)(f s:Int)(q:Nat->Int)(k:Nat):Str:=hd++two (v2 f s k)++Txt.slice tl ao (aj (q k))
def sl(z:Str)(n k:Nat):Str:=Txt.slice z (aj (k:Int)) (aj ((k:Int)+(n:Int)))
def sb(z:Str)(n:Nat):List Str:=(gC (8-n)).map (sl z (n+1))
end L2
namespace L2
section
variable{β:Type}[DecidableEq β]{ws:List (Int×β×β)}{s:β}
inductive oG(ws:List (Int×β×β)):β->List Int->β->Prop
 |nil (p:β):oG ws p [] p
 |cons {n:Int} {p q s:β} {r:List Int}:(n,p,q)∈ws->oG ws q r s->oG ws p (n::r) s
def mK(st:List (β×Int))(p:β):Option Int:=(st.find? λx=>decide (x.1=p)).map (·.2)
theorem JK{st:List (β×Int)}{p:β}:mK st p=ao↔p∉st.map (·.1):=by
 unfold mK;rw[adV,aep];simp only[ji,not_exists,not_and,decide_eq_true_eq]
theorem J3(st:List (β×Int))(new:List β)(k:Int)(p:β):mK (st++new.map λg=>(g,k)) p=if p∈st.map (·.1) then mK st p else if p∈new then aj k else ao:=by
 unfold mK;rw[List.find?_append];by_cases h:p∈st.map (·.1)
 .rw[aZ h]
  obtain⟨x,hx,rfl⟩:=ji.mp h
  cases e:st.find? λy=>decide (y.1=x.1) with
  |none=>exact absurd (dZ rfl) (aep.mp e x hx)
  |some y=>rfl
 .rw[aY h,(adV.mp (JK.mpr h):st.find? _=ao),Option.none_or];induction new with
  |nil=>rfl
  |cons g new ih=>
   rw[cV,wg];by_cases e:g=p
   .subst e;rw[dZ rfl,aZ dj];rfl
   .rw[iU e,ih];have:p∈g::new↔p∈new:=by rw[bJ];exact⟨λz=>z.resolve_left λz=>e z.symm,.inr⟩
    simp only[this]
structure zJ(ws:List (Int×β×β))(s:β)(st:List (β×Int))(new:List β)(k:Nat):Prop where
 sound:∀p d,mK st p=aj d->d<=k/\∃r,oG ws p r s/\(r.length:Int)=d
 whole:∀p r,oG ws p r s->r.length<=k->∃d,mK st p=aj d/\d<=r.length
 last:∀p,p∈new↔mK st p=aj (k:Int)
 nd:(st.map (·.1)).Nodup
 sub:∀p∈st.map (·.1),p=s\/p∈ws.map (·.2.1)
 low:∀p d,mK st p=aj d->d+1<=st.length
theorem zJ.step{st:List (β×Int)}{new new':List β}{k:Nat}(B:zJ ws s st new k)(hn:new'.Nodup)(hm:∀g,g∈new'↔∃w∈ws,w.2.2∈new/\w.2.1∉st.map (·.1)/\w.2.1=g):zJ ws s (st++new'.map λg=>(g,(k:Int)+1)) new' (k+1) where
 sound p d h:=by
  rw[J3] at h;split at h
  .obtain⟨h1,h2⟩:=B.sound p d h
   exact⟨by lia,h2⟩
  .split at h
   .rename_i m;cases h
    refine⟨by lia,?_⟩
    obtain⟨w,m1,m2,m3,rfl⟩:=(hm p).mp m
    obtain⟨_,r,h3,h4⟩:=B.sound _ _ ((B.last _).mp m2)
    exact⟨w.1::r,.cons (p:=w.2.1) (q:=w.2.2) m1 h3,by rw[dD];lia⟩
   .cases h
 whole p r h l:=by
  rw[J3];by_cases hp:p∈st.map (·.1)
  .rw[aZ hp];cases e:mK st p with
   |none=>exact absurd hp (JK.mp e)
   |some d=>
    refine⟨d,rfl,?_⟩
    by_cases l':r.length<=k
    .obtain⟨d',e',h'⟩:=B.whole p r h l'
     rw[e] at e';cases e';exact h'
    .have:=(B.sound p d e).1;lia
  .rw[aY hp];cases h with
   |nil=>
    obtain⟨d,e,_⟩:=B.whole s [] (.nil s) (lz _)
    rw[JK.mpr hp] at e;cases e
   |cons hw hr=>
    rename_i n q r;rw[dD] at l⊢
    obtain⟨d,e,hd⟩:=B.whole q r hr (by lia)
    obtain⟨hk,r2,hr2,l2⟩:=B.sound q d e
    by_cases hdk:d=k
    .subst hdk;have m:p∈new':=(hm p).mpr ⟨_,hw,(B.last q).mpr e,hp,rfl⟩;rw[aZ m]
     exact⟨_,rfl,by lia⟩
    .obtain⟨d',e',_⟩:=B.whole p (n::r2) (.cons hw hr2) (by rw[dD];lia)
     rw[JK.mpr hp] at e';cases e'
 last p:=by
  rw[J3];constructor
  .intro m
   obtain⟨w,m1,m2,m3,rfl⟩:=(hm p).mp m
   rw[aY m3,aZ m];rfl
  .intro e;split at e
   .have:=(B.sound p _ e).1;lia
   .split at e
    .rename_i m;exact m
    .cases e
 nd:=by
  rw[yc,iK,show((λx:β×Int=>x.1) ∘ λg=>(g,(k:Int)+1))=id from rfl,Ip];refine lD.mpr ⟨B.nd,hn,λa ha b hb e=>?_⟩;subst e
  obtain⟨w,_,_,m3,rfl⟩:=(hm a).mp hb
  exact m3 ha
 sub p hp:=by
  rw[yc,iK,show((λx:β×Int=>x.1) ∘ λg=>(g,(k:Int)+1))=id from rfl,Ip] at hp;rcases dF.mp hp with hp|hp
  .exact B.sub p hp
  .obtain⟨w,m1,_,_,rfl⟩:=(hm p).mp hp
   exact .inr (ji.mpr ⟨w,m1,rfl⟩)
 low p d h:=by
  rw[J3] at h;rw[lO,bC];split at h
  .have:=B.low p d h;lia
  .split at h
   .rename_i m;cases h
    obtain⟨w,m1,m2,m3,rfl⟩:=(hm p).mp m
    have:=B.low _ _ ((B.last _).mp m2);have:=Ml m;lia
   .cases h
theorem len_sub:∀{l m:List β},l.Nodup->(∀x∈l,x∈m)->l.length<=m.length
 |[],_,_,_=>lz _
 |a::l,m,hn,h=>by
  have ha:=h a dj;have:=len_sub (m:=m.erase a) (kI.mp hn).2 λx hx=>(ad8 (show x≠a from λz=>(kI.mp hn).1 (z▸hx))).mpr (h x (dB _ hx))
  rw[adO ha] at this;have:=Ml ha;rw[dD];lia
theorem zJ.few{st:List (β×Int)}{new:List β}{k:Nat}(B:zJ ws s st new k):st.length<=ws.length+1:=by
 have h:(st.map (·.1)).length<=(s::ws.map (·.2.1)).length:=by
  refine len_sub B.nd λp hp=>?_
  rcases B.sub p hp with rfl|h
  .exact dj
  .exact dB _ h
 simpa using h
structure Ls(ws:List (Int×β×β))(s:β)(st:List (β×Int)):Prop where
 sound:∀p d,mK st p=aj d->∃r,oG ws p r s/\(r.length:Int)=d
 whole:∀p r,oG ws p r s->∃d,mK st p=aj d/\d<=r.length
 few:∀p d,mK st p=aj d->d<=ws.length
 nd:(st.map (·.1)).Nodup
theorem zJ.done{st:List (β×Int)}{k:Nat}(B:zJ ws s st [] k):Ls ws s st where
 sound p d h:=(B.sound p d h).2
 nd:=B.nd
 few p d h:=by
  have:=B.low p d h;have:=B.few;lia
 whole p r h:=by
  induction h with
  |nil p=>exact B.whole p [] (.nil p) (lz _)
  |cons hw hr ih=>
   rename_i n p q s' r
   obtain⟨d,e,hd⟩:=ih B
   obtain⟨hk,r2,hr2,l2⟩:=B.sound q d e
   have:d≠k:=λz=>by
    subst z;exact nomatch(B.last q).mpr e
   obtain⟨d',e',h'⟩:=B.whole p (n::r2) (.cons hw hr2) (by rw[dD];lia)
   refine⟨d',e',?_⟩
   rw[dD] at h'⊢;lia
theorem Ls.self{st:List (β×Int)}(B:Ls ws s st):mK st s=aj 0:=by
 obtain⟨d,e,h⟩:=B.whole s [] (.nil s)
 obtain⟨r,_,l⟩:=B.sound s d e
 rw[e];simp only[DW] at h;congr 1;lia
theorem oG.snoc{a b c:β}{n:Int}{r:List Int}(h:oG ws a r b)(hw:(n,b,c)∈ws):oG ws a (r++[n]) c:=by
 induction h with
 |nil p=>exact .cons hw (.nil _)
 |cons h1 _ ih=>exact .cons h1 (ih hw)
def aci(w:Int×β×β):Int×β×β:=(w.1,w.2.2,w.2.1)
theorem aja{n:Int}{a b:β}:(n,a,b)∈ws.map aci↔(n,b,a)∈ws:=by
 rw[ji];constructor
 .rintro⟨w,h,e⟩
  injection e with e1 e2
  injection e2 with e2 e3
  subst e1 e2 e3;exact h
 .exact λh=>⟨_,h,rfl⟩
theorem oG.turn{a b:β}{r:List Int}(h:oG (ws.map aci) a r b):oG ws b r.reverse a:=by
 induction h with
 |nil p=>exact .nil p
 |cons h1 _ ih=>
  rw[VN];exact ih.snoc (aja.mp h1)
def lexLe:List Int->List Int->Prop
 |[],_=>True
 |_::_,[]=>False
 |a::r,b::q=>a<b\/(a=b/\lexLe r q)
def Gs(ws:List (Int×β×β))(p s:β)(r:List Int):Prop:=oG ws p r s/\∀r',oG ws p r' s->r.length<r'.length\/(r.length=r'.length/\lexLe r r')
theorem Gs.self(ws:List (Int×β×β))(s:β):Gs ws s s []:=⟨.nil s,λr' _=>by
 cases r' with
 |nil=>exact .inr ⟨rfl,trivial⟩
 |cons _ _=>exact .inl (Nat.succ_pos _)⟩
theorem Gs.go{p q:β}{n d:Int}{r:List Int}{st:List (β×Int)}(hU:∀w∈ws,∀w'∈ws,w.1=w'.1->w=w')(B:Ls ws s st)(hp:mK st p=aj d)(hw:(n,p,q)∈ws)(hq:∃e,mK st q=aj e/\e<d)(hmin:∀n' q' e,(n',p,q')∈ws->mK st q'=aj e->e<d->n<=n')(hr:Gs ws q s r):Gs ws p s (n::r):=by
 obtain⟨e,hq,hlt⟩:=hq
 obtain⟨r1,hr1,l1⟩:=B.sound q e hq
 have hle:r.length<=r1.length:=by rcases hr.2 r1 hr1 with h|h<;>lia
 refine⟨.cons hw hr.1,λr' h'=>?_⟩
 obtain⟨d',e',hd'⟩:=B.whole p r' h'
 rw[hp] at e';cases e';rw[dD];cases h' with
 |nil=>
  simp only[DW] at hd';lia
 |cons hw' hr'=>
  rename_i n' q' r';rw[dD] at hd'⊢
  obtain⟨e2,h2,l2⟩:=B.whole q' r' hr'
  by_cases hl:r.length<r'.length
  .exact .inl (by lia)
  .refine .inr ⟨by lia,?_⟩;have hn:=hmin n' q' e2 hw' h2 (by lia);by_cases hnn:n<n'
   .exact .inl hnn
   .have:n=n':=by lia
    subst this;have:=hU _ hw _ hw' rfl;cases this;refine .inr ⟨rfl,?_⟩;rcases hr.2 r' hr' with h|h
    .lia
    .exact h.2
end
end L2
namespace L2
open PySem PySem.Spec PyProof.Rows PySem.W
def amJ(i j k:Nat)(ta:TA):TS:=λD σ H=>ta σ H λvs H1=>vs.length=3/\(∀v w z,vs=[v,w,z]->D.nx (((σ.set i (aj v)).set j (aj w)).set k (aj z)) H1)
section
variable{X:Cx}{pos:Pos}
theorem akr{kt k2 nZ}(hc:X.calm=au)(hN:X.N.Nodup)(hi:X.N[i]?=aj x)(hj:X.N[j]?=aj y)(hk:X.N[k]?=aj z)(hij:i≠j)(hik:i≠k)(hjk:j≠k)
  (hx:X.env.scope.names.lookup x=aj .local)(hy:X.env.scope.names.lookup y=aj .local)(hz:X.env.scope.names.lookup z=aj .local)(ha:PA X [a,b,c] ta)
  (hw:Ad [.Tuple [.Name x px,.Name y py,.Name z pz] kt pt] (.Tuple [a,b,c] k2 nZ) X.env=pure (aj [x,y,z]))
  (hs:Ac [.Tuple [.Name x px,.Name y py,.Name z pz] kt pt] (.Tuple [a,b,c] k2 nZ) pos.line X.env=pure aD:=by rfl):
  PS X (.Assign [.Tuple [.Name x px,.Name y py,.Name z pz] kt pt] (.Tuple [a,b,c] k2 nZ) pos) (amJ i j k ta):=by
 intro pins s σ H D I h;rw[exec_Assign_arm];refine aB (tG ?_);rw[hs];refine aB (aW ?_);rw[aY (by decide)];refine aB (Tuple_ (bF (ha _ pins s σ H _ I h) λus s1 aP=>?_))
 obtain⟨vs,H1,I1,r1,l1,q1⟩:=aP
 cases r1 with
 |nil=>cases l1
 |cons rv r1=>
 cases r1 with
 |nil=>cases l1
 |cons rw' r1=>
 cases r1 with
 |nil=>cases l1
 |cons rz r1=>
 cases r1 with
 |cons _ _=>cases l1
 |nil=>
 rename_i v u1 w u2 zz u3;refine j0 ?_ (by show 3<=bU;decide);have I2:Inv X pins σ H1 {s1 with heap:=s1.heap.push {cls:=.type "tuple",data:=.seq [u1,u2,u3].toArray}}:=I1.kept (t':=s1.toks) λb o e=>bR _ e
 rw[hw];refine aB (aW ?_);show aL (model X.prog X.w) X.A (do rule "assign.swapped-stores";let items <-Xr (.ref s1.heap.objs.size) 3 ao;Ab [λv=>u0 X.env z v,λv=>u0 X.env y v,λv=>u0 X.env x v] items.reverse;pure PL) _ _ _;refine aB (qp (aB (unpackItems_tuple (items:=#[u1,u2,u3]) (I.ok.hd hc) (IsTup.new s1.heap _) λh' hx'=>?_)));have I3:=I2.kept (h':=h') (t':=s1.toks) λb o e=>hx' b o (dX (bN e)) e
 show aL _ _ (Ab [λv=>u0 X.env z v,λv=>u0 X.env y v,λv=>u0 X.env x v] [u3,u2,u1] >>= λ_=>pure PL) _ _ _;refine aB (assignInOrder_cons (HH (uZ I3 hN hk (.inl hz) rz (λs2 I4=>?_) (.inr hz))));refine assignInOrder_cons (HH (uZ I4 hN hj (.inl hy) rw' (λs3 I5=>?_) (.inr hy)));refine assignInOrder_cons (HH (uZ I5 hN hi (.inl hx) rv (λs4 I6=>assignInOrder_nil (aW ?_)) (.inr hx)));rw[NK _ _ (fQ hij),NK _ _ (fQ hik),NK _ _ (fQ hjk)] at I6
 exact⟨_,H1,I6,q1 _ _ _ rfl⟩
theorem aks{kt k2 nZ}(hc:X.calm=au)(hN:X.N.Nodup)(hi:X.N[i]?=aj x)(hj:X.N[j]?=aj y)(hk:X.N[k]?=aj z)(hij:i≠j)(hik:i≠k)(hjk:j≠k)
  (hx:X.env.scope.names.lookup x=aj .local)(hy:X.env.scope.names.lookup y=aj .local)(hz:X.env.scope.names.lookup z=aj .local)(ha:PA X [a,b,c] (zH X.K g))
  (hw:Ad [.Tuple [.Name x px,.Name y py,.Name z pz] kt pt] (.Tuple [a,b,c] k2 nZ) X.env=pure (aj [x,y,z]))
  (hs:Ac [.Tuple [.Name x px,.Name y py,.Name z pz] kt pt] (.Tuple [a,b,c] k2 nZ) pos.line X.env=pure aD:=by rfl):
  PS X (.Assign [.Tuple [.Name x px,.Name y py,.Name z pz] kt pt] (.Tuple [a,b,c] k2 nZ) pos) (tS X.K (zj [i,j,k] g)):=(akr hc hN hi hj hk hij hik hjk hx hy hz ha hw hs).weak λD σ H aP=>by
 obtain⟨Z,Θ,env,C,fl,env',C',S,hf,q⟩:=aP
 unfold zj at hf;split at hf
 case h_2=>cases hf
 rename_i xs e1 C1 h1;split at hf
 case isFalse=>cases hf
 rename_i hl;cases hf
 refine⟨Z,Θ,env,C,xs,e1,C',S,h1,λvs as H1 k1 f1 n1 S1 a1=>⟨by rw[aaE a1,<-hl.1];rfl,λv w zz e=>?_⟩⟩
 obtain⟨S2,o2⟩:=aaD a1 hl.1 (bD.refl _) S1
 subst e;refine q Θ _ H1 ⟨lC.refl _ _,yG k1,λb m=>?_,S2⟩;rcases o2 b m with m|m
 .exact .inl (f1.own.subset m)
 .exact .inr (n1 b m)
end
section
variable{X:Cx}
end
section
variable{X:Cx}{l de:Expr}{tl td:TE}{p pos kp:Pos}
end
inductive gn(K:aJ)(x:Str)(st:dw):Prop
 |mk {f:az} {oc:Value} {od an:Option az} {osl:Array (Option Value)} {kV doc pm cdv ct:Value} (a:jQ K fW x=aj (aj (.ref f))) (l:K.lookup f=aj ⟨oc,od,.func (yo x x (Bj st) (wM st) (bY st) .none kV doc pm an cdv ct),osl⟩) (c:Np K cdv x=au) (k:wu K (.ref f)=au):gn K x st
abbrev Ss(x:Str)(st:dw)(ps:List Str):Prop:=∀(kV doc pm:Value)(an:Option az)(cdv ct:Value)(us:List Value),us.length=ps.length->bindArgs (yo x x (Bj st) (wM st) (bY st) .none kV doc pm an cdv ct) ⟨us,[]⟩=pure (ps.zip us)
section
variable{P:bB}{w:bA}{K:aJ}{mg:Str->Option Value}{base h:bh}{x:Str}{st:dw}{k:Nat}{ps:List Str}{sp:Sp}
theorem gn.has(d:gn K x st)(X:K.In h)(G:h.Ns fW mg)(o:∀f fd,fU K x x st f fd->dG P w K mg base eY k f fd ps sp)(hb:Ss x st ps):dh P w K mg base x k ps sp:=by
 obtain⟨a,l,c,kp⟩:=d
 have F:=R4 l c kp
 exact⟨_,_,tH X G a,kp,F.binds hb,o _ _ F⟩
theorem gn.anJ(d:gn K x st)(X:K.In h)(G:h.Ns fW mg)(o:∀f fd,mg x=aj (.ref f)->wu K (.ref f)=au->Binds K fd ps []->fU K x x st f fd->dh P w K mg base x k ps sp)(hb:Ss x st ps):dh P w K mg base x k ps sp:=by
 obtain⟨a,l,c,kp⟩:=d
 have F:=R4 l c kp;exact o _ _ (tH X G a) kp (F.binds hb) F
theorem gn.law{y:Str}{fa:az}(d:gn K x st)(X:K.In h)(G:h.Ns fW mg)(hfa:mg x=aj (.ref fa))(o:∀base f fd,fU K x x st f fd->dG P w K mg base eY k f fd [y] sp)(hb:Ss x st [y]):
  ∃fd:dH,(∀(s:aG)(v:Value),yE s fd ⟨[v],[]⟩ [(y,v)])/\∀base:bh,K.In base->base.Ns fW mg->dG P w K mg base eY k fa fd [y] sp:=by
 obtain⟨a,l,c,kp⟩:=d
 have e:=hfa.symm.trans (tH X G a);cases e
 exact⟨_,λs v=>.of_eq (hb _ _ _ _ _ _ [v] rfl),λbase _ _=>o base _ _ (R4 l c kp)⟩
theorem jh{B:List Value->Prop}(h:B []):∀us:List Value,us.length=0->B us
 |[],_=>h
theorem cU{n:Nat}{B:List Value->Prop}(h:∀a,∀us:List Value,us.length=n->B (a::us)):∀us:List Value,us.length=n+1->B us
 |a::us,e=>h a us (Nat.succ.inj e)
end
section
open PySem.SeqAt
open PySem.AutoSeq1 (wpAny_loadPart')
open PySem.MeetsSeq PySem.MeetsSeq2 PySem.MeetsSeq3
def anK(A:bV)(s:aG)(x y:Value)(r:Bool):Prop:=∀(prog:bB)(w:bA)(E Q:Value->aG->Prop),Q (.bool r) s->aL (model prog w) A (yp .Lt x y) Q E s
inductive Cy(A:bV)(s:aG):List Value->List Value->Bool->Prop
 |nil:Cy A s [] [] aD
 |eq:EqAt A s x y au->Cy A s xs ys r->Cy A s (x::xs) (y::ys) r
 |ne:EqAt A s x y aD->anK A s x y r->xs.length=ys.length->Cy A s (x::xs) (y::ys) r
theorem Cy.len(h:Cy A s xs ys r):xs.length=ys.length:=by
 induction h with
 |nil=>rfl
 |eq _ _ ih=>rw[dD,dD,ih]
 |ne _ _ e=>rw[dD,dD,e]
end
theorem amK(h:er P H a=aj o):H a=aj o:=by
 unfold er at h;split at h
 .cases h
 .exact h
section
variable{X:Cx}{e es:Expr}{p2 pos:Pos}
def Kl:aA->aA->Option Vl
 |.bool a,.bool b=>aj (.im (.bool (a != b)))
 |_,_=>ao
theorem akt{K:aJ}:gA K (λx y H Q=>∃a b,x=.bl a/\y=.bl b/\Q (.bl (a != b)) H) Kl:=by
 intro Z Θ env C σ H x y dx dy res S bx dM e Q q;unfold Kl at e;split at e
 .cases e
  exact⟨_,_,bx,dM,q _ _ (bz.refl _ _) (jD S rfl rfl)⟩
 .cases e
end
section
variable{prog:bB}{w:bA}{A:bV}{E:Value->aG->Prop}{s:aG}
end
section
variable{X:Cx}
end
def pairsOf:List aA->Option (List (aA×aA))
 |[]=>aj []
 |.tuple [k,v]::r=>(pairsOf r).map λt=>(k,v)::t
 |_=>ao
section
variable{K:aJ}{E H:Hp}{Θ as:List az}{xs:List Vl}{vs:List V}{p q:List aA}{d:aA}
end
section
variable{X:Cx}{pos:Pos}
end
theorem amL(d:aA):GC (.im d)=aD:=rfl
theorem amM(d:aA):GC (.ow d)=aD:=rfl
theorem amN(n:Nat):GC (.ce n)=aD:=rfl
section
variable{X:Cx}
end
end L2
namespace HT
open PySem PySem.Spec PyProof.Rows
open Sem (wp)
open Builtin
end HT
namespace L2
open PySem PySem.Spec PyProof.Rows PySem.W
section
variable{X:Cx}
end
section
variable{K:aJ}{Z Z0 Θ Δ:List az}{env:En}{C C0:Ce}{σ:St}{H H0 H':Hp}
end
section
variable{X:Cx}{x:Str}{k:Nat}{ps:List Str}{p pos:Pos}{e:Expr}{es:List Expr}{f:FN}{f0:FE}{g:FA}
end
section
variable{X:Cx}
def acX(d:aA):Str:=match d with
 |.str x=>x
 |d=>d.shown
end
def Lw(x:Str):Prop:=∀c∈x.cps.toList,c<16^8
theorem aku(c:Char):c.toNat<16^8:=c.val.toNat_lt
theorem Su(n c:Nat):∀x∈(cA n 48++(Nat.toDigits 16 c).map Char.toNat:List Nat),x<16^8:=λx hx=>by
 rcases dF.mp hx with hx|hx
 .rw[adN hx];decide
 .obtain⟨k,_,rfl⟩:=ji.mp hx
  exact aku k
theorem Gf{a b:Nat}(ha:a<16^8)(hb:b<16^8):∀x∈[a,b],x<16^8:=λx hx=>by
 rcases bJ.mp hx with rfl|hx
 .exact ha
 .rw[jB.mp hx];exact hb
theorem Sv{a b:Nat}{l:List Nat}(ha:a<16^8)(hb:b<16^8)(hl:∀x∈l,x<16^8):∀x∈[a,b]++l,x<16^8:=λx hx=>(dF.mp hx).elim (Gf ha hb x) (hl x)
theorem akv{q c:Nat}(hc:c<16^8):∀x∈Vz q c,x<16^8:=by
 unfold Vz;simp only;split
 .exact Gf (by decide) hc
 split
 .exact Gf (by decide) (by decide)
 split
 .exact Gf (by decide) (by decide)
 split
 .exact Gf (by decide) (by decide)
 split
 .intro x hx;rw[jB.mp hx];exact hc
 split
 .exact Sv (by decide) (by decide) (Su _ _)
 split
 .exact Sv (by decide) (by decide) (Su _ _)
 .exact Sv (by decide) (by decide) (Su _ _)
theorem aaT{q:Nat}:∀{l:List Nat}{acc:Array Nat},(∀c∈l,c<16^8)->(∀x∈acc.toList,x<16^8)->∀x∈(l.foldl (λout c=>out++(Vz q c).toArray) acc).toList,x<16^8
 |[],_,_,h=>h
 |c::l,acc,g,h=>aaT (l:=l) (λd hd=>g d (dB _ hd)) λx hx=>by
  rw[Array.toList_append] at hx
  exact(dF.mp hx).elim (h x) (akv (g c dj) x)
theorem akx{x:Str}(h:Lw x):Lw (reprText x):=λc hc=>by
 have q:reprQuote x<16^8:=by unfold reprQuote;split<;>decide
 unfold reprText at hc;rw[V2,<-Array.foldl_toList] at hc;rcases dF.mp hc with hc|hc
 .exact aaT h (λy hy=>by rw[jB.mp hy];exact q) c hc
 .rw[jB.mp hc];exact q
structure Th(e B:Nat)(M:Int)(d:aA):Prop where
 nd:oA d=au
 sh:Ln e B d
 tl:(acX d).length<=B
 cp:Lw (acX d)
 mg:∀i,d=.int i->-M<=i/\i<=M
theorem Th.mono(h:Th e B M d)(he:e<=e')(hB:B<=B')(hM:M<=M'):Th e' B' M' d:=⟨h.nd,h.sh.mono he hB,ju h.tl hB,h.cp,λi k=>by have:=h.mg i k;lia⟩
theorem Th.cps(h:Th e B M d):Lw d.shown:=by
 cases d<;>first|exact h.cp|skip
 rw[PyData.shown_str];exact akx h.cp
end L2
namespace HT
open PySem PySem.Spec PyProof.Rows
open Sem (wp)
open Builtin
theorem ajb(A:bV)(s:aG)(a:Int)(t:Tok)(c:Int)(u:Tok)(prog:bB)(w:bA)(E:Value->aG->Prop)(Q:Value->aG->Prop)(h:Q (.bool (decide (a>c))) s):aL (model prog w) A (yp .Gt (.int a t) (.int c u)) Q E s:=gt_int h
theorem ah8(l b:az)(i j:Int)(t u:Tok)(r1 r2:List Value)(n n2:Nat)(dd dd2:Option az)(sl sl2:Array (Option Value))(hne:i≠j):
  Meets (lW.«tuple.__gt__» ⟨[.ref l,.ref b],[]⟩)
   (λ_ R s=>s.heap.get? l=aj {cls:=.type "tuple",dict:=dd,data:=.seq (.int i t::r1).toArray n,slots:=sl}/\s.heap.get? b=aj {cls:=.type "tuple",dict:=dd2,data:=.seq (.int j u::r2).toArray n2,slots:=sl2}/\R (.ok (.ret (.bool (decide (i>j))))) s):=
 .of_wp λprog w A R s h=>by
  obtain⟨hp,g,d,tk,os⟩:=s;obtain⟨hl,hb,h⟩:=h
  have f2:=adM;wp_walk using M8 hl,M8 hb,aeW _ (λrest b s'=>b.1=ao/\s'=⟨hp,g,d,tk,os⟩/\rest=(wD i t::r1).zip (wD j u::r2)) _
  case turn=>
   rintro⟨y,x⟩ rest b s' ⟨hb',rfl,hz⟩
   rw[VH] at hz;injection hz with hyx hrest
   injection hyx with hy hx
   subst hy hx
   obtain⟨e,he,hiff⟩:=air A.in1 ⟨hp,g,d,tk,os⟩ i t j u
   refine aB (he prog w _ _ ?_);cases e with
   |true=>exact absurd (hiff.mp rfl) hne
   |false=>
    have UJ:=ajb A.in1 ⟨hp,g,d,tk,os⟩ i t j u prog w;wp_walk using UJ
    exact⟨_,rfl,by simpa using h⟩
  case fin=>
   rintro⟨b1,b2⟩ s' ⟨hb',rfl,hz⟩
   cases hz
  case h=>exact⟨rfl,rfl,rfl⟩
end HT
namespace L2
open PySem PySem.Spec PyProof.Rows PySem.W
theorem Sw(bt:Nat->Nat->Bool):∀k,gh bt k<=k
 |0=>bT _
 |k+1=>by
  rw[gh];split
  .exact bT _
  .exact Nat.le_succ_of_le (Sw bt k)
section
variable{prog:bB}{w:bA}{A:bV}{E:Value->aG->Prop}{s:aG}{R:qD->aG->Prop}{I S:az}{fp wr:List az}{n:Nat}{Pv:Nat->Value->Prop}{St:Nat->bh->Prop}{bt:Nat->Nat->Bool}{HK:bh->Prop}
theorem ajc(W:vh prog w A.in1 I fp wr n Pv St)(cmp:∀(i j:Nat)(vi vj:Value)(s:aG)(Q:Value->aG->Prop)(E:Value->aG->Prop),j<i->HK s.heap->Pv i vi->Pv j vj->Q (.bool (bt i j)) s->aL (model prog w) A.in1 (yp .Gt vi vj) Q E s)
  (hk:∀h h',HK h->(∀b o,b∉wr->b≠S->h.get? b=aj o->h'.get? b=aj o)->HK h')(out:S∉fp):∀(m j:Nat)(s:aG)(vb:Value)(c:Nat),n-(j+1)=m->j+1<=n->St (j+1) s.heap->HK s.heap->Pv (gh bt j) vb->s.heap.get? S=aj (ab0 vb c)->
  (∀v h' tk,Pv (gh bt (n-1)) v->(∀b o,b∉wr->b≠S->s.heap.get? b=aj o->h'.get? b=aj o)->R (.ok (.ret v)) {s with heap:=h',toks:=tk})->jT (model prog w) A (.builtin "max.loop" ⟨[.ref I,.none,.ref S],[]⟩) R s:=by
 have vJ:S∉wr:=λz=>out (W.sub _ z)
 have nm:(toString "max"++toString ".loop":String)="max.loop":=by decide
 intro m;induction m with
 |zero=>
  intro j s vb c hm hj st kp pb hS hR;have last:j+1=n:=by lia
  refine uL Du ?_;rw[uJ o9 _];show aL _ A.in1 (yu (.ref S) >>= _) _ _ s;refine aB (oJ hS rfl ?_);show aL _ A.in1 (tryCatch (jn (.ref I)) _ >>= _) _ _ s;refine aB (wz (W.done s _ _ (last▸st) λh' tk kk=>?_));have g:=kk S _ vJ hS;show aL _ A.in1 (Ey S (λ_=>#[]) >>= _) _ _ _;refine aB (xZ g rfl (aB (uU (aW ?_))));exact hR vb _ tk (by rw[<-last];exact pb) λb o hb hbS e=>(nj _ _ (fQ hbS)).trans (kk b o hb e)
 |succ m ih=>
  intro j s vb c hm hj st kp pb hS hR;have lt:j+1<n:=by lia
  refine uL Du ?_;rw[uJ o9 _];show aL _ A.in1 (yu (.ref S) >>= _) _ _ s;refine aB (oJ hS rfl ?_);show aL _ A.in1 (tryCatch (jn (.ref I)) _ >>= _) _ _ s;refine aB (wz (W.item (j+1) s _ _ lt st λv h' tk pv st' kk=>?_));have g:=kk S _ vJ hS;have Hj:HK h':=hk _ _ kp λb o hb _ e=>kk b o hb e
  show aL _ A.in1 (tryCatch (pL [v,v] (yp .Gt v vb >>= _)) _ >>= _) _ _ _;refine aB (wz (jL (aB (cmp (j+1) (gh bt j) v vb _ _ _ (Nat.lt_succ_of_le (Sw bt j)) Hj pv pb ?_))));refine aB (jL (sY (aB (uU (aW ?_)))));cases hb:bt (j+1) (gh bt j) with
  |true=>
   simp only[if_true];refine aB (xZ g rfl (aB (uU ?_)));rw[nm];refine aW ⟨q9 o9 _,ih (j+1) _ v _ (by lia) lt (W.frame _ _ _ st' λb hbf o e=>(nj _ _ λz:S=b=>out (z▸hbf)).trans e) (hk _ _ Hj λb o _ hbS e=>(nj _ _ (fQ hbS)).trans e) (by simp only[gh,hb,if_true];exact pv) (sW _ g rfl) λv' h2 tk2 sH oW=>?_⟩;exact hR v' h2 tk2 sH λb o hb' hbS e=>oW b o hb' hbS ((nj _ _ (fQ hbS)).trans (kk b o hb' e))
  |false=>
   simp only[kE,if_false];refine aB (uU ?_);rw[nm];refine aW ⟨q9 o9 _,ih (j+1) _ vb c (by lia) lt st' Hj (by simp only[gh,hb,kE,if_false];exact pb) g λv' h2 tk2 sH oW=>?_⟩;exact hR v' h2 tk2 sH λb o hb' hbS e=>oW b o hb' hbS (kk b o hb' e)
theorem ajd(W:vh prog w A.in1 I fp wr n Pv St)(cmp:∀(i j:Nat)(vi vj:Value)(s:aG)(Q:Value->aG->Prop)(E:Value->aG->Prop),j<i->HK s.heap->Pv i vi->Pv j vj->Q (.bool (bt i j)) s->aL (model prog w) A.in1 (yp .Gt vi vj) Q E s)
  (hk:∀h h',HK h->(∀b o,b∉wr->b≠S->h.get? b=aj o->h'.get? b=aj o)->HK h')(out:S∉fp)(pos:0<n)(st:St 0 s.heap)(kp:HK s.heap)(hS:s.heap.get? S=aj {cls:=.type "list",dict:=ao,data:=.seq #[] c,slots:=#[]})
  (hR:∀v h' tk,Pv (gh bt (n-1)) v->(∀b o,b∉wr->b≠S->s.heap.get? b=aj o->h'.get? b=aj o)->R (.ok (.ret v)) {s with heap:=h',toks:=tk}):jT (model prog w) A (.builtin "max.loop" ⟨[.ref I,.none,.ref S],[]⟩) R s:=by
 have vJ:S∉wr:=λz=>out (W.sub _ z)
 have nm:(toString "max"++toString ".loop":String)="max.loop":=by decide
 refine uL Du ?_;rw[uJ o9 _];show aL _ A.in1 (yu (.ref S) >>= _) _ _ s;refine aB (oJ hS rfl ?_);show aL _ A.in1 (tryCatch (jn (.ref I)) _ >>= _) _ _ s;refine aB (wz (W.item 0 s _ _ pos st λv h' tk pv st' kk=>?_));have g:=kk S _ vJ hS;have Hj:HK h':=hk _ _ kp λb o hb _ e=>kk b o hb e
 show aL _ A.in1 (Ey S (λ_=>#[v,v]) >>= _) _ _ _;refine aB (xZ g rfl ?_);rw[nm];refine aW ⟨q9 o9 _,ajc W cmp hk out _ 0 _ v _ rfl pos (W.frame _ _ _ st' λb hbf o e=>(nj _ _ λz:S=b=>out (z▸hbf)).trans e) (hk _ _ Hj λb o _ hbS e=>(nj _ _ (fQ hbS)).trans e) pv (sW _ g rfl) λv' h2 tk2 sH oW=>?_⟩;exact hR v' h2 tk2 sH λb o hb' hbS e=>oW b o hb' hbS ((nj _ _ (fQ hbS)).trans (kk b o hb' e))
theorem aje(hh:A.handled=ao)(hl:s.heap.IsList l items)(pos:0<items.size)
  (cmp:∀(i j:Nat)(vi vj:Value)(s':aG)(Q:Value->aG->Prop)(E:Value->aG->Prop),j<i->(∀b o,s.heap.get? b=aj o->s'.heap.get? b=aj o)->items[i]?=aj vi->items[j]?=aj vj->Q (.bool (bt i j)) s'->aL (model prog w) A.in1 (yp .Gt vi vj) Q E s')
  (h:∀(v:Value)(h':bh)(tk:Nat),items[gh bt (items.size-1)]?=aj v->(∀b o,s.heap.get? b=aj o->h'.get? b=aj o)->Q v {s with heap:=h',toks:=tk}):aL (model prog w) A (call (.builtin "max") [.ref l]) Q E s:=by
 have nm:(toString "max"++toString ".loop":String)="max.loop":=by decide
 have G9:l<s.heap.objs.size:=by obtain⟨o,ho,_⟩:=hl;exact bN ho
 refine Xm aeY aeE aeF (PySem.F.args_max1 _) ?_;show aL _ A.in1 (Ma "max" ["key","default"] 0 ⟨[],[]⟩ >>= _) _ _ s;refine aB (Io (show Ma "max" ["key","default"] 0 ⟨[],[]⟩=pure [ao,ao] from rfl) ?_);refine aB (aW ?_);refine aB (Hw hl (aB (j0 ?_)));rw[nm];have sG:(s.heap.push {cls:=.type "list_iterator",data:=.fields #[.ref l,.int 0 0]}).objs.size=s.heap.objs.size+1:=tD ..;have W:=X6 (prog:=prog) (w:=w) (A:=A.in1) (by simp[hh]) s.heap.objs.size l (dX G9) items;refine aW ⟨q9 o9 _,?_⟩;show jT (model prog w) A (.builtin "max.loop" ⟨[.ref s.heap.objs.size,.none,.ref (s.heap.push {cls:=.type "list_iterator",data:=.fields #[.ref l,.int 0 0]}).objs.size],[]⟩) _ {s with heap:=(s.heap.push {cls:=.type "list_iterator",data:=.fields #[.ref l,.int 0 0]}).push {cls:=.type "list",data:=.seq #[]}};have ol:∀b o,s.heap.get? b=aj o->b∉[s.heap.objs.size]:=λb o e=>by
  simp only[bJ,iZ,or_false];exact dX (bN e)
 have ol2:∀b o,s.heap.get? b=aj o->b≠(s.heap.push {cls:=.type "list_iterator",data:=.fields #[.ref l,.int 0 0]}).objs.size:=λb o e=>by
  rw[sG];exact dX (vX (bN e))
 refine ajd (HK:=λh=>∀b o,s.heap.get? b=aj o->h.get? b=aj o) W cmp (λh h' k kk b o e=>kk b o (ol b o e) (ol2 b o e) (k b o e)) ?_ pos ⟨⟨_,bR _ (fV _ rfl),rfl,rfl⟩,(hl.push _).push _⟩ (λb o e=>bR _ (bR _ e)) (fV _ rfl) λv h' tk hv kk=>?_
 .rw[sG];simp only[bJ,iZ,or_false,not_or]
  exact⟨tL (MP _),tL (vX G9)⟩
 .exact h v h' tk hv λb o e=>kk b o (ol b o e) (ol2 b o e) (bR _ (bR _ e))
end
section
variable{X:Cx}
theorem aky{prog:bB}{w:bA}{A:bV}{E:Value->aG->Prop}{s:aG}{Q:Value->aG->Prop}{l b:az}{i j:Int}{t u:Tok}{r1 r2:List Value}(hl:IsTup s.heap l (.int i t::r1).toArray)(hb:IsTup s.heap b (.int j u::r2).toArray)(hne:i≠j)(hu:A.units<gJ)(h:Q (.bool (decide (i>j))) s):aL (model prog w) A (fj .Gt (.ref l) (.ref b)) Q E s:=by
 obtain⟨⟨cls,dd,data,sl⟩,ho,hc,n,hd⟩:=id hl
 obtain⟨⟨cls2,dd2,data2,sl2⟩,ho2,hc2,n2,hd2⟩:=id hb
 simp only at hc hd hc2 hd2;subst hc hd hc2 hd2;exact adT (op:=.Gt) ⟨_,ho,rfl⟩ ⟨_,ho2,rfl⟩ PySem.F.slot_tuple_gt PySem.F.entry_tuple_gt (PySem.F.args_tuple_gt_2 _ _) (HT.ah8 l b i j t u r1 r2 n n2 dd dd2 sl sl2 hne)
  ⟨ho,ho2,show rm (decide (i>j))≠ad4/\Q (.bool (decide (i>j))) s from⟨(λx=>nomatch x),h⟩⟩ hu
abbrev Pr:=az×Int×List V
def pY(rows:List Pr)(i j:Nat):Bool:=match rows[i]?,rows[j]? with
 |some a,some b=>decide (a.2.1>b.2.1)
 |_,_=>aD
theorem afm(hc:X.calm=au)(hu:X.A.units+1<gJ):je X (.builtin "max") (λxs H Q=>∃(p:az)(rows:List Pr),xs=[.ref p]/\bK X.K H p (rows.map λr=>V.ref r.1)/\0<rows.length/\(∀r∈rows,H r.1=aj (.tup (.int r.2.1::r.2.2)))/\(rows.map λr=>r.2.1).Nodup/\
  ∀r,rows[gh (pY rows) (rows.length-1)]?=aj r->Q (.ref r.1) H):=by
 intro pins s σ H xs us Q I r h
 obtain⟨p,rows,rfl,hp,pos,ha,nd,q⟩:=h
 obtain⟨u,rfl,ru⟩:=vals1 r
 cases ru
 obtain⟨its,r',pl,hz⟩:=I.list hp
 have ei:its=rows.map λr=>cY r.1:=by
  clear pos ha q pl hz hp nd;induction rows generalizing its with
  |nil=>cases r';rfl
  |cons a rows ih=>
   cases r' with
   |cons h t=>
    cases h;rw[ih _ t];rfl
 subst ei;have tu:∀r∈rows,∃t rs,IsTup s.heap r.1 (.int r.2.1 t::rs).toArray:=λr hr=>by
  obtain⟨_,its,v,t⟩:=(show fH X.prog X.w H s.heap r.1 (.tup (.int r.2.1::r.2.2)) from I.hok r.1 _ (ha r hr))
  cases v with
  |cons h v=>
   obtain⟨tk,rfl⟩:=h
   exact⟨tk,_,t⟩
 refine aje (bt:=pY rows) (I.ok.hd hc) pl.isList (by simpa using pos) (λi j vi vj s' Q E lt k hi hj q=>?_) λv h' tk hv k=>?_
 .have hi':(rows.map λr=>cY r.1)[i]?=aj vi:=by simpa using hi
  have hj':(rows.map λr=>cY r.1)[j]?=aj vj:=by simpa using hj
  rw[jr] at hi' hj';cases ri:rows[i]? with
  |none=>rw[ri] at hi';cases hi'
  |some a=>
   cases rj:rows[j]? with
   |none=>rw[rj] at hj';cases hj'
   |some b=>
    rw[ri] at hi';rw[rj] at hj';cases hi';cases hj'
    obtain⟨t1,rs1,o1,g1,c1⟩:=tu a (pA ri)
    obtain⟨t2,rs2,o2,g2,c2⟩:=tu b (pA rj)
    have ne:a.2.1≠b.2.1:=by
     obtain⟨l1,e1⟩:=kj.mp ri
     obtain⟨l2,e2⟩:=kj.mp rj
     have:=zK.mp nd j i (by rw[bC];exact l2) (by rw[bC];exact l1) lt;simp only[DQ,e1,e2] at this;exact λz=>this z.symm
    refine aky (t:=t1) (u:=t2) ⟨o1,k _ _ g1,c1⟩ ⟨o2,k _ _ g2,c2⟩ ne hu ?_;have e:pY rows i j=decide (a.2.1>b.2.1):=by
     unfold pY;rw[ri,rj]
    rw[<-e];exact q
 .have hv':(rows.map λr=>cY r.1)[gh (pY rows) (rows.length-1)]?=aj v:=by simpa using hv
  rw[jr] at hv';cases rv:rows[gh (pY rows) (rows.length-1)]? with
  |none=>rw[rv] at hv';cases hv'
  |some a=>
   rw[rv] at hv';cases hv'
   exact⟨.ref a.1,H,I.kept (t':=tk) k,rfl,q a rv⟩
end
def pairD:aA->Option (Int×List aA)
 |.tuple (.int k::r)=>aj (k,r)
 |_=>ao
def BX:List aA->Option (List (Int×List aA))
 |[]=>aj []
 |d::r=>(pairD d).bind λx=>(BX r).map λl=>x::l
def vA{α:Type}:List (Int×α)->Option (Int×α)
 |[]=>ao
 |x::r=>match vA r with
  |none=>aj x
  |some y=>if x.1<y.1 then aj y else aj x
def Km:List aA->Option Vl
 |[.list ds]=>(BX ds).bind λl=>if(l.map (·.1)).Nodup then(vA l).map λx=>.im (.tuple (.int x.1::x.2)) else ao
 |_=>ao
theorem ZW{α:Type}:∀{l:List (Int×α)}{x:Int×α},vA l=aj x->x∈l/\∀y∈l,y.1<=x.1
 |[],x,h=>by cases h
 |a::r,x,h=>by
  rw[vA] at h;cases e:vA r with
  |none=>
   rw[e] at h;cases h;cases r with
   |nil=>exact⟨dj,λy hy=>by rw[jB.mp hy];exact yq _⟩
   |cons b r=>
    rw[vA] at e;split at e
    .cases e
    .split at e<;>cases e
  |some y=>
   rw[e] at h
   obtain⟨m,g⟩:=ZW e
   have h:(if a.1<y.1 then aj y else aj a)=aj x:=h;by_cases c:a.1<y.1
   .rw[aZ c] at h;cases h
    refine⟨dB _ m,λz hz=>?_⟩
    rcases bJ.mp hz with rfl|hz
    .exact Int.le_of_lt c
    .exact g z hz
   .rw[aY c] at h;cases h
    refine⟨dj,λz hz=>?_⟩
    rcases bJ.mp hz with rfl|hz
    .exact yq _
    .have:=g z hz;lia
theorem abI{bt:Nat->Nat->Bool}{val:Nat->Int}{n:Nat}(h:∀i j,i<n->j<n->bt i j=decide (val i>val j)):∀k,k<n->∀i,i<=k->val i<=val (gh bt k)
 |0,_,i,hi=>by
  have:i=0:=by lia
  subst this;exact yq _
 |k+1,hk,i,hi=>by
  have ih:=abI h k (by lia);have al:=Sw bt k;have b:=h (k+1) (gh bt k) hk (by lia);rw[gh];cases c:bt (k+1) (gh bt k) with
  |true=>
   rw[c] at b;have b:=of_decide_eq_true b.symm;rw[aZ rfl];by_cases e:i=k+1
   .rw[e];exact yq _
   .have:=ih i (by lia);lia
  |false=>
   rw[c] at b;have b:=of_decide_eq_false b.symm;rw[aY iw];by_cases e:i=k+1
   .rw[e];lia
   .exact ih i (by lia)
theorem Y0{E:Hp}:∀{ds:List aA}{l:List (Int×List aA)}{vs:List V},BX ds=aj l->bW E ds vs->∃rows:List Pr,vs=rows.map (λr=>V.ref r.1)/\rows.map (λr=>r.2.1)=l.map (·.1)/\(∀r∈rows,E r.1=aj (.tup (.int r.2.1::r.2.2)))/\∀(i:Nat)(r:Pr)(x:Int×List aA),rows[i]?=aj r->l[i]?=aj x->RZ E (.tuple (.int x.1::x.2)) (.ref r.1)
 |[],l,vs,h,r=>by
  cases h
  cases(show vs=[] from r)
  exact⟨[],rfl,rfl,(λ_ m=>nomatch m),λi r x e=>by simp at e⟩
 |d::ds,l,vs,h,r=>by
  obtain⟨x,hx,h⟩:=xV.mp h
  obtain⟨l',hl,rfl⟩:=zO.mp h
  obtain⟨v,t,rfl,rv,rt⟩:=r
  obtain⟨rows,e1,e2,e3,e4⟩:=Y0 hl rt
  have hd:d=.tuple (.int x.1::x.2):=by
   cases d<;>first|cases hx|skip
   rename_i ys;cases ys with
   |nil=>cases hx
   |cons y ys=>cases y<;>first|(cases hx;rfl)|cases hx
  subst hd
  obtain⟨c,ws,rfl,hc,rw'⟩:=id rv
  obtain⟨w,ws',rfl,hw,_⟩:=rw'
  cases(show w=.int x.1 from hw)
  refine⟨(c,x.1,ws')::rows,by rw[e1];rfl,by rw[cV,e2];rfl,λr hr=>?_,λi r y hi hy=>?_⟩
  .rcases bJ.mp hr with rfl|hr
   .exact hc
   .exact e3 r hr
  .cases i with
   |zero=>cases hi;cases hy;exact rv
   |succ i=>exact e4 i r y (by simpa using hi) (by simpa using hy)
theorem akz{K:aJ}:lM K (λxs H Q=>∃(p:az)(rows:List Pr),xs=[.ref p]/\bK K H p (rows.map λr=>V.ref r.1)/\0<rows.length/\(∀r∈rows,H r.1=aj (.tup (.int r.2.1::r.2.2)))/\(rows.map λr=>r.2.1).Nodup/\
  ∀r,rows[gh (pY rows) (rows.length-1)]?=aj r->Q (.ref r.1) H) Km:=by
 intro Z Θ env C σ H xs ds res S b e Q q;refine hide λGG gg=>?_
 unfold Km at e;split at e
 case h_2=>cases e
 rename_i ds
 obtain⟨l,hl,e⟩:=xV.mp e
 by_cases nd:(l.map (·.1)).Nodup
 case neg=>rw[aY nd] at e;cases e
 rw[aZ nd] at e
 obtain⟨x,hx,rfl⟩:=zO.mp e
 obtain⟨mx,gx⟩:=ZW hx
 obtain⟨v,rfl,bb⟩:=qK b
 obtain⟨a,vs,rfl,ha,r⟩:=bb.lst
 obtain⟨rows,rfl,e2,e3,e4⟩:=Y0 hl r
 have len:rows.length=l.length:=by have:=congrArg wA e2;simpa using this
 have pos:0<rows.length:=by rw[len];exact Ml mx
 refine gg ⟨a,rows,rfl,bK.of ha,pos,λr m=>ir (e3 r m),by rw[e2];exact nd,λr hr=>?_⟩;have val:∀i (hi:i<rows.length),(rows[i]).2.1=(l[i]'(by lia)).1:=λi hi=>by
  have:=congrArg (λz=>z[i]?) e2;simp only[jr,iI hi,iI (show i<l.length by lia),lR] at this;exact jb this
 have ge:=abI (bt:=pY rows) (val:=λi=>((rows[i]?).map λr=>r.2.1).getD 0) (n:=rows.length) (λi j hi hj=>by
  unfold pY;rw[iI hi,iI hj];rfl) (rows.length-1) (by lia)
 obtain⟨lt,er⟩:=kj.mp hr
 obtain⟨k,hk,ek⟩:=Dw mx
 have g1:=ge k (by lia);simp only[iI (show k<rows.length by lia),hr,lR,DN] at g1;rw[val k (by lia),ek] at g1;have g2:=gx _ (vY (show gh (pY rows) (rows.length-1)<l.length by lia));have v2:=val _ lt;rw[er] at v2;have eqv:(l[gh (pY rows) (rows.length-1)]'(by lia)).1=x.1:=by lia
 have ei:gh (pY rows) (rows.length-1)=k:=by
  rw[<-ek] at eqv;rcases aeG (gh (pY rows) (rows.length-1)) k with c|c|c
  .have:=zK.mp nd _ k (by rw[bC];lia) (by rw[bC];exact hk) c;simp only[DQ] at this;exact absurd eqv this
  .exact c
  .have:=zK.mp nd k _ (by rw[bC];exact hk) (by rw[bC];lia) c;simp only[DQ] at this;exact absurd eqv.symm this
 refine q _ H (bz.refl _ _) ⟨S,e4 _ r x hr ?_⟩;rw[ei,iI hk,ek]
abbrev acY:=List Key×az×Value
section
variable{prog:bB}{w:bA}{A:bV}{E:Value->aG->Prop}{s:aG}
def Uc(prog:bB)(w:bA)(h:bh)(D:az)(xs:List acY):Prop:=∃o es ep,h.get? D=aj o/\o.ExactDict/\o.data=.dict es ep/\es.toList=xs.map (entryOfKey (Ew (nH prog w)))
theorem Uc.at{h h':bh}{D:az}{xs:List acY}(d:Uc prog w h D xs)(k:∀o,h.get? D=aj o->h'.get? D=aj o):Uc prog w h' D xs:=
 let ⟨o,es,ep,h1,r⟩:=d
 ⟨o,es,ep,k o h1,r⟩
end
section
variable{X:Cx}
end
section
variable{X:Cx}
end
section
variable{prog:bB}{w:bA}{A:bV}{E:Value->aG->Prop}{s:aG}
theorem Y4{it t:az}{items:Array Value}(hne:t≠it):∀(n i:Nat)(s:aG)(Q:List Value->aG->Prop),s.heap.IsListIter it t i->s.heap.IsList t items->i+n<=items.size->
  (∀h',h'.IsListIter it t (i+n)->uO it s.heap h'->Q ((items.toList.drop i).take n) {s with heap:=h'})->aL (model prog w) A (draw (.ref it) n) Q E s
 |0,i,s,Q,hit,_,_,hQ=>by
  show aL _ _ (pure []) Q E s;exact aW (by simpa using hQ s.heap hit (Mv ..))
 |n+1,i,s,Q,hit,ht,hle,hQ=>by
  have hlt:i<items.size:=by lia
  show aL _ _ (jn (.ref it) >>= _) Q E s;refine aB (adR hit ht (x:=items[i]) (by simp[hlt]) λh₁ hit₁ hs₁=>?_);refine aB (jL (Y4 hne n (i+1) _ _ hit₁ (ht.extBut hs₁.extBut hne) (by lia) λh₂ hit₂ hs₂=>aW ?_));have hd:items.toList.drop i=items[i]::items.toList.drop (i+1):=by simp[Vk,hlt]
  have:=hQ h₂ (by rw[show i+(n+1)=i+1+n by lia];exact hit₂) (hs₁.trans hs₂);rw[hd,List.take_succ_cons] at this;exact this
theorem agE{t:az}{items:Array Value}{targets:List (Bool×(Value->Sem Unit))}{Q:Unit->aG->Prop}(hh:A.handled=ao)(ht:s.heap.IsList t items)
  (hn:targets.length=items.size)(hstar:targets.findIdx? (·.1)=ao)
  (h:∀h',Ei s.heap.objs.size s.heap h'->aL (model prog w) A (Ab (targets.map (·.2)) items.toList) Q E {s with heap:=h'}):
  aL (model prog w) A (unpack (.ref t) targets) Q E s:=by
 have hlt:t≠s.heap.objs.size:=by obtain⟨o,ho,_⟩:=ht;exact dX (bN ho)
 unfold unpack;rw[hn,hstar];refine aB (jL ?_);unfold Xr;refine aB ?_;unfold notIterableAtAll;refine aB (Wl ht.typeIs slot_list_iter.lookup ?_);refine aW ?_;simp only[kE,if_false];refine aB (jL (Hw ht ?_));refine aB (jL (Y4 hlt items.size 0 _ _ ⟨_,fV _ rfl,rfl,rfl⟩ (ht.push _) (by lia) λh₁ hit₁ hs₁=>?_));have hall:List.take items.size (List.drop 0 items.toList)=items.toList:=by
  rw[List.drop_zero];exact Vt (by simp)
 rw[hall];rw[aY (by simp)];have ht₁:h₁.IsList t items:=(ht.push _).extBut hs₁.extBut hlt;refine aB (jL (adW hh hit₁ ht₁ (by simp) λh₂ he₂=>?_));simp only[aeq,kE,if_false];exact aW (h h₂ λb o hb e=>he₂ b o hb (hs₁.extBut b o hb (bR _ e)))
end
def acZ(K:aJ)(n:Nat)(t:uz):TG:=λv σ H Q=>∃a xs,v=.ref a/\bK K H a xs/\xs.length=n/\t xs σ H Q
section
variable{X:Cx}{pos:Pos}
theorem abJ{es:List Expr}{k:Nat}{t:uz}{n:Nat}(hc:X.calm=au)(h:GX X es t)
  (hn:(rD es X.env).length=n:=by rfl)(hst:(rD es X.env).findIdx? (·.1)=ao:=by rfl):PG X (.Tuple es k pos) (acZ X.K n t):=by
 intro pins s σ H v u Q I r hw
 obtain⟨a,xs,e1,hq,hl,hw⟩:=hw
 subst e1;cases r
 obtain⟨its,rv,ht,hz⟩:=I.list hq
 rw[assign_Tuple];refine aB (tG (agE (I.ok.hd hc) ht.isList (by simp[hn,<-hl,rv.length]) hst λh' hx=>?_));have I1:Inv X pins σ H {s with heap:=h'}:=I.kept (t':=s.toks) λb o e=>hx b o (dX (bN e)) e
 exact h pins _ σ H xs _ Q I1 (by simpa using rv) hw
end
def Dq(n:Nat)(u:Dj):FG:=λd env=>match d with
 |.list ds=>if ds.length=n then u ds env else ao
 |_=>ao
theorem abK{K:aJ}(hu:GD K u fu):zG K (acZ K n u) (Dq n fu):=by
 intro Z Θ env C σ H v d env' S r e Q q;unfold Dq at e;split at e
 .rename_i ds;split at e
  .rename_i hl
   obtain⟨a,vs,rfl,ha,r⟩:=r
   exact⟨a,vs,rfl,bK.of (ir ha),(jc r).trans hl,hu Z Θ env C σ H vs ds env' S r e Q q⟩
  .cases e
 .cases e
theorem aaU{ks:List (List Key)}{sh:List Bool}(hs:∀k∈ks,k.map bH=sh):(mF ks).Pairwise λa b=>dg b a=aD:=by
 by_cases h2:ks.length<2
 .have l:=(YD ks).length_eq
  match h:mF ks with
  |[]=>exact .nil
  |[a]=>exact List.pairwise_singleton _ _
  |a::b::r=>rw[h] at l;simp at l;lia
 .have h0:0<ks.length:=by lia
  let f:Nat->List Key:=λi=>ks.getD i (ks.headD [])
  have fm:∀i,(f i).map bH=sh:=λi=>by
   show(ks.getD i (ks.headD [])).map bH=sh
   by_cases hi:i<ks.length
   .rw[vR,iI hi];exact hs _ (vY hi)
   .rw[vR,Dv (by lia)];cases ks with
    |nil=>cases h0
    |cons a r=>exact hs a dj
  have O:Ord λi j=>dg (f i) (f j):=⟨λa b h=>aan h,λa b c h1 h2=>by
   cases e:dg (f c) (f a) with
   |false=>rfl
   |true=>
    rcases abj ((fm c).trans (fm b).symm) ((fm b).trans (fm a).symm) e with h|h
    .exact ae3 (h.symm.trans h2)
    .exact ae3 (h.symm.trans h1)⟩
  obtain⟨hp,hu⟩:=(cZ.run (ajU O h0)).2
  unfold mF j6;rw[aY h2,zK];intro i j hi hj hij;rw[bC,kZ] at hi hj;have sz:=KP.size hp;have hu:=hu i j hij (by rw[<-sz];exact hj);rw[vf,vf,kY hi,kY hj] at hu;rw[DQ,DQ,aea,aea];exact hu
abbrev ux:=az×List Key×az
section
variable{prog:bB}{w:bA}{A:bV}{E:Value->aG->Prop}{s:aG}
theorem eq_self{a:az}{Q:Bool->aG->Prop}(h:Q au s):aL (model prog w) A (eqBool (.ref a) (.ref a)) Q E s:=by
 unfold eqBool;refine jL ?_;rw[aZ (by simp)];exact aB (qp (aW h))
theorem Y5{Q:Bool->aG->Prop}:∀{ks js:List Key}{us vs:List Value}{a b:az}{i:Nat},Vals (ks.map kV) us->Vals (js.map kV) vs->ks.map bH=js.map bH->(ks=js->a=b)->Q (dg ks js) s->KatLex prog w A au aD Q ((us++[cY a]).zip (vs++[cY b])) i s
 |[],[],_,_,_,_,_,ra,rb,_,hab,h=>by
  cases ra;cases rb;cases hab rfl;exact kat_cons (eq_self (kat_yes (kat_nil h)))
 |[],_::_,_,_,_,_,_,_,_,e,_,_=>by cases e
 |_::_,[],_,_,_,_,_,_,_,e,_,_=>by cases e
 |a::ks,b::js,us,vs,x,y,i,ra,rb,e,hxy,h=>by
  cases ra with
  |cons r1 ra=>
   cases rb with
   |cons r2 rb=>
    have e1:bH a=bH b:=(pH e).1;have e2:=(pH e).2;refine kat_cons (J7 r1 r2 (Ax a) (Ax b) prog w _ _ ?_);rw[Rm e1];unfold dg at h;by_cases hab:a=b
    .rw[aZ hab] at h;rw[dZ hab];exact kat_yes (Y5 ra rb e2 (λz=>hxy (by rw[hab,z])) h)
    .rw[aY hab] at h;rw[iU hab];exact kat_no (Zg r1 r2 e1 h)
end
def yP(h:bh)(r:ux):Prop:=∃its,Vals (r.2.1.map kV) its/\IsTup h r.1 (its++[cY r.2.2]).toArray
theorem yP.keep(t:yP h r)(k:∀b o,h.get? b=aj o->h'.get? b=aj o):yP h' r:=by
 obtain⟨its,v,o,e,c⟩:=t
 exact⟨its,v,o,k _ _ e,c⟩
theorem ZX:∀{rows:List ux},(∀r∈rows,yP h r/\r.2.1.map bH=b::sh)->∃fs,KatTups h (rows.map λr=>cY r.1) fs/\fs.length=rows.length/\∀f∈fs,∃k,RelV (kV k) f/\bH k=b
 |[],_=>⟨[],KatTups.nil,rfl,by simp⟩
 |r::rows,ha=>by
  obtain⟨fs,t,l,g⟩:=ZX (rows:=rows) λq hq=>ha q (dB _ hq)
  obtain⟨⟨its,v,o,e,c,n,d⟩,s⟩:=ha r dj
  obtain⟨a,ks,x⟩:=r
  cases ks with
  |nil=>cases s
  |cons k ks=>
   cases v with
   |@cons _ u _ us v1 v2=>
    refine⟨u::fs,KatTups.cons e c d (by simp) t,by simp[l],λf hf=>?_⟩
    rcases bJ.mp hf with rfl|hf
    .exact⟨k,v1,(pH s).1⟩
    .exact g f hf
theorem ahj{prog:bB}{w:bA}{A:bV}{s':aG}{rows:List ux}{b:Bool}{sh:List Bool}(ha:∀r∈rows,yP s'.heap r/\r.2.1.map bH=b::sh)(h0:0<rows.length)(Q:SortKind->aG->Prop)(q:Q (tuples' au) s'):
  aL (model prog w) A (keyKind' (rows.map λr=>cY r.1).toArray) Q (λ_ _=>False) s':=by
 obtain⟨fs,t,l,g⟩:=ZX ha
 refine kat_kind (T:=if b=au then .type "int" else .type "str") t (by lia) (λv hv=>?_) (by cases b<;>rfl) (by cases b<;>exact q)
 obtain⟨k,r,e⟩:=g v hv
 exact Yz r e
def qU(rows:List ux):List Row:=rows.map λr=>(r.1,r.2.1)
theorem ajf{prog:bB}{w:bA}{A:bV}{s':aG}{rows:List ux}{sh:List Bool}{i j:Nat}(ha:∀r∈rows,yP s'.heap r/\r.2.1.map bH=sh)(nd:(rows.map (·.2.1)).Nodup)(hi:i<rows.length)(hj:j<rows.length)(C:Bool->aG->Prop)(q:C (rM (qU rows) i j) s'):
  kas_ask prog w A (tuples' au) (rows.map λr=>cY r.1) i j C s':=by
 obtain⟨⟨its,v,o,e,c,n,d⟩,s1⟩:=ha rows[i] (vY hi)
 obtain⟨⟨its2,v2,o2,e2,c2,n2,d2⟩,s2⟩:=ha rows[j] (vY hj)
 unfold kas_ask;have g:∀k (hk:k<rows.length),(rows.map λr=>cY r.1).getD k jw=.ref rows[k].1:=λk hk=>by simp[nF,hk]
 rw[g i hi,g j hj];have l1:=v.length;have l2:=v2.length;have l3:rows[i].2.1.length=rows[j].2.1.length:=by
  have:=congrArg wA (s1.trans s2.symm);simpa using this
 refine kat_lt e d e2 d2 ?_;rw[bC] at l1 l2;have ez:decide ((its++[cY rows[i].2.2]).toArray.size<(its2++[cY rows[j].2.2]).toArray.size)=aD:=by
  rw[iU];simp only[gB,lO,dD,DW];lia
 rw[ez];have eo:∀k (hk:k<rows.length),ug (qU rows) k=rows[k].2.1:=λk hk=>by simp[ug,qU,nF,hk]
 unfold rM at q;rw[eo i hi,eo j hj] at q;refine Y5 (by simpa using v) (by simpa using v2) (s1.trans s2.symm) (λz=>?_) q;have:i=j:=by
  have hi':i<(rows.map (·.2.1)).length:=by simpa using hi
  have hj':j<(rows.map (·.2.1)).length:=by simpa using hj
  refine(List.getElem?_inj hi' nd).mp ?_
  rw[jr,jr,iI hi,iI hj];exact congrArg aj z
 subst this;rfl
theorem Ym:∀{xs ys:List V}{us:List Value},Vals (xs++ys) us->∃a b,us=a++b/\Vals xs a/\Vals ys b
 |[],ys,us,h=>⟨[],us,rfl,.nil,h⟩
 |x::xs,ys,us,h=>by
  cases h with
  |cons r t=>
   obtain⟨a,b,rfl,h1,h2⟩:=Ym t
   exact⟨_::a,b,rfl,.cons r h1,h2⟩
abbrev abL(K:aJ):List V->Hp->VK->Prop:=λxs H Q=>∃(p:az)(rows:List ux)(b:Bool)(sh:List Bool),xs=[.ref p]/\bK K H p (rows.map λr=>V.ref r.1)/\rows.length<64/\(∀r∈rows,H r.1=aj (.tup (r.2.1.map kV++[.ref r.2.2]))/\r.2.1.map bH=b::sh)/\(rows.map (·.2.1)).Nodup/\
  ∀l:az,H l=ao->Q (.ref l) (upd H l (.lst ((j6 (rows.map (·.2.1))).map λi=>(rows.map λr=>V.ref r.1).getD i .non)))
theorem ZZ(rows:List ux):(qU rows).map (·.2)=rows.map (·.2.1):=by
 unfold qU;rw[iK];rfl
theorem ajg(rows:List ux):(qU rows).map (λr=>cY r.1)=rows.map λr=>cY r.1:=by
 unfold qU;rw[iK];rfl
theorem alK(rows:List ux):(qU rows).map (λr=>V.ref r.1)=rows.map λr=>V.ref r.1:=by
 unfold qU;rw[iK];rfl
section
variable{X:Cx}
theorem aeJ:je X (.builtin "sorted") (abL X.K):=by
 intro pins s σ H xs us Q I r h
 obtain⟨p,rows,b,sh,rfl,hp,h64,ha,nd,q⟩:=h
 obtain⟨u,rfl,ru⟩:=vals1 r
 cases ru
 obtain⟨its,rv,pl,_⟩:=I.list hp
 rw[<-alK] at rv;have e0:=Rn rv;subst e0;rw[ajg] at pl;have tu:∀r∈rows,yP s.heap r/\r.2.1.map bH=b::sh:=λr hr=>by
  obtain⟨_,its,v,t⟩:=(show fH X.prog X.w H s.heap r.1 (.tup (r.2.1.map kV++[.ref r.2.2])) from I.hok r.1 _ (ha r hr).1)
  obtain⟨i1,i2,e,v1,v2⟩:=Ym v
  obtain⟨w,rfl,ew⟩:=vals1 v2
  cases ew;subst e
  exact⟨⟨i1,v1,t⟩,(ha r hr).2⟩
 refine OD (κ:=tuples' au) (lt:=rM (qU rows)) (vs:=rows.map λr=>cY r.1) (Rl:=λp=>p=j6 (rows.map (·.2.1))) (by simpa using h64) (λh2=>by rw[<-ZZ];exact Qe (by rw[bC,qU,bC]) h2) (λh2=>by rw[<-ZZ];exact Ph (by rw[bC,qU,bC]) h2) (λR hR=>?_) (λh2 s' k Q' q'=>ahj (λr hr=>⟨(tu r hr).1.keep k,(tu r hr).2⟩) (by rw[bC] at h2;lia) Q' q')
  (λh2 s' k i j hi hj C q'=>ajf (sh:=b::sh) (λr hr=>⟨(tu r hr).1.keep k,(tu r hr).2⟩) nd (by simpa using hi) (by simpa using hj) C q') λp D h' c tk hp' hrl hD k e=>?_
 .refine collect_list pl.isList (hR _ _ s.toks ?_ (λb o e=>?_) rfl)
  .rw[aeX,size_push'];lia
  .have hlt:b≠s.heap.objs.size:=dX (bN e);rw[aec _ _ _ _ hlt];exact bR _ e
 .subst hrl;have vv:∀p:List Nat,(∀i∈p,i<rows.length)->Vals (p.map λi=>(rows.map λr=>V.ref r.1).getD i .non) (p.map λi=>(rows.map λr=>cY r.1).getD i jw):=λp=>by
   induction p with
   |nil=>exact λ_=>.nil
   |cons i p ih=>
    intro hp;refine .cons ?_ (ih λj hj=>hp j (dB _ hj));have hi:=hp i dj;simp[nF,hi];rfl
  have hlt:∀i∈j6 (rows.map (·.2.1)),i<rows.length:=λi hi=>by
   have:=ql.mp (hp'.mem_iff.mp hi);simpa using this
  refine⟨.ref D,_,I.laid (o:=.lst ((j6 (rows.map (·.2.1))).map λi=>(rows.map λr=>V.ref r.1).getD i .non)) k hD ⟨?_,_,c,vv _ hlt,by simpa[seqObj] using e⟩,rfl,q D (I.hok.fresh hD)⟩
  rw[bC,hp'.length_eq,pD,bC,jR];lia
end
def Ud:aA->Option (List Key)
 |.tuple ds=>match ds.getLast? with
  |some (.tuple _)=>keysOf ds.dropLast
  |_=>ao
 |_=>ao
def zp:List aA->Option (List (List Key))
 |[]=>aj []
 |d::r=>(Ud d).bind λk=>(zp r).map λt=>k::t
def K5(ks:List (List Key))(ds:List aA):List aA:=(j6 ks).map λi=>ds.getD i .none
def Fw:List aA->Option Vl
 |[.list ds]=>(zp ds).bind λks=>match ks with
  |(b::sh)::r=>if(r.length<63/\r.all (λk=>decide (k.map bH=(b::sh).map bH))=au)/\((b::sh)::r).Nodup then aj (.ow (.list (K5 ((b::sh)::r) ds))) else ao
  |_=>ao
 |_=>ao
theorem Z1:∀{ds:List aA}{ks:List (List Key)},zp ds=aj ks->ks.length=ds.length
 |[],ks,h=>by cases h;rfl
 |d::ds,ks,h=>by
  obtain⟨k,h1,h⟩:=xV.mp h
  obtain⟨t,h2,rfl⟩:=zO.mp h
  rw[dD,dD,Z1 h2]
theorem abM:∀{ds:List aA}{ks:List (List Key)}{vs:List V},zp ds=aj ks->bW E ds vs->∃rows:List ux,vs=rows.map (λr=>V.ref r.1)/\(∀r∈rows,E r.1=aj (.tup (r.2.1.map kV++[.ref r.2.2])))/\rows.map (·.2.1)=ks
 |[],ks,vs,h,r=>by
  cases h;cases(show vs=[] from r)
  exact⟨[],rfl,λ_ h=>(nomatch h),rfl⟩
 |d::ds,ks,vs,h,r=>by
  obtain⟨k,h1,h⟩:=xV.mp h
  obtain⟨t,h2,rfl⟩:=zO.mp h
  obtain⟨v,vs',rfl,rv,rs⟩:=r
  obtain⟨rows,rfl,hr,rfl⟩:=abM h2 rs
  unfold Ud at h1;split at h1
  case h_2=>cases h1
  rename_i xs;split at h1
  case h_2=>cases h1
  rename_i ys hl
  obtain⟨a,us,rfl,ha,ru⟩:=rv
  have ex:xs=xs.dropLast++[.tuple ys]:=by
   obtain⟨zs,rfl⟩:=List.getLast?_eq_some_iff.mp hl
   simp
  rw[ex] at ru
  obtain⟨u1,u2,rfl,r1,r2⟩:=YH ru
  cases yw h1 r1
  obtain⟨w,t,rfl,⟨b,ws,rfl,_⟩,rn⟩:=r2
  cases(show t=[] from rn)
  refine⟨(a,k,b)::rows,rfl,λr hr'=>?_,rfl⟩
  rcases bJ.mp hr' with rfl|hr'
  .exact ha
  .exact hr r hr'
theorem Z2{ds:List aA}{vs:List V}(r:bW E ds vs):∀(p:List Nat),(∀i∈p,i<ds.length)->bW E (p.map λi=>ds.getD i .none) (p.map λi=>vs.getD i .non)
 |[],_=>rfl
 |i::p,h=>by
  have hi:=h i dj
  obtain⟨v,e,rv⟩:=uc r (iI hi)
  refine⟨v,_,?_,?_,Z2 r p λj hj=>h j (dB _ hj)⟩
  .rw[cV,vR,e];rfl
  .show RZ E (ds.getD i .none) v;rw[vR,iI hi];exact rv
theorem ajh{K:aJ}:lM K (abL K) Fw:=by
 intro Z Θ env C σ H xs ds res S b e Q q;unfold Fw at e;split at e
 case h_2=>cases e
 rename_i ds
 obtain⟨ks,h1,e⟩:=xV.mp e
 split at e
 case h_2=>cases e
 rename_i k0 sh rr;split at e
 case isFalse=>cases e
 rename_i hc;cases e
 obtain⟨⟨h64,hall⟩,nd⟩:=hc
 obtain⟨v,rfl,bb⟩:=qK b
 obtain⟨a,vs,rfl,ha,r⟩:=bb.lst
 obtain⟨rows,rfl,hr,ek⟩:=abM h1 r
 have lk:=Z1 h1;have lr:rows.length=ds.length:=by
  have:=jc r;simpa using this
 refine⟨a,rows,bH k0,sh.map bH,rfl,bK.of ha,?_,λr hr'=>⟨amK (hr r hr'),?_⟩,by rw[ek];exact nd,λl hl=>q _ _ (bz.upd hl) ?_⟩
 .rw[lr,<-lk,dD];lia
 .have m:r.2.1∈(k0::sh)::rr:=by rw[<-ek];exact ji.mpr ⟨r,hr',rfl⟩
  rcases bJ.mp m with e|m
  .rw[e];rfl
  .exact of_decide_eq_true (jK.mp hall _ m)
 .rw[ek];refine qx S (Z2 r _ λi hi=>?_) hl;have:=ql.mp ((Jh _).mem_iff.mp hi);rw[<-lk];exact this
end L2
namespace Vf
open PySem L2
abbrev zaa:List Str:=["house","part","outer","over"]
abbrev zab:List Str:=["house","part"]
abbrev zac:List Str:=["house","part","amount","fitting","bound","seats"]
abbrev zad:List Str:=["house","part","amount"]
abbrev zae:List Str:=["house","part","name","found"]
abbrev zaf:List Str:=["thing"]
abbrev zag:List Str:=["thing","parts","ranks","leaves","rules","names"]
abbrev zah:List Str:=["thing","names","outer"]
abbrev zai:List Str:=["outer","name"]
abbrev zaj:List Str:=["thing","names"]
abbrev zak:List Str:=["row","names"]
abbrev zal:List Str:=["row","names","part","bound","seats"]
abbrev zam:List Str:=["thing","many"]
abbrev zan:List Str:=["thing","many","most"]
abbrev zao:List Str:=["keys"]
abbrev zap:List Str:=["first","last"]
abbrev zaq:List Str:=["house","person","part","day","over","held"]
abbrev zar:List Str:=["house","person","part","day"]
abbrev zas:List Str:=["house","rank","part","day","people"]
abbrev zat:List Str:=["house","rank","part","day"]
abbrev zau:List Str:=["_law_script","_law_k"]
abbrev zav:List Str:=["_law_box_here","_law_many"]
abbrev zaw:List Str:=["_law_box_here","_law_many","_law_letters","_law_found","_law_k","_law_size","_law_name"]
abbrev zax:List Str:=["_law_found","_law_due"]
abbrev zay:List Str:=["_law_house","_law_whole","_law_part","_law_beside","_law_low","_law_some","_law_bare"]
abbrev zaz:List Str:=["_law_house","_law_whole","_law_part","_law_beside","_law_low"]
abbrev za0:List Str:=["_law_script"]
abbrev za1:List Str:=["name","within"]
abbrev za2:List Str:=["name"]
abbrev za3:List Str:=["rank","where"]
abbrev za4:List Str:=["row"]
abbrev za5:List Str:=["names"]
abbrev za6:List Str:=["_law_one"]
abbrev za7:List Str:=["_law_total"]
def top(i:Nat):dw:=PySem.Challenge.pw_rankseals_k12_known_houses.main.body.getD i (.Pass ⟨0,0,0,0⟩)
abbrev Ij:dw:=top 1
theorem Ia:gY zaa zab (bY Ij):=⟨rfl,rfl,rfl,by decide +kernel,rfl,by decide +kernel,by decide +kernel⟩
abbrev Es:dw:=top 3
theorem Ir:gY zac zad (bY Es):=⟨rfl,rfl,rfl,by decide +kernel,rfl,by decide +kernel,by decide +kernel⟩
abbrev Iu:dw:=top 4
theorem Oj:gY zae zab (bY Iu):=⟨rfl,rfl,rfl,by decide +kernel,rfl,by decide +kernel,by decide +kernel⟩
abbrev Jk:dw:=top 7
theorem ahk:gY zaf zaf (bY Jk):=⟨rfl,rfl,rfl,by decide +kernel,rfl,by decide +kernel,by decide +kernel⟩
abbrev OJ:dw:=top 8
theorem af7:gY zaf zaf (bY OJ):=⟨rfl,rfl,rfl,by decide +kernel,rfl,by decide +kernel,by decide +kernel⟩
abbrev Jd:dw:=top 17
theorem Ah:gY zag zaf (bY Jd):=⟨rfl,rfl,rfl,by decide +kernel,rfl,by decide +kernel,by decide +kernel⟩
abbrev wB:dw:=top 18
theorem Ol:gY zah zaf (bY wB):=⟨rfl,rfl,rfl,by decide +kernel,rfl,by decide +kernel,by decide +kernel⟩
abbrev Mw:dw:=top 19
theorem Mq:gY (["outer","name","step"]:List Str) zai (bY Mw):=⟨rfl,rfl,rfl,by decide +kernel,rfl,by decide +kernel,by decide +kernel⟩
abbrev El:dw:=top 20
theorem af8:gY zaj zaj (bY El):=⟨rfl,rfl,rfl,by decide +kernel,rfl,by decide +kernel,by decide +kernel⟩
abbrev NZ:dw:=top 21
theorem yf:gY (["row","names","number","person","rank","part","first","last"]:List Str) zak (bY NZ):=⟨rfl,rfl,rfl,by decide +kernel,rfl,by decide +kernel,by decide +kernel⟩
abbrev Ef:dw:=top 22
theorem afF:gY zaj zaj (bY Ef):=⟨rfl,rfl,rfl,by decide +kernel,rfl,by decide +kernel,by decide +kernel⟩
abbrev Nr:dw:=top 23
theorem wj:gY (["row","names","number","giver","taker","part","first","last","most"]:List Str) zak (bY Nr):=⟨rfl,rfl,rfl,by decide +kernel,rfl,by decide +kernel,by decide +kernel⟩
abbrev Em:dw:=top 24
theorem af9:gY zaj zaj (bY Em):=⟨rfl,rfl,rfl,by decide +kernel,rfl,by decide +kernel,by decide +kernel⟩
abbrev Ib:dw:=top 25
theorem HN:gY zal zak (bY Ib):=⟨rfl,rfl,rfl,by decide +kernel,rfl,by decide +kernel,by decide +kernel⟩
abbrev N5:dw:=top 26
theorem afn:gY zam zam (bY N5):=⟨rfl,rfl,rfl,by decide +kernel,rfl,by decide +kernel,by decide +kernel⟩
abbrev HD:dw:=top 27
theorem ae4:gY zan zan (bY HD):=⟨rfl,rfl,rfl,by decide +kernel,rfl,by decide +kernel,by decide +kernel⟩
abbrev Iv:dw:=top 28
theorem aga:gY zao zao (bY Iv):=⟨rfl,rfl,rfl,by decide +kernel,rfl,by decide +kernel,by decide +kernel⟩
abbrev M3:dw:=top 29
theorem aeK:gY zaf zaf (bY M3):=⟨rfl,rfl,rfl,by decide +kernel,rfl,by decide +kernel,by decide +kernel⟩
abbrev Qo:dw:=top 30
theorem ahl:gY zaf zaf (bY Qo):=⟨rfl,rfl,rfl,by decide +kernel,rfl,by decide +kernel,by decide +kernel⟩
abbrev Pq:dw:=top 31
theorem agF:gY zap zap (bY Pq):=⟨rfl,rfl,rfl,by decide +kernel,rfl,by decide +kernel,by decide +kernel⟩
abbrev Jl:dw:=top 33
theorem Pu:gY zaq zar (bY Jl):=⟨rfl,rfl,rfl,by decide +kernel,rfl,by decide +kernel,by decide +kernel⟩
abbrev Eg:dw:=top 34
theorem Xb:gY zas zat (bY Eg):=⟨rfl,rfl,rfl,by decide +kernel,rfl,by decide +kernel,by decide +kernel⟩
abbrev Sx:dw:=top 36
theorem RP:gY (["_law_script","_law_k","_law_cell"]:List Str) zau (bY Sx):=⟨rfl,rfl,rfl,by decide +kernel,rfl,by decide +kernel,by decide +kernel⟩
abbrev RQ:dw:=top 37
theorem Q8:gY (["_law_box_here","_law_many","_law_found","_law_once"]:List Str) zav (bY RQ):=⟨rfl,rfl,rfl,by decide +kernel,rfl,by decide +kernel,by decide +kernel⟩
abbrev Ba:dw:=top 38
theorem yz:gY zaw zav (bY Ba):=⟨rfl,rfl,rfl,by decide +kernel,rfl,by decide +kernel,by decide +kernel⟩
abbrev FJ:dw:=top 39
theorem aji:gY zax zax (bY FJ):=⟨rfl,rfl,rfl,by decide +kernel,rfl,by decide +kernel,by decide +kernel⟩
abbrev yg:dw:=top 40
theorem HF:gY zay zaz (bY yg):=⟨rfl,rfl,rfl,by decide +kernel,rfl,by decide +kernel,by decide +kernel⟩
abbrev Ti:dw:=top 41
theorem jy:gY (["_law_script","_law_k","_law_box_here","_law_names_here","_law_whole","_law_part","_law_beside","_law_head","_law_clerk","_law_other","_law_day","_law_low","_law_ranks","_law_rules","_law_parts","_law_house","_law_turn","_law_due","_law_found","_law_people"]:List Str) za0 (bY Ti):=⟨rfl,rfl,rfl,by decide +kernel,rfl,by decide +kernel,by decide +kernel⟩
structure Txt(K:aJ)(mg:Str->Option Value)(cB cD cF cC cG cH cI cJ:Tok):Prop where
 KC:mg "abs"=ao
 oV:mg "all"=ao
 BZ:mg "bool"=ao
 xj:mg "int"=ao
 lE:mg "isinstance"=ao
 rW:mg "len"=ao
 Gg:mg "list"=ao
 KD:mg "max"=ao
 Tj:mg "min"=ao
 Bp:mg "range"=ao
 Bb:mg "sorted"=ao
 Gu:mg "str"=ao
 rG:mg "tuple"=ao
 KH:mg "zip"=ao
 afo:mg "HIGHEST_RANK"=aj (.int 9 cB)
 afG:mg "LOWEST_RANK"=aj (.int 1 cD)
 afH:mg "MOST_LEAVES"=aj (.int 16 cF)
 afp:mg "MOST_LETTERS"=aj (.int 8 cC)
 agb:mg "MOST_PARTS"=aj (.int 8 cG)
 agc:mg "MOST_RANKS"=aj (.int 20 cH)
 agd:mg "MOST_RULES"=aj (.int 10 cI)
 age:mg "MOST_SEATS"=aj (.int 6 cJ)
@[reducible] def Wo:FT:=(gQ (bu pU (aO 1) (aO 2)))
@[reducible] def Wq:FS:=(bI (CT 3 (aQ 1)) (dJ 1 (bu dW (aO 2) (aO 1))))
@[reducible] def Nh:FE:=(aQ 0)
@[reducible] def Ni:FE:=(aQ 1)
@[reducible] def Om:FS:=(bI (dJ 2 (xT (oY (aH (bu dW (aO 0) (aH (aM (.int 0)))))) (.many 2) cM Nh Ni [])) (bI (dJ 3 (iG aV)) (bI (U6 Wo Wq) (yW 3))))
def uP:FN:=fN 2 4 Om
@[reducible] def WM:FT:=(gQ (bu jW (aO 0) (aO 3)))
@[reducible] def WN:FE:=(cu (aC (aQ 1) (aC (aQ 2) aV)))
@[reducible] def WQ:FS:=(bI (dJ 3 (gW (oY (aH (bu dW (aO 0) (aH (aM (.int 3)))))) (.many 3) WM WN [2])) (eX (gq (aO 3)) (yW 3) fK))
@[reducible] def Iw:FS:=(bI (nY (iV (bO uP (aC (aQ 0) (aC (aQ 1) aV)))) (dz 2) WQ) (cQ (iG aV)))
def Iz:FN:=fN 2 4 Iw
@[reducible] def N6:FE:=(cu (aC (aQ 0) (aC (Gz (gQ (bu jW (aO 1) (aH (aM (.str (bZ "")))))) (aQ 2) (aQ 1)) aV)))
@[reducible] def Xc:FT:=(gQ (bu j7 (aO 0) (aO 2)))
@[reducible] def Xd:FE:=(cu (aC (aQ 0) (aC (aQ 1) aV)))
@[reducible] def Je:FS:=(bI (dJ 3 (gW (oY (aH (bO Iz (aC (aQ 0) (aC (aQ 1) aV))))) (.many 2) Xc Xd [2])) (bI (eX (gP (gq (aO 3))) (cQ (cu aV)) fK) (bI (uw (eV Km (dO (aO 3) eU)) (qb 2 (eG (dz 4) (eG (dz 5) nU)))) (cQ (eV tY (dO (aH (gW (oY (aO 5)) (.many 2) cM N6 [1])) eU))))))
def pJ:FN:=fN 3 6 Je
@[reducible] def Oo:FE:=(uv j7 j7 (aH (aM (.str (bZ "a")))) (aO 0) (aH (aM (.str (bZ "z")))))
@[reducible] def Qp:FS:=(bI (eX (ni (gP (gq (aH (jz "str" (aO 0))))) (gP (gQ (uv j7 j7 (aH (aM (.int 1))) (aH (eV mq (dO (aO 0) eU))) (aH (aM (.int 8))))))) (cQ (aM (.bool aD))) fK) (cQ (eV mC (dO (aH (gW (iB (aO 0)) .one cM Oo [])) eU))))
def uX:FN:=fN 1 1 Qp
@[reducible] def O1:FS:=(cQ (gf (jz "int" (aO 0)) (yV (jz "bool" (aO 0)))))
def Ai:FN:=fN 1 1 O1
@[reducible] def N7:FS:=(cQ (gf (jz "tuple" (aO 0)) (bu jW (aH (eV mq (dO (aO 0) eU))) (aO 1))))
def ym:FN:=fN 2 2 N7
@[reducible] def VJ:FE:=(bO ym (aC (aQ 0) (aC (aQ 1) aV)))
@[reducible] def Nj:FS:=(bI (eX (ni (gP (gq (aH (jz "tuple" (aO 0))))) (gQ (bu Gx (aH (eV mq (dO (aO 0) eU))) (aO 2)))) (cQ (aM (.bool aD))) fK) (cQ (eV mC (dO (aH (gW (iB (aO 0)) .one cM VJ [1])) eU))))
def qj:FN:=fN 3 3 Nj
@[reducible] def HQ:FE:=(bu vK (aO 0) (aO 1))
@[reducible] def O2:FS:=(cQ (eV mC (dO (aH (gW (Dd (dO (aO 0) (dO (aH (oF (aO 0) (oE (aH (aM (.int 1)))) oX)) eU))) (.many 2) cM HQ [])) eU)))
def tM:FN:=fN 1 1 O2
@[reducible] def M4:FS:=(cQ (gf (bO Ai (aC (aQ 0) aV)) (bu vL (aO 0) (aH (aM (.int 0))))))
def qi:FN:=fN 1 1 M4
@[reducible] def Qq:FS:=(cQ (gf (bO Ai (aC (aQ 0) aV)) (uv j7 j7 (aH (aM (.int 1))) (aO 0) (aH (aM (.int 9))))))
def Aq:FN:=fN 1 1 Qq
@[reducible] def Px:FS:=(cQ (gf (bO qi (aC (aQ 0) aV)) (gf (bO qi (aC (aQ 1) aV)) (bu j7 (aO 0) (aO 1)))))
def Al:FN:=fN 2 2 Px
@[reducible] def VB:FS:=(bI (dJ 1 (bu dW (aO 0) (aO 1))) (eX (gQ (bu jW (aO 1) (aH (aM (.str (bZ "")))))) (cQ (aM (.bool au))) fK))
@[reducible] def Mx:FS:=(bI (nY (uC (aH (eV mq (dO (aO 0) eU)))) (dz 2) VB) (cQ (aM (.bool aD))))
def HB:FN:=fN 2 3 Mx
@[reducible] def Nt:FE:=(bO HB (aC (aQ 1) (aC (aQ 0) aV)))
@[reducible] def WR:FE:=(aQ 0)
@[reducible] def WT:FE:=(aQ 1)
@[reducible] def WW:FE:=(xx (bu jW (aO 1) (aH (aM (.str (bZ ""))))) (bu pU (aO 1) (aO 2)))
@[reducible] def Nu:FE:=(bO uX (aC (aQ 0) aV))
@[reducible] def Nv:FE:=(aQ 0)
@[reducible] def O3:FS:=(bI (eX (gP (gq (aH (bO qj (aC (aQ 0) (aC (aM (.int 2)) (aC (aM (.int 8)) aV))))))) (cQ (aM (.bool aD))) fK) (bI (dJ 1 (gW (oY (aO 0)) (.many 2) cM Nv [])) (bI (eX (ni (gP (gq (aH (eV mC (dO (aH (gW (iB (aO 1)) .one cM Nu [])) eU))))) (gP (gq (aH (bO tM (aC (aQ 1) aV)))))) (cQ (aM (.bool aD))) fK) (bI (eX (gP (gq (aH (eV mC (dO (aH (gW (oY (aO 0)) (.many 2) cM WW [1])) eU))))) (cQ (aM (.bool aD))) fK) (bI (dJ 2 (xT (oY (aO 0)) (.many 2) cM WR WT [])) (cQ (eV mC (dO (aH (gW (iB (aO 1)) .one cM Nt [2])) eU))))))))
def IK:FN:=fN 1 3 O3
@[reducible] def N8:FS:=(bI (uw (aQ 0) (qb 6 (eG (dz 2) (eG (dz 3) (eG (dz 4) (eG (dz 5) (eG (dz 6) (eG (dz 7) nU)))))))) (bI (eX (ni (gP (gq (aH (bO qi (aC (aQ 2) aV))))) (ni (gP (gq (aH (bO uX (aC (aQ 3) aV))))) (gP (gq (aH (bO Aq (aC (aQ 4) aV))))))) (cQ (aM (.bool aD))) fK) (cQ (gf (bu pU (aO 5) (aO 1)) (bO Al (aC (aQ 6) (aC (aQ 7) aV)))))))
def Ie:FN:=fN 2 8 N8
@[reducible] def WX:FE:=(bu dW (aO 0) (aH (aM (.int 0))))
@[reducible] def WY:FE:=(bO Ie (aC (aQ 0) (aC (aQ 1) aV)))
@[reducible] def O4:FS:=(bI (eX (gP (gq (aH (bO qj (aC (aQ 0) (aC (aM (.int 6)) (aC (aM (.int 20)) aV))))))) (cQ (aM (.bool aD))) fK) (cQ (gf (eV mC (dO (aH (gW (iB (aO 0)) .one cM WY [1])) eU)) (bO tM (aC (gW (iB (aO 0)) .one cM WX []) aV)))))
def IV:FN:=fN 2 2 O4
@[reducible] def Nx:FS:=(bI (uw (aQ 0) (qb 7 (eG (dz 2) (eG (dz 3) (eG (dz 4) (eG (dz 5) (eG (dz 6) (eG (dz 7) (eG (dz 8) nU))))))))) (bI (eX (ni (gP (gq (aH (bO qi (aC (aQ 2) aV))))) (gP (gq (aH (bO qi (aC (aQ 8) aV)))))) (cQ (aM (.bool aD))) fK) (bI (eX (ni (gP (gq (aH (bO uX (aC (aQ 3) aV))))) (ni (gP (gq (aH (bO uX (aC (aQ 4) aV))))) (gQ (bu jW (aO 3) (aO 4))))) (cQ (aM (.bool aD))) fK) (cQ (gf (bu pU (aO 5) (aO 1)) (bO Al (aC (aQ 6) (aC (aQ 7) aV))))))))
def HR:FN:=fN 2 9 Nx
@[reducible] def Wr:FE:=(bu dW (aO 0) (aH (aM (.int 0))))
@[reducible] def Ws:FE:=(bO HR (aC (aQ 0) (aC (aQ 1) aV)))
@[reducible] def Oq:FS:=(bI (eX (gP (gq (aH (bO qj (aC (aQ 0) (aC (aM (.int 7)) (aC (aM (.int 16)) aV))))))) (cQ (aM (.bool aD))) fK) (cQ (gf (eV mC (dO (aH (gW (iB (aO 0)) .one cM Ws [1])) eU)) (bO tM (aC (gW (iB (aO 0)) .one cM Wr []) aV)))))
def Ik:FN:=fN 2 2 Oq
@[reducible] def We:FE:=(gf (bO Aq (aC (aQ 0) aV)) (xx (bu jW (aO 1) (aH (aM (.str (bZ ""))))) (bu pU (aO 1) (aO 2))))
@[reducible] def Oa:FS:=(bI (uw (aQ 0) (qb 3 (eG (dz 2) (eG (dz 3) (eG (dz 4) nU))))) (bI (eX (ni (gQ (bu wN (aO 2) (aO 1))) (gP (gq (aH (bO qi (aC (aQ 3) aV)))))) (cQ (aM (.bool aD))) fK) (bI (eX (gP (gq (aH (bO qj (aC (aQ 4) (aC (aM (.int 2)) (aC (aM (.int 6)) aV))))))) (cQ (aM (.bool aD))) fK) (cQ (eV mC (dO (aH (gW (oY (aO 4)) (.many 2) cM We [1])) eU))))))
def Ig:FN:=fN 2 5 Oa
@[reducible] def W0:FE:=(cu (aC (aQ 0) (aC (aQ 1) aV)))
@[reducible] def W2:FE:=(bO Ig (aC (aQ 0) (aC (aQ 1) aV)))
@[reducible] def O5:FS:=(bI (eX (gP (gq (aH (bO qj (aC (aQ 0) (aC (aM (.int 3)) (aC (aM (.int 10)) aV))))))) (cQ (aM (.bool aD))) fK) (bI (eX (gP (gq (aH (eV mC (dO (aH (gW (iB (aO 0)) .one cM W2 [1])) eU))))) (cQ (aM (.bool aD))) fK) (cQ (bO tM (aC (gW (oY (aO 0)) (.many 3) cM W0 []) aV)))))
def IW:FN:=fN 2 2 O5
@[reducible] def Xe:FE:=(aQ 0)
@[reducible] def Py:FS:=(bI (eX (gP (gq (aH (bO ym (aC (aQ 0) (aC (aM (.int 4)) aV)))))) (cQ (aM (.bool aD))) fK) (bI (uw (aQ 0) (qb 4 (eG (dz 1) (eG (dz 2) (eG (dz 3) (eG (dz 4) nU)))))) (bI (eX (gP (gq (aH (bO IK (aC (aQ 1) aV))))) (cQ (aM (.bool aD))) fK) (bI (dJ 5 (gW (oY (aO 1)) (.many 2) cM Xe [])) (cQ (gf (bO IV (aC (aQ 2) (aC (aQ 5) aV))) (gf (bO Ik (aC (aQ 3) (aC (aQ 5) aV))) (bO IW (aC (aQ 4) (aC (aQ 5) aV))))))))))
def Et:FN:=fN 1 6 Py
@[reducible] def Ot:FT:=(vm (gQ (bu jW (aO 1) (aO 6))) (vm (gQ (bu pU (aO 3) (aO 7))) (gQ (uv j7 j7 (aO 4) (aO 8) (aO 5)))))
@[reducible] def Ou:FE:=(aQ 2)
@[reducible] def Qs:FS:=(bI (dJ 4 (bO uP (aC (aQ 0) (aC (aQ 2) aV)))) (bI (dJ 5 (gW (oY (aH (bu dW (aO 0) (aH (aM (.int 1)))))) (.many 6) Ot Ou [1,4,3])) (cQ (Kv (aO 5) (aH (aM (.int 0)))))))
def pK:FN:=fN 4 6 Qs
@[reducible] def Wt:FT:=(gQ (bu vL (aH (bO pK (aC (aQ 1) (aC (aQ 0) (aC (aQ 2) (aC (aQ 3) aV)))))) (aO 4)))
@[reducible] def Wu:FE:=(aQ 0)
@[reducible] def Nk:FE:=(bu dW (aO 0) (aH (aM (.int 1))))
@[reducible] def Ov:FS:=(bI (dJ 4 (Hi (iB (aH (bu dW (aO 0) (aH (aM (.int 1)))))) .one cM Nk [])) (cQ (gW (iB (aO 4)) .one Wt Wu [0,2,3,1])))
def uQ:FN:=fN 4 5 Ov
@[reducible] def Sy:FS:=(bI (dJ 2 (aM (.int 0))) (bI (eX (gQ (bu vK (aO 1) (aH (xg 0)))) (dJ 2 (GJ 0 (aO 1))) fK) (cQ (iG (aC (bu pP (aH (eV Gr (dO (aO 2) eU))) (aH (eV vp (dO (aH (bu vL (aH (eV Gr (dO (aO 2) eU))) (aH (bu oR (aH (aM (.int 10))) (aH (aM (.int 18))))))) eU)))) (aC (bu cL (aH (bu cL (aH (bu rO (aO 2) (aH (aM (.int 2147483629))))) (aH (bu pP (aH (aM (.int 7919))) (aO 1))))) (aH (aM (.int 11)))) (aC (aM (.int 0)) aV)))))))
def Ko:FN:=fN 2 3 Sy
@[reducible] def J4:FS:=(bI (eX (gQ (bu Gx (aH (su 0 (aH (aM (.int 0))))) (aH (aM (.int 0))))) (bI (dJ 2 (bu rO (aH (su 0 (aH (aM (.int 0))))) (aO 1))) (bI (GF 0 (aH (aM (.int 0))) (bu By (aH (su 0 (aH (aM (.int 0))))) (aO 1))) (yW 2))) fK) (bI (GF 0 (aH (aM (.int 2))) (bu cL (aH (su 0 (aH (aM (.int 2))))) (aH (aM (.int 1))))) (bI (dJ 3 (bu rO (aH (bu oR (aH (bu cL (aH (su 0 (aH (aM (.int 1))))) (aH (bu pP (aH (aM (.int 39373))) (aH (su 0 (aH (aM (.int 2))))))))) (aH (aM (.int 5))))) (aH (aM (.int 2147483647))))) (cQ (bu rO (aH (bu By (aH (bu rO (aH (bu cL (aH (bu pP (aO 3) (aH (bu cL (aH (bu rO (aO 3) (aH (aM (.int 40009))))) (aH (aM (.int 7))))))) (aH (bu pP (aH (su 0 (aH (aM (.int 2))))) (aH (aM (.int 7919))))))) (aH (aM (.int 2147483629))))) (aH (aM (.int 64))))) (aO 1))))))
def mO:FN:=fN 2 4 J4
@[reducible] def XD:FE:=(bu cL (aH (oF (aO 1) oX (oE (aH (aM (.int 7)))))) (aO 0))
@[reducible] def XF:FT:=(gQ (bu wN (aO 0) (aO 1)))
@[reducible] def XH:FE:=(aQ 0)
@[reducible] def O6:FE:=(bu dW (aO 1) (aH (bO mO (aC (aQ 2) (aC (aM (.int 26)) aV)))))
@[reducible] def I9:FS:=(bI (dJ 5 (bu dW (aH (iG (aC (aM (.int 1)) (aC (aM (.int 8)) (aC (aM (.int 2)) aV))))) (aH (bO mO (aC (aQ 0) (aC (aM (.int 3)) aV)))))) (bI (dJ 6 (Kw (aH (aM (.str (bZ "")))) (aH (gW (uC (aO 5)) .one cM O6 [2,0])))) (bI (eX (vm (gQ (bu jW (aH (bO mO (aC (aQ 0) (aC (aM (.int 3)) aV)))) (aH (aM (.int 0))))) (gQ (bu m9 (aO 3) (aH (iG aV))))) (dJ 6 (bu cL (aH (oF (aH (bu dW (aO 3) (aH (bO mO (aC (aQ 0) (aC (eV mq (dO (aO 3) eU)) aV)))))) oX (oE (aH (aM (.int 7)))))) (aH (bu dW (aO 2) (aH (bO mO (aC (aQ 0) (aC (aM (.int 26)) aV)))))))) fK) (CT 3 (bu dW (aH (gW (iB (aH (bu cL (aH (iG (aC (aQ 6) aV))) (aH (gW (iB (aO 2)) .one cM XD [6]))))) .one XF XH [3])) (aH (aM (.int 0))))))))
@[reducible] def Q9:FS:=(bI (dJ 2 (aM (.str (bZ "abcdefghijklmnopqrstuvwxyz")))) (bI (dJ 3 (iG aV)) (bI (nY (uC (aO 1)) (dz 4) I9) (yW 3))))
def JL:FN:=fN 2 7 Q9
@[reducible] def Yn(RT:FN):FE:=(bO RT (aC (aQ 0) (aC (aQ 1) aV)))
@[reducible] def Bq(RT:FN):FS:=(bI (eX (gQ (bu wX (aO 1) (aH (aM .none)))) (cQ (bu wX (aO 0) (aH (aM .none)))) fK) (bI (eX (gq (aH (jz "bool" (aO 1)))) (cQ (gf (jz "bool" (aO 0)) (bu jW (aO 0) (aO 1)))) fK) (bI (eX (gq (aH (yX "list" "tuple" (aO 1)))) (bI (eX (ni (gQ (bu m9 (aH (jz "list" (aO 0))) (aH (jz "list" (aO 1))))) (gQ (bu m9 (aH (jz "tuple" (aO 0))) (aH (jz "tuple" (aO 1)))))) (cQ (aM (.bool aD))) fK) (cQ (gf (bu jW (aH (eV mq (dO (aO 0) eU))) (aH (eV mq (dO (aO 1) eU)))) (eV mC (dO (aH (gW (Dd (dO (aO 0) (dO (aO 1) eU))) (.many 2) cM (Yn RT) [])) eU))))) fK) (bI (eX (gq (aH (jz "str" (aO 1)))) (cQ (gf (jz "str" (aO 0)) (bu jW (aO 0) (aO 1)))) fK) (cQ (gf (jz "int" (aO 0)) (gf (yV (jz "bool" (aO 0))) (bu jW (aO 0) (aO 1)))))))))
def mQ:Nat->FN
 |0=>Tf
 |n+1=>fN 2 2 (Bq (mQ n))
@[reducible] def My:FE:=(bO (mQ 4) (aC (bO pJ (aC (aQ 0) (aC (aQ 1) (aC (bu oR (aH (aM (.int 10))) (aH (aM (.int 9)))) aV)))) (aC (cu aV) aV)))
@[reducible] def V5:FT:=(gQ (bu m9 (aH (bu dW (aO 0) (aH (aM (.int 0))))) (aO 1)))
@[reducible] def V6:FE:=(aQ 0)
@[reducible] def V7:FE:=(bO pJ (aC (aQ 1) (aC (aQ 2) (aC (aQ 0) aV))))
@[reducible] def V8:FE:=(bO pJ (aC (aQ 1) (aC (aQ 2) (aC (aQ 0) aV))))
@[reducible] def Ny:FS:=(bI (dJ 5 (gW (iB (aH (cu (aC (aM (.int 0)) (aC (bu Ks (aO 4) (aH (aM (.int 1)))) (aC (aQ 4) (aC (bu cL (aO 4) (aH (aM (.int 9)))) (aC (bu cL (aO 4) (aH (aM (.int 10)))) (aC (bu oR (aH (aM (.int 10))) (aH (aM (.int 9)))) aV))))))))) .one cM V8 [0,1])) (bI (eX (gP (gq (aH (bO (mQ 4) (aC (aQ 5) (aC (bu cL (aH (bu cL (aH (iG (aC (cu aV) (aC (cu aV) aV)))) (aH (bu rJ (aH (iG (aC (cu (aC (cu (aC (aM (.int 2)) (aC (aQ 1) aV))) (aC (cu (aC (aM (.int 2)) (aC (aQ 1) aV))) aV))) aV))) (aH (aM (.int 2))))))) (aH (bu rJ (aH (iG (aC (cu (aC (cu (aC (aM (.int 5)) (aC (aQ 1) aV))) (aC (cu (aC (aM (.int 3)) (aC (aQ 3) aV))) aV))) aV))) (aH (aM (.int 2)))))) aV)))))) (cQ (aM (.bool aD))) fK) (bI (dJ 5 (gW (iB (aH (cu (aC (aM (.int 0)) (aC (bu cL (aO 4) (aH (aM (.int 4)))) (aC (bu cL (aO 4) (aH (aM (.int 5)))) (aC (bu cL (aO 4) (aH (aM (.int 10)))) (aC (bu oR (aH (aM (.int 10))) (aH (aM (.int 9)))) aV)))))))) .one cM V7 [0,2])) (bI (eX (gP (gq (aH (bO (mQ 4) (aC (aQ 5) (aC (bu cL (aH (iG (aC (cu aV) (aC (cu aV) aV)))) (aH (bu rJ (aH (iG (aC (cu (aC (cu (aC (aM (.int 4)) (aC (aQ 2) aV))) (aC (cu (aC (aM (.int 1)) (aC (aQ 1) aV))) (aC (cu (aC (aM (.int 4)) (aC (aQ 2) aV))) aV)))) aV))) (aH (aM (.int 3)))))) aV)))))) (cQ (aM (.bool aD))) fK) (bI (dJ 6 (bu cL (aH (oF (aO 0) oX (oE (aH (aM (.int 3)))))) (aH (cu (aC (eV tY (dO (aH (gW (iB (aH (bu dW (aO 0) (aH (aM (.int 3)))))) .one V5 V6 [2])) eU)) aV))))) (bI (eX (gP (gq (aH (bO (mQ 4) (aC (bO pJ (aC (aQ 6) (aC (aQ 2) (aC (aQ 4) aV)))) (aC (cu (aC (cu (aC (aM (.int 2)) (aC (aQ 2) aV))) (aC (cu (aC (aM (.int 2)) (aC (aQ 2) aV))) aV))) aV)))))) (cQ (aM (.bool aD))) fK) (cQ (eV mC (dO (aH (gW (iB (aH (cu (aC (aQ 0) (aC (aQ 6) aV))))) .one cM My [3])) eU)))))))))
def Ea:FN:=fN 5 7 Ny
@[reducible] def wH:FS:=(bI (dJ 18 (iG (aC (bO pK (aC (aQ 15) (aC (aQ 8) (aC (aQ 5) (aC (bu cL (aO 10) (aO 16)) aV))))) (aC (bO pK (aC (aQ 15) (aC (aQ 8) (aC (aQ 4) (aC (bu cL (aO 10) (aO 16)) aV))))) aV)))) (bI (dJ 18 (bu cL (aO 18) (aH (iG (aC (bO pK (aC (aQ 15) (aC (aQ 7) (aC (aQ 5) (aC (bu cL (aO 10) (aO 16)) aV))))) (aC (bO pK (aC (aQ 15) (aC (aQ 7) (aC (aQ 6) (aC (bu cL (aO 10) (aO 16)) aV))))) aV)))))) (bI (eX (gP (gq (aH (bO (mQ 4) (aC (aQ 18) (aC (iG (aC (aQ 17) (aC (aM (.int 0)) (aC (bu pP (aH (aM (.int 7))) (aH (eV vp (dO (aH (bu vL (aO 16) (aH (aM (.int 0))))) eU)))) (aC (aM (.int 0)) aV))))) aV)))))) (cQ (aM (.bool aD))) fK) (bI (dJ 19 (eV qy (dO (aH (bu cL (aH (bu rJ (aH (iG (aC (aQ 7) aV))) (aH (eV vp (dO (aH (bu vL (aO 16) (aH (aM (.int 0))))) eU))))) (aH (bu rJ (aH (iG (aC (aQ 8) aV))) (aH (eV vp (dO (aH (bu jW (aO 17) (aH (aM (.int 5))))) eU))))))) eU))) (bI (dJ 18 (iG (aC (bO uQ (aC (aQ 15) (aC (aM (.int 4)) (aC (aQ 5) (aC (bu cL (aO 10) (aO 16)) aV))))) (aC (bO uQ (aC (aQ 15) (aC (aM (.int 9)) (aC (aQ 6) (aC (bu cL (aO 10) (aO 16)) aV))))) aV)))) (eX (gP (gq (aH (bO (mQ 4) (aC (bu cL (aO 18) (aH (iG (aC (bO uQ (aC (aQ 15) (aC (aM (.int 8)) (aC (aQ 5) (aC (bu cL (aO 10) (aO 16)) aV))))) aV)))) (aC (iG (aC (aQ 19) (aC (iG (aC (aQ 9) aV)) (aC (iG aV) aV)))) aV)))))) (cQ (aM (.bool aD))) fK))))))
@[reducible] def Ff:FS:=(bI (CW 2 (bO Ko (aC (aQ 0) (aC (aQ 1) aV)))) (bI (dJ 3 (bO JL (aC (aQ 2) (aC (aM (.int 6)) aV)))) (bI (uw (oF (aO 3) oX (oE (aH (aM (.int 3))))) (Dq 3 (eG (dz 4) (eG (dz 5) (eG (dz 6) nU))))) (bI (uw (oF (aO 3) (oE (aH (aM (.int 3)))) oX) (Dq 3 (eG (dz 7) (eG (dz 8) (eG (dz 9) nU))))) (bI (eX (gQ (bu jW (aH (bO mO (aC (aQ 2) (aC (aM (.int 3)) aV)))) (aH (aM (.int 0))))) (zj [7,8,9] (wZ (aQ 5) (wZ (aQ 4) (wZ (aQ 6) aV)))) fK) (bI (zj [10,11] (wZ (bu cL (aH (aM (.int 10))) (aH (bO mO (aC (aQ 2) (aC (aM (.int 9000)) aV))))) (wZ (bu cL (aH (aM (.int 1))) (aH (bO mO (aC (aQ 2) (aC (bu oR (aH (aM (.int 10))) (aH (aM (.int 8)))) aV))))) aV))) (bI (dJ 12 (cu (aC (cu (aC (aM (.int 0)) (aC (aQ 7) (aC (aM (.int 7)) (aC (aQ 4) (aC (aQ 10) (aC (bu cL (aO 10) (aH (aM (.int 50)))) aV))))))) (aC (cu (aC (aM (.int 1)) (aC (aQ 8) (aC (aM (.int 3)) (aC (aQ 5) (aC (aQ 10) (aC (bu cL (aO 10) (aH (aM (.int 20)))) aV))))))) aV)))) (bI (dJ 12 (bu cL (aO 12) (aH (cu (aC (cu (aC (aM (.int 4)) (aC (aQ 8) (aC (aM (.int 5)) (aC (aQ 5) (aC (bu cL (aO 10) (aH (aM (.int 10)))) (aC (bu cL (aO 10) (aH (aM (.int 30)))) aV))))))) aV))))) (bI (dJ 12 (bu cL (aO 12) (aH (cu (aC (cu (aC (aM (.int 5)) (aC (aQ 9) (aC (aM (.int 9)) (aC (aQ 6) (aC (aM (.int 0)) (aC (aM (.int 99999)) aV))))))) aV))))) (bI (dJ 13 (iG (aC (cu (aC (aQ 4) (aC (aQ 11) (aC (cu (aC (cu (aC (aM (.int 2)) (aC (aM (.str (bZ ""))) aV))) (aC (cu (aC (aM (.int 2)) (aC (aM (.str (bZ ""))) aV))) aV))) aV)))) (aC (cu (aC (aQ 4) (aC (bu cL (aO 11) (aH (aM (.int 10)))) (aC (cu (aC (cu (aC (aM (.int 5)) (aC (aQ 4) aV))) (aC (cu (aC (aM (.int 3)) (aC (aQ 6) aV))) aV))) aV)))) aV)))) (bI (dJ 13 (bu cL (aO 13) (aH (iG (aC (cu (aC (aQ 5) (aC (bu cL (aO 11) (aH (aM (.int 5)))) (aC (cu (aC (cu (aC (aM (.int 4)) (aC (aM (.str (bZ ""))) aV))) (aC (cu (aC (aM (.int 1)) (aC (aQ 4) aV))) (aC (cu (aC (aM (.int 4)) (aC (aQ 5) aV))) aV)))) aV)))) aV))))) (bI (dJ 14 (eV tY (dO (aH (eV qy (dO (aH (iG (aC (cu (aC (aQ 4) (aC (aM (.str (bZ ""))) aV))) (aC (cu (aC (aQ 5) (aC (aQ 4) aV))) (aC (cu (aC (aQ 6) (aC (aM (.str (bZ ""))) aV))) aV))))) eU))) eU))) (bI (dJ 15 (cu (aC (aQ 14) (aC (aQ 12) (aC (cu aV) (aC (eV tY (dO (aH (eV Fw (dO (aO 13) eU))) eU)) aV)))))) (bI (eX (ni (gQ (bu Kl (aH (bO Et (aC (aQ 15) aV))) (aH (aM (.bool au))))) (gQ (bu m9 (aH (bO uP (aC (aQ 15) (aC (aQ 5) aV)))) (aH (iG (aC (aQ 5) (aC (aQ 4) aV))))))) (cQ (aM (.bool aD))) fK) (bI (nY (Lj (cu (aC (cu (aC (aM (.int 0)) (aC (aM (.int 3)) aV))) (aC (cu (aC (aM (.int 9)) (aC (aM (.int 3)) aV))) (aC (cu (aC (aM (.int 10)) (aC (aM (.int 5)) aV))) (aC (cu (aC (aM (.int 20)) (aC (aM (.int 5)) aV))) (aC (cu (aC (aM (.int 21)) (aC (aM (.int 5)) aV))) (aC (cu (aC (aM (.int 30)) (aC (aM (.int 5)) aV))) (aC (cu (aC (aM (.int 31)) (aC (aM (.int 0)) aV))) (aC (cu (aC (KY (aH (aM (.int 1)))) (aC (aM (.int 0)) aV))) aV)))))))))) (qb 2 (eG (dz 16) (eG (dz 17) nU))) wH) (eX (gP (gq (aH (bO Ea (aC (aQ 15) (aC (aQ 4) (aC (aQ 5) (aC (aQ 6) (aC (aQ 11) aV))))))))) (cQ (aM (.bool aD))) fK))))))))))))))))
@[reducible] def Tn:FS:=(bI (nY (uC (aH (bu cL (aH (aM (.int 1))) (aH (eV Kf (dO (aH (aM (.int 8))) (dO (aH (xg 0)) eU))))))) (dz 1) Ff) (cQ (aM (.bool au))))
def Cz:FN:=fN 1 20 Tn
theorem afI{P:bB}{w:bA}{K:aJ}{mg:Str->Option Value}{base:bh}{cB cD cF cC cG cH cI cJ:Tok}{f:az}{fd:dH}(F:fU K "parts_over" "parts_over" Ij f fd)(T:Txt K mg cB cD cF cC cG cH cI cJ):dG P w K mg base eY 1 f fd zab (spT K uP):=
 jf (body:=Om) F Ia λcdv A outer s H E hr=>(@bM _ _ _ _ _ (ai0 (i:=2) (T:=(.many 2)) (NT:=za1) (NF:=([]:List Str)) (js:=[]) (iu.ok (N0:=zaa) (gw:=bY Ij) (by decide +kernel) rfl rfl) (⟨_,_,_,rfl,(.cons ⟨_,rfl⟩ (.cons ⟨_,rfl⟩ .nil)),rfl⟩) rfl hr.iQ (@rR _ _ _ _ (@aK _ _ _ (@mW _ _ _ _ _ _ _ _ (mU hr.iQ) mX (@aU _ _ _ (pv 0)) (@aK _ _ _ (aN bf)) (λ_ _=>rfl)))) (λb=>⟨jx,(@aR _ _ _ (pv 0)),(@aR _ _ _ (pv 1))⟩) (by rfl) Ia.nd rfl rfl) (@bM _ _ _ _ _ (iT (i:=3) Ia.nd rfl (cR rfl) (@jo _ _ _ _ aX)) (@bM _ _ _ _ _ (@aiX _ _ _ _ _ _ DX (@jN _ _ _ _ _ _ _ _ _ (BK hr.iQ) Cm (@aU _ _ _ (pv 1)) (@aU _ _ _ (pv 2)) (by with_unfolding_all rfl)) (@bM _ _ _ _ _ (abv (pv 3) (@aR _ _ _ (pv 1))) (@b8 _ _ _ (iT (i:=1) Ia.nd rfl (cR rfl) (@mW _ _ _ _ _ _ _ _ (mU hr.iQ) mX (@aU _ _ _ (pv 2)) (@aU _ _ _ (pv 1)) (λ_ _=>rfl)))))) (@b8 _ _ _ (@J0 _ _ _ _ (pv 3))))))
theorem agf{P:bB}{w:bA}{K:aJ}{mg:Str->Option Value}{base:bh}{cB cD cF cC cG cH cI cJ:Tok}{f:az}{fd:dH}(F:fU K "rules_for" "rules_for" Iu f fd)(T:Txt K mg cB cD cF cC cG cH cI cJ)(uR:dh P w K mg base "parts_over" 1 zab (spT K uP)):dG P w K mg base eY 2 f fd zab (spT K Iz):=
 jf (body:=Iw) F Oj λcdv A outer s H E hr=>(@bM _ _ _ _ _ (@Ge _ _ _ _ _ _ _ _ _ DX rfl (anm (b7 uR (hr.mono (by decide)) rfl (@aF _ _ _ _ _ (@aR _ _ _ (pv 0)) (@aF _ _ _ _ _ (@aR _ _ _ (pv 1)) aX (by rfl)) (by rfl)))) (gF (i:=2) Oj.nd rfl (t8 rfl)) gG (@bM _ _ _ _ _ (Az (i:=3) (T:=(.many 3)) (NT:=(["where","bound","seats"]:List Str)) (NF:=za2) (js:=[2]) (iu.ok (N0:=zae) (gw:=bY Iu) (by decide +kernel) rfl rfl) (⟨_,_,_,rfl,(.cons ⟨_,rfl⟩ (.cons ⟨_,rfl⟩ (.cons ⟨_,rfl⟩ .nil))),rfl⟩) rfl (@rR _ _ _ _ (@aK _ _ _ (@mW _ _ _ _ _ _ _ _ (mU hr.iQ) mX (@aU _ _ _ (pv 0)) (@aK _ _ _ (aN bf)) (λ_ _=>rfl)))) (λb=>⟨(@Bo _ _ _ (@jN _ _ _ _ _ _ _ _ _ (nO hr.units) nR (@aU _ _ _ (pv 0)) (@aU _ _ _ (pv 3)) (gH _))),(@cN _ _ _ _ _ (@aF _ _ _ _ _ (@aR _ _ _ (pv 1)) (@aF _ _ _ _ _ (@aR _ _ _ (pv 2)) aX (by rfl)) (by rfl)))⟩) (by rfl) Oj.nd rfl rfl) (@b8 _ _ _ (@gm _ _ _ _ _ _ _ _ (@gZ _ _ _ (@aU _ _ _ (pv 3)) (by intro _;rfl)) (@b8 _ _ _ (@J0 _ _ _ _ (pv 3))) gk))) (by intro _;rfl)) (@b8 _ _ _ (@cW _ _ _ _ (@jo _ _ _ _ aX))))
theorem agG{P:bB}{w:bA}{K:aJ}{mg:Str->Option Value}{base:bh}{cB cD cF cC cG cH cI cJ:Tok}{f:az}{fd:dH}(F:fU K "seats_of" "seats_of" Es f fd)(T:Txt K mg cB cD cF cC cG cH cI cJ)(O7:dh P w K mg base "rules_for" 2 zab (spT K Iz)):dG P w K mg base eY 3 f fd zad (spT K pJ):=
 jf (body:=Je) F Ir λcdv A outer s H E hr=>(@bM _ _ _ _ _ (Az (i:=3) (T:=(.many 2)) (NT:=(["bound","seats"]:List Str)) (NF:=(["amount"]:List Str)) (js:=[2]) (iu.ok (N0:=zac) (gw:=bY Es) (by decide +kernel) rfl rfl) (⟨_,_,_,rfl,(.cons ⟨_,rfl⟩ (.cons ⟨_,rfl⟩ .nil)),rfl⟩) rfl (@rR _ _ _ _ (@aK _ _ _ (b7 O7 (hr.mono (by decide)) rfl (@aF _ _ _ _ _ (@aR _ _ _ (pv 0)) (@aF _ _ _ _ _ (@aR _ _ _ (pv 1)) aX (by rfl)) (by rfl))))) (λb=>⟨(@Bo _ _ _ (@jN _ _ _ _ _ _ _ _ _ ue uh (@aU _ _ _ (pv 0)) (@aU _ _ _ (pv 2)) (gH _))),(@cN _ _ _ _ _ (@aF _ _ _ _ _ (@aR _ _ _ (pv 0)) (@aF _ _ _ _ _ (@aR _ _ _ (pv 1)) aX (by rfl)) (by rfl)))⟩) (by rfl) Ir.nd rfl rfl) (@bM _ _ _ _ _ (@gm _ _ _ _ _ _ _ _ (@iR _ _ _ _ (@gZ _ _ _ (@aU _ _ _ (pv 3)) (by intro _;rfl))) (@b8 _ _ _ (@cW _ _ _ _ (@cN _ _ _ _ _ aX))) gk) (@bM _ _ _ _ _ (@yL _ _ _ _ _ _ _ (jm (afm rfl hr.iQ) akz rfl T.KD (by decide +kernel) (@fB _ _ _ _ _ (@aU _ _ _ (pv 3)) fX (by rfl))) (Bs rfl (iy (gF (i:=4) Ir.nd rfl (cR rfl)) (iy (gF (i:=5) Ir.nd rfl (cR rfl)) wJ))) (@BL _ _ _ _ (@iz _ _ _ _ _ gG (@iz _ _ _ _ _ gG wO))) (by rfl) (by rfl) (by rfl)) (@b8 _ _ _ (@cW _ _ _ _ (wG HX JB rfl T.rG (by decide +kernel) (@fB _ _ _ _ _ (@aK _ _ _ (jU (T:=(.many 2)) (NT:=za3) (NF:=(["part"]:List Str)) (js:=[1]) (iu.ok (N0:=zac) (gw:=bY Es) (by decide +kernel) rfl rfl) (⟨_,_,_,rfl,(.cons ⟨_,rfl⟩ (.cons ⟨_,rfl⟩ .nil)),rfl⟩) rfl (@rR _ _ _ _ (@aU _ _ _ (pv 5))) (λb=>⟨jx,(@cN _ _ _ _ _ (@aF _ _ _ _ _ (@aR _ _ _ (pv 0)) (@aF _ _ _ _ _ (@amg _ _ _ _ _ _ _ _ (@jN _ _ _ _ _ _ _ _ _ (nO hr.units) nR (@aU _ _ _ (pv 1)) (@aK _ _ _ (aN pM)) (gH _)) (@aR _ _ _ (pv 2)) (@aR _ _ _ (pv 1))) aX (by rfl)) (by rfl)))⟩))) fX (by rfl))))))))
theorem ahm{P:bB}{w:bA}{K:aJ}{mg:Str->Option Value}{base:bh}{cB cD cF cC cG cH cI cJ:Tok}{f:az}{fd:dH}(F:fU K "is_name" "is_name" Jk f fd)(T:Txt K mg cB cD cF cC cG cH cI cJ):dG P w K mg base eY 1 f fd zaf (spT K uX):=
 jf (body:=Qp) F ahk λcdv A outer s H E hr=>(@bM _ _ _ _ _ (@gm _ _ _ _ _ _ _ _ (PW.pt (@rP _ _ _ _ _ _ _ (@iR _ _ _ _ (@gZ _ _ _ (@aK _ _ _ (nP (by decide) (@aU _ _ _ (pv 0)) (lV (v:=.ty "str") rfl T.Gu (by decide +kernel) rfl) rfl T.lE (by decide +kernel))) (by intro _;rfl))) (@vg _ _ _ _ (@iR _ _ _ _ (abq ue uh ue uh (@aK _ _ _ (aN bf)) (@aK _ _ _ (jm yx yM rfl T.rW (by decide +kernel) (@fB _ _ _ _ _ (@aU _ _ _ (pv 0)) fX (by rfl)))) (@aK _ _ _ (aN (wI (v:=toV (.int 8)) rfl T.afp ⟨_,rfl⟩)))))))) (@b8 _ _ _ (@cW _ _ _ _ (aN jd))) gk) (@b8 _ _ _ (@cW _ _ _ _ (jm (qu rfl) qG rfl T.oV (by decide +kernel) (@fB _ _ _ _ _ (@aK _ _ _ (jU (T:=.one) (NT:=(["sign"]:List Str)) (NF:=([]:List Str)) (js:=[]) (iu.ok (N0:=zaf) (gw:=bY Jk) (by decide +kernel) rfl rfl) (⟨_,⟨_,rfl⟩,rfl⟩) rfl (mH (@aU _ _ _ (pv 0))) (λb=>⟨jx,(abp ue uh ue uh (@aK _ _ _ (aN pM)) (@aU _ _ _ (pv 0)) (@aK _ _ _ (aN pM)))⟩))) fX (by rfl))))))
theorem agg{P:bB}{w:bA}{K:aJ}{mg:Str->Option Value}{base:bh}{cB cD cF cC cG cH cI cJ:Tok}{f:az}{fd:dH}(F:fU K "is_number" "is_number" OJ f fd)(T:Txt K mg cB cD cF cC cG cH cI cJ):dG P w K mg base eY 1 f fd zaf (spT K Ai):=
 jf (body:=O1) F af7 λcdv A outer s H E hr=>(@b8 _ _ _ (@cW _ _ _ _ (@lF _ _ _ _ _ _ _ (nP (by decide) (@aU _ _ _ (pv 0)) (lV (v:=.ty "int") rfl T.xj (by decide +kernel) rfl) rfl T.lE (by decide +kernel)) (@lY _ _ _ _ _ (@abr _ _ _ _ (nP (by decide) (@aU _ _ _ (pv 0)) (lV (v:=.ty "bool") rfl T.BZ (by decide +kernel) rfl) rfl T.lE (by decide +kernel)))))))
theorem afq{P:bB}{w:bA}{K:aJ}{mg:Str->Option Value}{base:bh}{cB cD cF cC cG cH cI cJ:Tok}{f:az}{fd:dH}(F:fU K "is_tuple_of" "is_tuple_of" N5 f fd)(T:Txt K mg cB cD cF cC cG cH cI cJ):dG P w K mg base eY 1 f fd zam (spT K ym):=
 jf (body:=N7) F afn λcdv A outer s H E hr=>(@b8 _ _ _ (@cW _ _ _ _ (@lF _ _ _ _ _ _ _ (nP (by decide) (@aU _ _ _ (pv 0)) (lV (v:=.ty "tuple") rfl T.rG (by decide +kernel) rfl) rfl T.lE (by decide +kernel)) (@lY _ _ _ _ _ (@lA _ _ _ _ _ _ _ _ _ (nO hr.units) nR (@aK _ _ _ (jm yx yM rfl T.rW (by decide +kernel) (@fB _ _ _ _ _ (@aU _ _ _ (pv 0)) fX (by rfl)))) (@aU _ _ _ (pv 1)) (gH _))))))
theorem ae5{P:bB}{w:bA}{K:aJ}{mg:Str->Option Value}{base:bh}{cB cD cF cC cG cH cI cJ:Tok}{f:az}{fd:dH}(F:fU K "are_tuples_of" "are_tuples_of" HD f fd)(T:Txt K mg cB cD cF cC cG cH cI cJ)(Ae:dh P w K mg base "is_tuple_of" 1 zam (spT K ym)):dG P w K mg base eY 2 f fd zan (spT K qj):=
 jf (body:=Nj) F ae4 λcdv A outer s H E hr=>(@bM _ _ _ _ _ (@gm _ _ _ _ _ _ _ _ (PW.pt (@rP _ _ _ _ _ _ _ (@iR _ _ _ _ (@gZ _ _ _ (@aK _ _ _ (nP (by decide) (@aU _ _ _ (pv 0)) (lV (v:=.ty "tuple") rfl T.rG (by decide +kernel) rfl) rfl T.lE (by decide +kernel))) (by intro _;rfl))) (@vg _ _ _ _ (@jN _ _ _ _ _ _ _ _ _ abT ab6 (@aK _ _ _ (jm yx yM rfl T.rW (by decide +kernel) (@fB _ _ _ _ _ (@aU _ _ _ (pv 0)) fX (by rfl)))) (@aU _ _ _ (pv 2)) (gH _))))) (@b8 _ _ _ (@cW _ _ _ _ (aN jd))) gk) (@b8 _ _ _ (@cW _ _ _ _ (jm (qu rfl) qG rfl T.oV (by decide +kernel) (@fB _ _ _ _ _ (@aK _ _ _ (jU (T:=.one) (NT:=za4) (NF:=(["many"]:List Str)) (js:=[1]) (iu.ok (N0:=zan) (gw:=bY HD) (by decide +kernel) rfl rfl) (⟨_,⟨_,rfl⟩,rfl⟩) rfl (mH (@aU _ _ _ (pv 0))) (λb=>⟨jx,(b7 Ae (hr.mono (by decide)) rfl (@aF _ _ _ _ _ (@aR _ _ _ (pv 0)) (@aF _ _ _ _ _ (@aR _ _ _ (pv 1)) aX (by rfl)) (by rfl)))⟩))) fX (by rfl))))))
theorem agh{P:bB}{w:bA}{K:aJ}{mg:Str->Option Value}{base:bh}{cB cD cF cC cG cH cI cJ:Tok}{f:az}{fd:dH}(F:fU K "is_rising" "is_rising" Iv f fd)(T:Txt K mg cB cD cF cC cG cH cI cJ):dG P w K mg base eY 1 f fd zao (spT K tM):=
 jf (body:=O2) F aga λcdv A outer s H E hr=>(@b8 _ _ _ (@cW _ _ _ _ (jm (qu rfl) qG rfl T.oV (by decide +kernel) (@fB _ _ _ _ _ (@aK _ _ _ (jU (T:=(.many 2)) (NT:=(["low","high"]:List Str)) (NF:=([]:List Str)) (js:=[]) (iu.ok (N0:=zao) (gw:=bY Iv) (by decide +kernel) rfl rfl) (⟨_,_,_,rfl,(.cons ⟨_,rfl⟩ (.cons ⟨_,rfl⟩ .nil)),rfl⟩) rfl (aaR rfl T.KH (@fB _ _ _ _ _ (@aU _ _ _ (pv 0)) (@fB _ _ _ _ _ (@aK _ _ _ (@Cw _ _ _ _ _ _ _ _ _ (@aU _ _ _ (pv 0)) (@Cv _ _ _ (@aK _ _ _ (aN bf))) Cu)) fX (by rfl)) (by rfl))) (λb=>⟨jx,(@lA _ _ _ _ _ _ _ _ _ (X7 hr.aa5) ab5 (@aU _ _ _ (pv 0)) (@aU _ _ _ (pv 1)) (gH _))⟩))) fX (by rfl)))))
theorem aeL{P:bB}{w:bA}{K:aJ}{mg:Str->Option Value}{base:bh}{cB cD cF cC cG cH cI cJ:Tok}{f:az}{fd:dH}(F:fU K "is_from_nought" "is_from_nought" M3 f fd)(T:Txt K mg cB cD cF cC cG cH cI cJ)(Aj:dh P w K mg base "is_number" 1 zaf (spT K Ai)):dG P w K mg base eY 2 f fd zaf (spT K qi):=
 jf (body:=M4) F aeK λcdv A outer s H E hr=>(@b8 _ _ _ (@cW _ _ _ _ (@lF _ _ _ _ _ _ _ (b7 Aj (hr.mono (by decide)) rfl (@aF _ _ _ _ _ (@aR _ _ _ (pv 0)) aX (by rfl))) (@lY _ _ _ _ _ (@lA _ _ _ _ _ _ _ _ _ Gh Gk (@aU _ _ _ (pv 0)) (@aK _ _ _ (aN bf)) (gH _))))))
theorem ahn{P:bB}{w:bA}{K:aJ}{mg:Str->Option Value}{base:bh}{cB cD cF cC cG cH cI cJ:Tok}{f:az}{fd:dH}(F:fU K "is_rank" "is_rank" Qo f fd)(T:Txt K mg cB cD cF cC cG cH cI cJ)(Aj:dh P w K mg base "is_number" 1 zaf (spT K Ai)):dG P w K mg base eY 2 f fd zaf (spT K Aq):=
 jf (body:=Qq) F ahl λcdv A outer s H E hr=>(@b8 _ _ _ (@cW _ _ _ _ (@lF _ _ _ _ _ _ _ (b7 Aj (hr.mono (by decide)) rfl (@aF _ _ _ _ _ (@aR _ _ _ (pv 0)) aX (by rfl))) (@lY _ _ _ _ _ (abp ue uh ue uh (@aK _ _ _ (aN (wI (v:=toV (.int 1)) rfl T.afG ⟨_,rfl⟩))) (@aU _ _ _ (pv 0)) (@aK _ _ _ (aN (wI (v:=toV (.int 9)) rfl T.afo ⟨_,rfl⟩))))))))
theorem agH{P:bB}{w:bA}{K:aJ}{mg:Str->Option Value}{base:bh}{cB cD cF cC cG cH cI cJ:Tok}{f:az}{fd:dH}(F:fU K "are_days" "are_days" Pq f fd)(T:Txt K mg cB cD cF cC cG cH cI cJ)(oH:dh P w K mg base "is_from_nought" 2 zaf (spT K qi)):dG P w K mg base eY 3 f fd zap (spT K Al):=
 jf (body:=Px) F agF λcdv A outer s H E hr=>(@b8 _ _ _ (@cW _ _ _ _ (@lF _ _ _ _ _ _ _ (b7 oH (hr.mono (by decide)) rfl (@aF _ _ _ _ _ (@aR _ _ _ (pv 0)) aX (by rfl))) (@lF _ _ _ _ _ _ _ (b7 oH (hr.mono (by decide)) rfl (@aF _ _ _ _ _ (@aR _ _ _ (pv 1)) aX (by rfl))) (@lY _ _ _ _ _ (@lA _ _ _ _ _ _ _ _ _ ue uh (@aU _ _ _ (pv 0)) (@aU _ _ _ (pv 1)) (gH _)))))))
theorem aer{P:bB}{w:bA}{K:aJ}{mg:Str->Option Value}{base:bh}{cB cD cF cC cG cH cI cJ:Tok}{f:az}{fd:dH}(F:fU K "comes_to_an_end" "comes_to_an_end" Mw f fd)(T:Txt K mg cB cD cF cC cG cH cI cJ):dG P w K mg base eY 1 f fd zai (spT K HB):=
 jf (body:=Mx) F Mq λcdv A outer s H E hr=>(@bM _ _ _ _ _ (@Ge _ _ _ _ _ _ _ _ _ DX rfl (Jy rfl T.Bp (@aK _ _ _ (jm yx yM rfl T.rW (by decide +kernel) (@fB _ _ _ _ _ (@aU _ _ _ (pv 0)) fX (by rfl))))) (gF (i:=2) Mq.nd rfl (cR rfl)) gG (@bM _ _ _ _ _ (iT (i:=1) Mq.nd rfl (cR rfl) (@mW _ _ _ _ _ _ _ _ (mU hr.iQ) mX (@aU _ _ _ (pv 0)) (@aU _ _ _ (pv 1)) (λ_ _=>rfl))) (@b8 _ _ _ (@gm _ _ _ _ _ _ _ _ (@jN _ _ _ _ _ _ _ _ _ (nO hr.units) nR (@aU _ _ _ (pv 1)) (@aK _ _ _ (aN pM)) (gH _)) (@b8 _ _ _ (@cW _ _ _ _ (aN jd))) gk))) (by intro _;rfl)) (@b8 _ _ _ (@cW _ _ _ _ (aN jd))))
theorem agi{P:bB}{w:bA}{K:aJ}{mg:Str->Option Value}{base:bh}{cB cD cF cC cG cH cI cJ:Tok}{f:az}{fd:dH}(F:fU K "are_parts" "are_parts" wB f fd)(T:Txt K mg cB cD cF cC cG cH cI cJ)(tQ:dh P w K mg base "is_name" 1 zaf (spT K uX))(nu:dh P w K mg base "are_tuples_of" 2 zan (spT K qj))(qm:dh P w K mg base "is_rising" 1 zao (spT K tM))(Mz:dh P w K mg base "comes_to_an_end" 1 zai (spT K HB)):dG P w K mg base eY 3 f fd zaf (spT K IK):=
 jf (body:=O3) F Ol λcdv A outer s H E hr=>(@bM _ _ _ _ _ (@gm _ _ _ _ _ _ _ _ (@iR _ _ _ _ (@gZ _ _ _ (@aK _ _ _ (b7 nu (hr.mono (by decide)) rfl (@aF _ _ _ _ _ (@aR _ _ _ (pv 0)) (@aF _ _ _ _ _ (aN bf) (@aF _ _ _ _ _ (aN (wI (v:=toV (.int 8)) rfl T.agb ⟨_,rfl⟩)) aX (by rfl)) (by rfl)) (by rfl)))) (by intro _;rfl))) (@b8 _ _ _ (@cW _ _ _ _ (aN jd))) gk) (@bM _ _ _ _ _ (iT (i:=1) Ol.nd rfl (t8 rfl) (jU (T:=(.many 2)) (NT:=za1) (NF:=([]:List Str)) (js:=[]) (iu.ok (N0:=zah) (gw:=bY wB) (by decide +kernel) rfl rfl) (⟨_,_,_,rfl,(.cons ⟨_,rfl⟩ (.cons ⟨_,rfl⟩ .nil)),rfl⟩) rfl (@rR _ _ _ _ (@aU _ _ _ (pv 0))) (λb=>⟨jx,(@aR _ _ _ (pv 0))⟩))) (@bM _ _ _ _ _ (@gm _ _ _ _ _ _ _ _ (PW.pt (@rP _ _ _ _ _ _ _ (@iR _ _ _ _ (@gZ _ _ _ (@aK _ _ _ (jm (qu rfl) qG rfl T.oV (by decide +kernel) (@fB _ _ _ _ _ (@aK _ _ _ (jU (T:=.one) (NT:=za2) (NF:=([]:List Str)) (js:=[]) (iu.ok (N0:=zah) (gw:=bY wB) (by decide +kernel) rfl rfl) (⟨_,⟨_,rfl⟩,rfl⟩) rfl (mH (@aU _ _ _ (pv 1))) (λb=>⟨jx,(b7 tQ (hr.mono (by decide)) rfl (@aF _ _ _ _ _ (@aR _ _ _ (pv 0)) aX (by rfl)))⟩))) fX (by rfl)))) (by intro _;rfl))) (@vg _ _ _ _ (@iR _ _ _ _ (@gZ _ _ _ (@aK _ _ _ (b7 qm (hr.mono (by decide)) rfl (@aF _ _ _ _ _ (@aR _ _ _ (pv 1)) aX (by rfl)))) (by intro _;rfl)))))) (@b8 _ _ _ (@cW _ _ _ _ (aN jd))) gk) (@bM _ _ _ _ _ (@gm _ _ _ _ _ _ _ _ (@iR _ _ _ _ (@gZ _ _ _ (@aK _ _ _ (jm (qu rfl) qG rfl T.oV (by decide +kernel) (@fB _ _ _ _ _ (@aK _ _ _ (jU (T:=(.many 2)) (NT:=za1) (NF:=za5) (js:=[1]) (iu.ok (N0:=zah) (gw:=bY wB) (by decide +kernel) rfl rfl) (⟨_,_,_,rfl,(.cons ⟨_,rfl⟩ (.cons ⟨_,rfl⟩ .nil)),rfl⟩) rfl (@rR _ _ _ _ (@aU _ _ _ (pv 0))) (λb=>⟨jx,(@ab8 _ _ _ _ _ _ _ (@lA _ _ _ _ _ _ _ _ _ (nO hr.units) nR (@aU _ _ _ (pv 1)) (@aK _ _ _ (aN pM)) (gH _)) (@lY _ _ _ _ _ (@lA _ _ _ _ _ _ _ _ _ (BK hr.iQ) Cm (@aU _ _ _ (pv 1)) (@aU _ _ _ (pv 2)) (by with_unfolding_all rfl))))⟩))) fX (by rfl)))) (by intro _;rfl))) (@b8 _ _ _ (@cW _ _ _ _ (aN jd))) gk) (@bM _ _ _ _ _ (iT (i:=2) Ol.nd rfl (t8 rfl) (ami (T:=(.many 2)) (NT:=za1) (NF:=([]:List Str)) (js:=[]) (iu.ok (N0:=zah) (gw:=bY wB) (by decide +kernel) rfl rfl) (⟨_,_,_,rfl,(.cons ⟨_,rfl⟩ (.cons ⟨_,rfl⟩ .nil)),rfl⟩) rfl hr.iQ (@rR _ _ _ _ (@aU _ _ _ (pv 0))) (λb=>⟨jx,(@aR _ _ _ (pv 0)),(@aR _ _ _ (pv 1))⟩))) (@b8 _ _ _ (@cW _ _ _ _ (jm (qu rfl) qG rfl T.oV (by decide +kernel) (@fB _ _ _ _ _ (@aK _ _ _ (jU (T:=.one) (NT:=za2) (NF:=(["outer"]:List Str)) (js:=[2]) (iu.ok (N0:=zah) (gw:=bY wB) (by decide +kernel) rfl rfl) (⟨_,⟨_,rfl⟩,rfl⟩) rfl (mH (@aU _ _ _ (pv 1))) (λb=>⟨jx,(b7 Mz (hr.mono (by decide)) rfl (@aF _ _ _ _ _ (@aR _ _ _ (pv 1)) (@aF _ _ _ _ _ (@aR _ _ _ (pv 0)) aX (by rfl)) (by rfl)))⟩))) fX (by rfl))))))))))
theorem afr{P:bB}{w:bA}{K:aJ}{mg:Str->Option Value}{base:bh}{cB cD cF cC cG cH cI cJ:Tok}{f:az}{fd:dH}(F:fU K "is_rank_row" "is_rank_row" NZ f fd)(T:Txt K mg cB cD cF cC cG cH cI cJ)(tQ:dh P w K mg base "is_name" 1 zaf (spT K uX))(oH:dh P w K mg base "is_from_nought" 2 zaf (spT K qi))(Ar:dh P w K mg base "is_rank" 2 zaf (spT K Aq))(Am:dh P w K mg base "are_days" 3 zap (spT K Al)):dG P w K mg base eY 4 f fd zak (spT K Ie):=
 jf (body:=N8) F yf λcdv A outer s H E hr=>(@bM _ _ _ _ _ (@yL _ _ _ _ _ _ _ (@aR _ _ _ (pv 0)) (Bs rfl (iy (gF (i:=2) yf.nd rfl (cR rfl)) (iy (gF (i:=3) yf.nd rfl (cR rfl)) (iy (gF (i:=4) yf.nd rfl (cR rfl)) (iy (gF (i:=5) yf.nd rfl (cR rfl)) (iy (gF (i:=6) yf.nd rfl (cR rfl)) (iy (gF (i:=7) yf.nd rfl (cR rfl)) wJ))))))) (@BL _ _ _ _ (@iz _ _ _ _ _ gG (@iz _ _ _ _ _ gG (@iz _ _ _ _ _ gG (@iz _ _ _ _ _ gG (@iz _ _ _ _ _ gG (@iz _ _ _ _ _ gG wO))))))) (by rfl) (by rfl) (by rfl)) (@bM _ _ _ _ _ (@gm _ _ _ _ _ _ _ _ (PW.pt (@rP _ _ _ _ _ _ _ (@iR _ _ _ _ (@gZ _ _ _ (@aK _ _ _ (b7 oH (hr.mono (by decide)) rfl (@aF _ _ _ _ _ (@aR _ _ _ (pv 2)) aX (by rfl)))) (by intro _;rfl))) (@rP _ _ _ _ _ _ _ (@iR _ _ _ _ (@gZ _ _ _ (@aK _ _ _ (b7 tQ (hr.mono (by decide)) rfl (@aF _ _ _ _ _ (@aR _ _ _ (pv 3)) aX (by rfl)))) (by intro _;rfl))) (@vg _ _ _ _ (@iR _ _ _ _ (@gZ _ _ _ (@aK _ _ _ (b7 Ar (hr.mono (by decide)) rfl (@aF _ _ _ _ _ (@aR _ _ _ (pv 4)) aX (by rfl)))) (by intro _;rfl))))))) (@b8 _ _ _ (@cW _ _ _ _ (aN jd))) gk) (@b8 _ _ _ (@cW _ _ _ _ (@lF _ _ _ _ _ _ _ (@lA _ _ _ _ _ _ _ _ _ (BK hr.iQ) Cm (@aU _ _ _ (pv 5)) (@aU _ _ _ (pv 1)) (by with_unfolding_all rfl)) (@lY _ _ _ _ _ (b7 Am (hr.mono (by decide)) rfl (@aF _ _ _ _ _ (@aR _ _ _ (pv 6)) (@aF _ _ _ _ _ (@aR _ _ _ (pv 7)) aX (by rfl)) (by rfl)))))))))
theorem agj{P:bB}{w:bA}{K:aJ}{mg:Str->Option Value}{base:bh}{cB cD cF cC cG cH cI cJ:Tok}{f:az}{fd:dH}(F:fU K "are_ranks" "are_ranks" El f fd)(T:Txt K mg cB cD cF cC cG cH cI cJ)(nu:dh P w K mg base "are_tuples_of" 2 zan (spT K qj))(qm:dh P w K mg base "is_rising" 1 zao (spT K tM))(Oc:dh P w K mg base "is_rank_row" 4 zak (spT K Ie)):dG P w K mg base eY 5 f fd zaj (spT K IV):=
 jf (body:=O4) F af8 λcdv A outer s H E hr=>(@bM _ _ _ _ _ (@gm _ _ _ _ _ _ _ _ (@iR _ _ _ _ (@gZ _ _ _ (@aK _ _ _ (b7 nu (hr.mono (by decide)) rfl (@aF _ _ _ _ _ (@aR _ _ _ (pv 0)) (@aF _ _ _ _ _ (aN bf) (@aF _ _ _ _ _ (aN (wI (v:=toV (.int 20)) rfl T.agc ⟨_,rfl⟩)) aX (by rfl)) (by rfl)) (by rfl)))) (by intro _;rfl))) (@b8 _ _ _ (@cW _ _ _ _ (aN jd))) gk) (@b8 _ _ _ (@cW _ _ _ _ (@lF _ _ _ _ _ _ _ (jm (qu rfl) qG rfl T.oV (by decide +kernel) (@fB _ _ _ _ _ (@aK _ _ _ (jU (T:=.one) (NT:=za4) (NF:=za5) (js:=[1]) (iu.ok (N0:=zaj) (gw:=bY El) (by decide +kernel) rfl rfl) (⟨_,⟨_,rfl⟩,rfl⟩) rfl (mH (@aU _ _ _ (pv 0))) (λb=>⟨jx,(b7 Oc (hr.mono (by decide)) rfl (@aF _ _ _ _ _ (@aR _ _ _ (pv 0)) (@aF _ _ _ _ _ (@aR _ _ _ (pv 1)) aX (by rfl)) (by rfl)))⟩))) fX (by rfl))) (@lY _ _ _ _ _ (b7 qm (hr.mono (by decide)) rfl (@aF _ _ _ _ _ (jU (T:=.one) (NT:=za4) (NF:=([]:List Str)) (js:=[]) (iu.ok (N0:=zaj) (gw:=bY El) (by decide +kernel) rfl rfl) (⟨_,⟨_,rfl⟩,rfl⟩) rfl (mH (@aU _ _ _ (pv 0))) (λb=>⟨jx,(@mW _ _ _ _ _ _ _ _ (mU hr.iQ) mX (@aU _ _ _ (pv 0)) (@aK _ _ _ (aN bf)) (λ_ _=>rfl))⟩)) aX (by rfl))))))))
theorem afc{P:bB}{w:bA}{K:aJ}{mg:Str->Option Value}{base:bh}{cB cD cF cC cG cH cI cJ:Tok}{f:az}{fd:dH}(F:fU K "is_leave_row" "is_leave_row" Nr f fd)(T:Txt K mg cB cD cF cC cG cH cI cJ)(tQ:dh P w K mg base "is_name" 1 zaf (spT K uX))(oH:dh P w K mg base "is_from_nought" 2 zaf (spT K qi))(Am:dh P w K mg base "are_days" 3 zap (spT K Al)):dG P w K mg base eY 4 f fd zak (spT K HR):=
 jf (body:=Nx) F wj λcdv A outer s H E hr=>(@bM _ _ _ _ _ (@yL _ _ _ _ _ _ _ (@aR _ _ _ (pv 0)) (Bs rfl (iy (gF (i:=2) wj.nd rfl (cR rfl)) (iy (gF (i:=3) wj.nd rfl (cR rfl)) (iy (gF (i:=4) wj.nd rfl (cR rfl)) (iy (gF (i:=5) wj.nd rfl (cR rfl)) (iy (gF (i:=6) wj.nd rfl (cR rfl)) (iy (gF (i:=7) wj.nd rfl (cR rfl)) (iy (gF (i:=8) wj.nd rfl (cR rfl)) wJ)))))))) (@BL _ _ _ _ (@iz _ _ _ _ _ gG (@iz _ _ _ _ _ gG (@iz _ _ _ _ _ gG (@iz _ _ _ _ _ gG (@iz _ _ _ _ _ gG (@iz _ _ _ _ _ gG (@iz _ _ _ _ _ gG wO)))))))) (by rfl) (by rfl) (by rfl)) (@bM _ _ _ _ _ (@gm _ _ _ _ _ _ _ _ (PW.pt (@rP _ _ _ _ _ _ _ (@iR _ _ _ _ (@gZ _ _ _ (@aK _ _ _ (b7 oH (hr.mono (by decide)) rfl (@aF _ _ _ _ _ (@aR _ _ _ (pv 2)) aX (by rfl)))) (by intro _;rfl))) (@vg _ _ _ _ (@iR _ _ _ _ (@gZ _ _ _ (@aK _ _ _ (b7 oH (hr.mono (by decide)) rfl (@aF _ _ _ _ _ (@aR _ _ _ (pv 8)) aX (by rfl)))) (by intro _;rfl)))))) (@b8 _ _ _ (@cW _ _ _ _ (aN jd))) gk) (@bM _ _ _ _ _ (@gm _ _ _ _ _ _ _ _ (PW.pt (@rP _ _ _ _ _ _ _ (@iR _ _ _ _ (@gZ _ _ _ (@aK _ _ _ (b7 tQ (hr.mono (by decide)) rfl (@aF _ _ _ _ _ (@aR _ _ _ (pv 3)) aX (by rfl)))) (by intro _;rfl))) (@rP _ _ _ _ _ _ _ (@iR _ _ _ _ (@gZ _ _ _ (@aK _ _ _ (b7 tQ (hr.mono (by decide)) rfl (@aF _ _ _ _ _ (@aR _ _ _ (pv 4)) aX (by rfl)))) (by intro _;rfl))) (@vg _ _ _ _ (@jN _ _ _ _ _ _ _ _ _ (nO hr.units) nR (@aU _ _ _ (pv 3)) (@aU _ _ _ (pv 4)) (gH _)))))) (@b8 _ _ _ (@cW _ _ _ _ (aN jd))) gk) (@b8 _ _ _ (@cW _ _ _ _ (@lF _ _ _ _ _ _ _ (@lA _ _ _ _ _ _ _ _ _ (BK hr.iQ) Cm (@aU _ _ _ (pv 5)) (@aU _ _ _ (pv 1)) (by with_unfolding_all rfl)) (@lY _ _ _ _ _ (b7 Am (hr.mono (by decide)) rfl (@aF _ _ _ _ _ (@aR _ _ _ (pv 6)) (@aF _ _ _ _ _ (@aR _ _ _ (pv 7)) aX (by rfl)) (by rfl))))))))))
theorem afJ{P:bB}{w:bA}{K:aJ}{mg:Str->Option Value}{base:bh}{cB cD cF cC cG cH cI cJ:Tok}{f:az}{fd:dH}(F:fU K "are_leaves" "are_leaves" Ef f fd)(T:Txt K mg cB cD cF cC cG cH cI cJ)(nu:dh P w K mg base "are_tuples_of" 2 zan (spT K qj))(qm:dh P w K mg base "is_rising" 1 zao (spT K tM))(Nz:dh P w K mg base "is_leave_row" 4 zak (spT K HR)):dG P w K mg base eY 5 f fd zaj (spT K Ik):=
 jf (body:=Oq) F afF λcdv A outer s H E hr=>(@bM _ _ _ _ _ (@gm _ _ _ _ _ _ _ _ (@iR _ _ _ _ (@gZ _ _ _ (@aK _ _ _ (b7 nu (hr.mono (by decide)) rfl (@aF _ _ _ _ _ (@aR _ _ _ (pv 0)) (@aF _ _ _ _ _ (aN bf) (@aF _ _ _ _ _ (aN (wI (v:=toV (.int 16)) rfl T.afH ⟨_,rfl⟩)) aX (by rfl)) (by rfl)) (by rfl)))) (by intro _;rfl))) (@b8 _ _ _ (@cW _ _ _ _ (aN jd))) gk) (@b8 _ _ _ (@cW _ _ _ _ (@lF _ _ _ _ _ _ _ (jm (qu rfl) qG rfl T.oV (by decide +kernel) (@fB _ _ _ _ _ (@aK _ _ _ (jU (T:=.one) (NT:=za4) (NF:=za5) (js:=[1]) (iu.ok (N0:=zaj) (gw:=bY Ef) (by decide +kernel) rfl rfl) (⟨_,⟨_,rfl⟩,rfl⟩) rfl (mH (@aU _ _ _ (pv 0))) (λb=>⟨jx,(b7 Nz (hr.mono (by decide)) rfl (@aF _ _ _ _ _ (@aR _ _ _ (pv 0)) (@aF _ _ _ _ _ (@aR _ _ _ (pv 1)) aX (by rfl)) (by rfl)))⟩))) fX (by rfl))) (@lY _ _ _ _ _ (b7 qm (hr.mono (by decide)) rfl (@aF _ _ _ _ _ (jU (T:=.one) (NT:=za4) (NF:=([]:List Str)) (js:=[]) (iu.ok (N0:=zaj) (gw:=bY Ef) (by decide +kernel) rfl rfl) (⟨_,⟨_,rfl⟩,rfl⟩) rfl (mH (@aU _ _ _ (pv 0))) (λb=>⟨jx,(@mW _ _ _ _ _ _ _ _ (mU hr.iQ) mX (@aU _ _ _ (pv 0)) (@aK _ _ _ (aN bf)) (λ_ _=>rfl))⟩)) aX (by rfl))))))))
theorem afs{P:bB}{w:bA}{K:aJ}{mg:Str->Option Value}{base:bh}{cB cD cF cC cG cH cI cJ:Tok}{f:az}{fd:dH}(F:fU K "is_rule_row" "is_rule_row" Ib f fd)(T:Txt K mg cB cD cF cC cG cH cI cJ)(nu:dh P w K mg base "are_tuples_of" 2 zan (spT K qj))(oH:dh P w K mg base "is_from_nought" 2 zaf (spT K qi))(Ar:dh P w K mg base "is_rank" 2 zaf (spT K Aq)):dG P w K mg base eY 3 f fd zak (spT K Ig):=
 jf (body:=Oa) F HN λcdv A outer s H E hr=>(@bM _ _ _ _ _ (@yL _ _ _ _ _ _ _ (@aR _ _ _ (pv 0)) (Bs rfl (iy (gF (i:=2) HN.nd rfl (cR rfl)) (iy (gF (i:=3) HN.nd rfl (cR rfl)) (iy (gF (i:=4) HN.nd rfl (cR rfl)) wJ)))) (@BL _ _ _ _ (@iz _ _ _ _ _ gG (@iz _ _ _ _ _ gG (@iz _ _ _ _ _ gG wO)))) (by rfl) (by rfl) (by rfl)) (@bM _ _ _ _ _ (@gm _ _ _ _ _ _ _ _ (PW.pt (@rP _ _ _ _ _ _ _ (@jN _ _ _ _ _ _ _ _ _ (YK hr.iQ) Zx (@aU _ _ _ (pv 2)) (@aU _ _ _ (pv 1)) (by with_unfolding_all rfl)) (@vg _ _ _ _ (@iR _ _ _ _ (@gZ _ _ _ (@aK _ _ _ (b7 oH (hr.mono (by decide)) rfl (@aF _ _ _ _ _ (@aR _ _ _ (pv 3)) aX (by rfl)))) (by intro _;rfl)))))) (@b8 _ _ _ (@cW _ _ _ _ (aN jd))) gk) (@bM _ _ _ _ _ (@gm _ _ _ _ _ _ _ _ (@iR _ _ _ _ (@gZ _ _ _ (@aK _ _ _ (b7 nu (hr.mono (by decide)) rfl (@aF _ _ _ _ _ (@aR _ _ _ (pv 4)) (@aF _ _ _ _ _ (aN bf) (@aF _ _ _ _ _ (aN (wI (v:=toV (.int 6)) rfl T.age ⟨_,rfl⟩)) aX (by rfl)) (by rfl)) (by rfl)))) (by intro _;rfl))) (@b8 _ _ _ (@cW _ _ _ _ (aN jd))) gk) (@b8 _ _ _ (@cW _ _ _ _ (jm (qu rfl) qG rfl T.oV (by decide +kernel) (@fB _ _ _ _ _ (@aK _ _ _ (jU (T:=(.many 2)) (NT:=za3) (NF:=za5) (js:=[1]) (iu.ok (N0:=zal) (gw:=bY Ib) (by decide +kernel) rfl rfl) (⟨_,_,_,rfl,(.cons ⟨_,rfl⟩ (.cons ⟨_,rfl⟩ .nil)),rfl⟩) rfl (@rR _ _ _ _ (@aU _ _ _ (pv 4))) (λb=>⟨jx,(@lF _ _ _ _ _ _ _ (b7 Ar (hr.mono (by decide)) rfl (@aF _ _ _ _ _ (@aR _ _ _ (pv 0)) aX (by rfl))) (@lY _ _ _ _ _ (@ab8 _ _ _ _ _ _ _ (@lA _ _ _ _ _ _ _ _ _ (nO hr.units) nR (@aU _ _ _ (pv 1)) (@aK _ _ _ (aN pM)) (gH _)) (@lY _ _ _ _ _ (@lA _ _ _ _ _ _ _ _ _ (BK hr.iQ) Cm (@aU _ _ _ (pv 1)) (@aU _ _ _ (pv 2)) (by with_unfolding_all rfl))))))⟩))) fX (by rfl))))))))
theorem agk{P:bB}{w:bA}{K:aJ}{mg:Str->Option Value}{base:bh}{cB cD cF cC cG cH cI cJ:Tok}{f:az}{fd:dH}(F:fU K "are_rules" "are_rules" Em f fd)(T:Txt K mg cB cD cF cC cG cH cI cJ)(nu:dh P w K mg base "are_tuples_of" 2 zan (spT K qj))(qm:dh P w K mg base "is_rising" 1 zao (spT K tM))(Od:dh P w K mg base "is_rule_row" 3 zak (spT K Ig)):dG P w K mg base eY 4 f fd zaj (spT K IW):=
 jf (body:=O5) F af9 λcdv A outer s H E hr=>(@bM _ _ _ _ _ (@gm _ _ _ _ _ _ _ _ (@iR _ _ _ _ (@gZ _ _ _ (@aK _ _ _ (b7 nu (hr.mono (by decide)) rfl (@aF _ _ _ _ _ (@aR _ _ _ (pv 0)) (@aF _ _ _ _ _ (aN bf) (@aF _ _ _ _ _ (aN (wI (v:=toV (.int 10)) rfl T.agd ⟨_,rfl⟩)) aX (by rfl)) (by rfl)) (by rfl)))) (by intro _;rfl))) (@b8 _ _ _ (@cW _ _ _ _ (aN jd))) gk) (@bM _ _ _ _ _ (@gm _ _ _ _ _ _ _ _ (@iR _ _ _ _ (@gZ _ _ _ (@aK _ _ _ (jm (qu rfl) qG rfl T.oV (by decide +kernel) (@fB _ _ _ _ _ (@aK _ _ _ (jU (T:=.one) (NT:=za4) (NF:=za5) (js:=[1]) (iu.ok (N0:=zaj) (gw:=bY Em) (by decide +kernel) rfl rfl) (⟨_,⟨_,rfl⟩,rfl⟩) rfl (mH (@aU _ _ _ (pv 0))) (λb=>⟨jx,(b7 Od (hr.mono (by decide)) rfl (@aF _ _ _ _ _ (@aR _ _ _ (pv 0)) (@aF _ _ _ _ _ (@aR _ _ _ (pv 1)) aX (by rfl)) (by rfl)))⟩))) fX (by rfl)))) (by intro _;rfl))) (@b8 _ _ _ (@cW _ _ _ _ (aN jd))) gk) (@b8 _ _ _ (@cW _ _ _ _ (b7 qm (hr.mono (by decide)) rfl (@aF _ _ _ _ _ (jU (T:=(.many 3)) (NT:=(["part","bound","seats"]:List Str)) (NF:=([]:List Str)) (js:=[]) (iu.ok (N0:=zaj) (gw:=bY Em) (by decide +kernel) rfl rfl) (⟨_,_,_,rfl,(.cons ⟨_,rfl⟩ (.cons ⟨_,rfl⟩ (.cons ⟨_,rfl⟩ .nil))),rfl⟩) rfl (@rR _ _ _ _ (@aU _ _ _ (pv 0))) (λb=>⟨jx,(@cN _ _ _ _ _ (@aF _ _ _ _ _ (@aR _ _ _ (pv 0)) (@aF _ _ _ _ _ (@aR _ _ _ (pv 1)) aX (by rfl)) (by rfl)))⟩)) aX (by rfl)))))))
theorem agI{P:bB}{w:bA}{K:aJ}{mg:Str->Option Value}{base:bh}{cB cD cF cC cG cH cI cJ:Tok}{f:az}{fd:dH}(F:fU K "is_house" "is_house" Jd f fd)(T:Txt K mg cB cD cF cC cG cH cI cJ)(Ae:dh P w K mg base "is_tuple_of" 1 zam (spT K ym))(O8:dh P w K mg base "are_parts" 3 zaf (spT K IK))(O9:dh P w K mg base "are_ranks" 5 zaj (spT K IV))(Ow:dh P w K mg base "are_leaves" 5 zaj (spT K Ik))(Pa:dh P w K mg base "are_rules" 4 zaj (spT K IW)):dG P w K mg base eY 6 f fd zaf (spT K Et):=
 jf (body:=Py) F Ah λcdv A outer s H E hr=>(@bM _ _ _ _ _ (@gm _ _ _ _ _ _ _ _ (@iR _ _ _ _ (@gZ _ _ _ (@aK _ _ _ (b7 Ae (hr.mono (by decide)) rfl (@aF _ _ _ _ _ (@aR _ _ _ (pv 0)) (@aF _ _ _ _ _ (aN bf) aX (by rfl)) (by rfl)))) (by intro _;rfl))) (@b8 _ _ _ (@cW _ _ _ _ (aN jd))) gk) (@bM _ _ _ _ _ (@yL _ _ _ _ _ _ _ (@aR _ _ _ (pv 0)) (Bs rfl (iy (gF (i:=1) Ah.nd rfl (cR rfl)) (iy (gF (i:=2) Ah.nd rfl (cR rfl)) (iy (gF (i:=3) Ah.nd rfl (cR rfl)) (iy (gF (i:=4) Ah.nd rfl (cR rfl)) wJ))))) (@BL _ _ _ _ (@iz _ _ _ _ _ gG (@iz _ _ _ _ _ gG (@iz _ _ _ _ _ gG (@iz _ _ _ _ _ gG wO))))) (by rfl) (by rfl) (by rfl)) (@bM _ _ _ _ _ (@gm _ _ _ _ _ _ _ _ (@iR _ _ _ _ (@gZ _ _ _ (@aK _ _ _ (b7 O8 (hr.mono (by decide)) rfl (@aF _ _ _ _ _ (@aR _ _ _ (pv 1)) aX (by rfl)))) (by intro _;rfl))) (@b8 _ _ _ (@cW _ _ _ _ (aN jd))) gk) (@bM _ _ _ _ _ (Az (i:=5) (T:=(.many 2)) (NT:=za1) (NF:=([]:List Str)) (js:=[]) (iu.ok (N0:=zag) (gw:=bY Jd) (by decide +kernel) rfl rfl) (⟨_,_,_,rfl,(.cons ⟨_,rfl⟩ (.cons ⟨_,rfl⟩ .nil)),rfl⟩) rfl (@rR _ _ _ _ (@aU _ _ _ (pv 1))) (λb=>⟨jx,(@aR _ _ _ (pv 0))⟩) (by rfl) Ah.nd rfl rfl) (@b8 _ _ _ (@cW _ _ _ _ (@lF _ _ _ _ _ _ _ (b7 O9 (hr.mono (by decide)) rfl (@aF _ _ _ _ _ (@aR _ _ _ (pv 2)) (@aF _ _ _ _ _ (@aR _ _ _ (pv 5)) aX (by rfl)) (by rfl))) (@lF _ _ _ _ _ _ _ (b7 Ow (hr.mono (by decide)) rfl (@aF _ _ _ _ _ (@aR _ _ _ (pv 3)) (@aF _ _ _ _ _ (@aR _ _ _ (pv 5)) aX (by rfl)) (by rfl))) (@lY _ _ _ _ _ (b7 Pa (hr.mono (by decide)) rfl (@aF _ _ _ _ _ (@aR _ _ _ (pv 4)) (@aF _ _ _ _ _ (@aR _ _ _ (pv 5)) aX (by rfl)) (by rfl))))))))))))
theorem aho{P:bB}{w:bA}{K:aJ}{mg:Str->Option Value}{base:bh}{cB cD cF cC cG cH cI cJ:Tok}{f:az}{fd:dH}(F:fU K "rank_of" "rank_of" Jl f fd)(T:Txt K mg cB cD cF cC cG cH cI cJ)(uR:dh P w K mg base "parts_over" 1 zab (spT K uP)):dG P w K mg base eY 2 f fd zar (spT K pK):=
 jf (body:=Qs) F Pu λcdv A outer s H E hr=>(@bM _ _ _ _ _ (iT (i:=4) Pu.nd rfl (t8 rfl) (b7 uR (hr.mono (by decide)) rfl (@aF _ _ _ _ _ (@aR _ _ _ (pv 0)) (@aF _ _ _ _ _ (@aR _ _ _ (pv 2)) aX (by rfl)) (by rfl)))) (@bM _ _ _ _ _ (Az (i:=5) (T:=(.many 6)) (NT:=(["number","who","rank","where","first","last"]:List Str)) (NF:=(["person","over","day"]:List Str)) (js:=[1,4,3]) (iu.ok (N0:=zaq) (gw:=bY Jl) (by decide +kernel) rfl rfl) (⟨_,_,_,rfl,(.cons ⟨_,rfl⟩ (.cons ⟨_,rfl⟩ (.cons ⟨_,rfl⟩ (.cons ⟨_,rfl⟩ (.cons ⟨_,rfl⟩ (.cons ⟨_,rfl⟩ .nil)))))),rfl⟩) rfl (@rR _ _ _ _ (@aK _ _ _ (@mW _ _ _ _ _ _ _ _ (mU hr.iQ) mX (@aU _ _ _ (pv 0)) (@aK _ _ _ (aN bf)) (λ_ _=>rfl)))) (λb=>⟨(@Bo _ _ _ (PW.pt (@R9 _ _ _ _ _ _ _ (@jN _ _ _ _ _ _ _ _ _ (nO hr.units) nR (@aU _ _ _ (pv 1)) (@aU _ _ _ (pv 6)) (gH _)) (@R9 _ _ _ _ _ _ _ (@jN _ _ _ _ _ _ _ _ _ (BK hr.iQ) Cm (@aU _ _ _ (pv 3)) (@aU _ _ _ (pv 7)) (by with_unfolding_all rfl)) (@aaB _ _ _ _ (abq ue uh ue uh (@aU _ _ _ (pv 4)) (@aU _ _ _ (pv 8)) (@aU _ _ _ (pv 5)))))))),(@aR _ _ _ (pv 2))⟩) (by rfl) Pu.nd rfl rfl) (@b8 _ _ _ (@cW _ _ _ _ (akg rfl (@aU _ _ _ (pv 5)) (@aK _ _ _ (aN bf)) rfl T.KD)))))
theorem afK{P:bB}{w:bA}{K:aJ}{mg:Str->Option Value}{base:bh}{cB cD cF cC cG cH cI cJ:Tok}{f:az}{fd:dH}(F:fU K "holders_of" "holders_of" Eg f fd)(T:Txt K mg cB cD cF cC cG cH cI cJ)(uY:dh P w K mg base "rank_of" 2 zar (spT K pK)):dG P w K mg base eY 3 f fd zat (spT K uQ):=
 jf (body:=Ov) F Xb λcdv A outer s H E hr=>(@bM _ _ _ _ _ (iT (i:=4) Xb.nd rfl (cR rfl) (aml (T:=.one) (NT:=za4) (NF:=([]:List Str)) (js:=[]) (iu.ok (N0:=zas) (gw:=bY Eg) (by decide +kernel) rfl rfl) (⟨_,⟨_,rfl⟩,rfl⟩) rfl rfl T.Bb (mH (@aK _ _ _ (@mW _ _ _ _ _ _ _ _ (mU hr.iQ) mX (@aU _ _ _ (pv 0)) (@aK _ _ _ (aN bf)) (λ_ _=>rfl)))) (λb=>⟨jx,(@mW _ _ _ _ _ _ _ _ (mU hr.iQ) mX (@aU _ _ _ (pv 0)) (@aK _ _ _ (aN bf)) (λ_ _=>rfl))⟩))) (@b8 _ _ _ (@cW _ _ _ _ (jU (T:=.one) (NT:=(["person"]:List Str)) (NF:=(["house","part","day","rank"]:List Str)) (js:=[0,2,3,1]) (iu.ok (N0:=zas) (gw:=bY Eg) (by decide +kernel) rfl rfl) (⟨_,⟨_,rfl⟩,rfl⟩) rfl (mH (@aU _ _ _ (pv 4))) (λb=>⟨(@Bo _ _ _ (@jN _ _ _ _ _ _ _ _ _ Gh Gk (@aK _ _ _ (b7 uY (hr.mono (by decide)) rfl (@aF _ _ _ _ _ (@aR _ _ _ (pv 1)) (@aF _ _ _ _ _ (@aR _ _ _ (pv 0)) (@aF _ _ _ _ _ (@aR _ _ _ (pv 2)) (@aF _ _ _ _ _ (@aR _ _ _ (pv 3)) aX (by rfl)) (by rfl)) (by rfl)) (by rfl)))) (@aU _ _ _ (pv 4)) (gH _))),(@aR _ _ _ (pv 0))⟩)))))
theorem akA{P:bB}{w:bA}{K:aJ}{mg:Str->Option Value}{base:bh}{cB cD cF cC cG cH cI cJ:Tok}{f:az}{fd:dH}(F:fU K "_law_box" "_law_box" Sx f fd)(T:Txt K mg cB cD cF cC cG cH cI cJ):dG P w K mg base eY 1 f fd zau (spT K Ko):=
 jf (body:=Sy) F RP λcdv A outer s H E hr=>(@bM _ _ _ _ _ (iT (i:=2) RP.nd rfl (cR rfl) (aN bf)) (@bM _ _ _ _ _ (@gm _ _ _ _ _ _ _ _ (@jN _ _ _ _ _ _ _ _ _ (X7 hr.aa5) ab5 (@aU _ _ _ (pv 1)) (@aK _ _ _ (aaJ (pv 0) rfl T.rW (by decide +kernel))) (gH _)) (@b8 _ _ _ (iT (i:=2) RP.nd rfl (cR rfl) (@alx _ _ _ _ _ _ (pv 0) (@aU _ _ _ (pv 1)) (λ_ _=>rfl)))) gk) (@b8 _ _ _ (@cW _ _ _ _ (@jo _ _ _ _ (@aF _ _ _ _ _ (@cj _ _ _ _ _ _ _ _ _ yH yK (@aK _ _ _ (jm Zb abz rfl T.KC (by decide +kernel) (@fB _ _ _ _ _ (@aU _ _ _ (pv 2)) fX (by rfl)))) (@aK _ _ _ (wG Jg Ke rfl T.xj (by decide +kernel) (@fB _ _ _ _ _ (@aK _ _ _ (@lA _ _ _ _ _ _ _ _ _ Gh Gk (@aK _ _ _ (jm Zb abz rfl T.KC (by decide +kernel) (@fB _ _ _ _ _ (@aU _ _ _ (pv 2)) fX (by rfl)))) (@aK _ _ _ (@cj _ _ _ _ _ _ _ _ _ Bv BJ (@aK _ _ _ (aN bf)) (@aK _ _ _ (aN bf)))) (gH _))) fX (by rfl))))) (@aF _ _ _ _ _ (@cj _ _ _ _ _ _ _ _ _ fD fG (@aK _ _ _ (@cj _ _ _ _ _ _ _ _ _ fD fG (@aK _ _ _ (@cj _ _ _ _ _ _ _ _ _ Bu Bw (@aU _ _ _ (pv 2)) (@aK _ _ _ (aN bf)))) (@aK _ _ _ (@cj _ _ _ _ _ _ _ _ _ yH yK (@aK _ _ _ (aN bf)) (@aU _ _ _ (pv 1)))))) (@aK _ _ _ (aN bf))) (@aF _ _ _ _ _ (aN bf) aX (by rfl)) (by rfl)) (by rfl)))))))
theorem ajj{P:bB}{w:bA}{K:aJ}{mg:Str->Option Value}{base:bh}{cB cD cF cC cG cH cI cJ:Tok}{f:az}{fd:dH}(F:fU K "_law_take" "_law_take" RQ f fd)(T:Txt K mg cB cD cF cC cG cH cI cJ):dG P w K mg base eY 1 f fd zav (spT K mO):=
 jf (body:=J4) F Q8 λcdv A outer s H E hr=>(@bM _ _ _ _ _ (@gm _ _ _ _ _ _ _ _ (@jN _ _ _ _ _ _ _ _ _ abT ab6 (@aK _ _ _ (@yN _ _ _ _ _ _ (pv 0) (@aK _ _ _ (aN bf)) (λ_ _=>rfl))) (@aK _ _ _ (aN bf)) (gH _)) (@bM _ _ _ _ _ (iT (i:=2) Q8.nd rfl (cR rfl) (@cj _ _ _ _ _ _ _ _ _ Bu Bw (@aK _ _ _ (@yN _ _ _ _ _ _ (pv 0) (@aK _ _ _ (aN bf)) (λ_ _=>rfl))) (@aU _ _ _ (pv 1)))) (@bM _ _ _ _ _ (abw hr.iQ (pv 0) (@aK _ _ _ (aN bf)) (@cj _ _ _ _ _ _ _ _ _ aae aax (@aK _ _ _ (@yN _ _ _ _ _ _ (pv 0) (@aK _ _ _ (aN bf)) (λ_ _=>rfl))) (@aU _ _ _ (pv 1)))) (@b8 _ _ _ (@J0 _ _ _ _ (pv 2))))) gk) (@bM _ _ _ _ _ (abw hr.iQ (pv 0) (@aK _ _ _ (aN bf)) (@cj _ _ _ _ _ _ _ _ _ fD fG (@aK _ _ _ (@yN _ _ _ _ _ _ (pv 0) (@aK _ _ _ (aN bf)) (λ_ _=>rfl))) (@aK _ _ _ (aN bf)))) (@bM _ _ _ _ _ (iT (i:=3) Q8.nd rfl (cR rfl) (@cj _ _ _ _ _ _ _ _ _ Bu Bw (@aK _ _ _ (@cj _ _ _ _ _ _ _ _ _ Bv BJ (@aK _ _ _ (@cj _ _ _ _ _ _ _ _ _ fD fG (@aK _ _ _ (@yN _ _ _ _ _ _ (pv 0) (@aK _ _ _ (aN bf)) (λ_ _=>rfl))) (@aK _ _ _ (@cj _ _ _ _ _ _ _ _ _ yH yK (@aK _ _ _ (aN bf)) (@aK _ _ _ (@yN _ _ _ _ _ _ (pv 0) (@aK _ _ _ (aN bf)) (λ_ _=>rfl))))))) (@aK _ _ _ (aN bf)))) (@aK _ _ _ (aN bf)))) (@b8 _ _ _ (@cW _ _ _ _ (@cj _ _ _ _ _ _ _ _ _ Bu Bw (@aK _ _ _ (@cj _ _ _ _ _ _ _ _ _ aae aax (@aK _ _ _ (@cj _ _ _ _ _ _ _ _ _ Bu Bw (@aK _ _ _ (@cj _ _ _ _ _ _ _ _ _ fD fG (@aK _ _ _ (@cj _ _ _ _ _ _ _ _ _ yH yK (@aU _ _ _ (pv 3)) (@aK _ _ _ (@cj _ _ _ _ _ _ _ _ _ fD fG (@aK _ _ _ (@cj _ _ _ _ _ _ _ _ _ Bu Bw (@aU _ _ _ (pv 3)) (@aK _ _ _ (aN bf)))) (@aK _ _ _ (aN bf)))))) (@aK _ _ _ (@cj _ _ _ _ _ _ _ _ _ yH yK (@aK _ _ _ (@yN _ _ _ _ _ _ (pv 0) (@aK _ _ _ (aN bf)) (λ_ _=>rfl))) (@aK _ _ _ (aN bf)))))) (@aK _ _ _ (aN bf)))) (@aK _ _ _ (aN bf)))) (@aU _ _ _ (pv 1))))))))
theorem ah9{P:bB}{w:bA}{K:aJ}{mg:Str->Option Value}{base:bh}{cB cD cF cC cG cH cI cJ:Tok}{f:az}{fd:dH}(F:fU K "_law_names" "_law_names" Ba f fd)(T:Txt K mg cB cD cF cC cG cH cI cJ)(qz:dh P w K mg base "_law_take" 1 zav (spT K mO)):dG P w K mg base eY 2 f fd zav (spT K JL):=
 jf (body:=Q9) F yz λcdv A outer s H E hr=>(@bM _ _ _ _ _ (iT (i:=2) yz.nd rfl (t8 rfl) (aN pM)) (@bM _ _ _ _ _ (iT (i:=3) yz.nd rfl (t8 rfl) (@jo _ _ _ _ aX)) (@bM _ _ _ _ _ (@Ge _ _ _ _ _ _ _ _ _ DX rfl (Jy rfl T.Bp (@aU _ _ _ (pv 1))) (gF (i:=4) yz.nd rfl (cR rfl)) gG (@bM _ _ _ _ _ (iT (i:=5) yz.nd rfl (cR rfl) (@mW _ _ _ _ _ _ _ _ (mU hr.iQ) mX (@aK _ _ _ (@jo _ _ _ _ (@aF _ _ _ _ _ (aN bf) (@aF _ _ _ _ _ (aN bf) (@aF _ _ _ _ _ (aN bf) aX (by rfl)) (by rfl)) (by rfl)))) (@aK _ _ _ (b7 qz (hr.mono (by decide)) rfl (@aF _ _ _ _ _ (@aR _ _ _ (pv 0)) (@aF _ _ _ _ _ (aN bf) aX (by rfl)) (by rfl)))) (λ_ _=>rfl))) (@bM _ _ _ _ _ (iT (i:=6) yz.nd rfl (t8 rfl) (akh (@aK _ _ _ (aN pM)) (@aK _ _ _ (jU (T:=.one) (NT:=(["_law_j"]:List Str)) (NF:=(["_law_letters","_law_box_here"]:List Str)) (js:=[2,0]) (iu.ok (N0:=zaw) (gw:=bY Ba) (by decide +kernel) rfl rfl) (⟨_,⟨_,rfl⟩,rfl⟩) rfl (Jy rfl T.Bp (@aU _ _ _ (pv 5))) (λb=>⟨jx,(@mW _ _ _ _ _ _ _ _ (mU hr.iQ) mX (@aU _ _ _ (pv 1)) (@aK _ _ _ (b7 qz (hr.mono (by decide)) rfl (@aF _ _ _ _ _ (@aR _ _ _ (pv 2)) (@aF _ _ _ _ _ (aN bf) aX (by rfl)) (by rfl)))) (λ_ _=>rfl))⟩))))) (@bM _ _ _ _ _ (@gm _ _ _ _ _ _ _ _ (PW.pt (@R9 _ _ _ _ _ _ _ (@jN _ _ _ _ _ _ _ _ _ (nO hr.units) nR (@aK _ _ _ (b7 qz (hr.mono (by decide)) rfl (@aF _ _ _ _ _ (@aR _ _ _ (pv 0)) (@aF _ _ _ _ _ (aN bf) aX (by rfl)) (by rfl)))) (@aK _ _ _ (aN bf)) (gH _)) (@aaB _ _ _ _ (@jN _ _ _ _ _ _ _ _ _ (Gd hr.units) Gj (@aU _ _ _ (pv 3)) (@aK _ _ _ (@jo _ _ _ _ aX)) (gH _))))) (@b8 _ _ _ (iT (i:=6) yz.nd rfl (t8 rfl) (@cj _ _ _ _ _ _ _ _ _ fD fG (@aK _ _ _ (@Cw _ _ _ _ _ _ _ _ _ (@aK _ _ _ (@mW _ _ _ _ _ _ _ _ (mU hr.iQ) mX (@aU _ _ _ (pv 3)) (@aK _ _ _ (b7 qz (hr.mono (by decide)) rfl (@aF _ _ _ _ _ (@aR _ _ _ (pv 0)) (@aF _ _ _ _ _ (jm yx yM rfl T.rW (by decide +kernel) (@fB _ _ _ _ _ (@aU _ _ _ (pv 3)) fX (by rfl))) aX (by rfl)) (by rfl)))) (λ_ _=>rfl))) Cu (@Cv _ _ _ (@aK _ _ _ (aN bf))))) (@aK _ _ _ (@mW _ _ _ _ _ _ _ _ (mU hr.iQ) mX (@aU _ _ _ (pv 2)) (@aK _ _ _ (b7 qz (hr.mono (by decide)) rfl (@aF _ _ _ _ _ (@aR _ _ _ (pv 0)) (@aF _ _ _ _ _ (aN bf) aX (by rfl)) (by rfl)))) (λ_ _=>rfl)))))) gk) (@b8 _ _ _ (abv (pv 3) (@mW _ _ _ _ _ _ _ _ (mU hr.iQ) mX (@aK _ _ _ (jU (T:=.one) (NT:=za6) (NF:=(["_law_found"]:List Str)) (js:=[3]) (iu.ok (N0:=zaw) (gw:=bY Ba) (by decide +kernel) rfl rfl) (⟨_,⟨_,rfl⟩,rfl⟩) rfl (mH (@aK _ _ _ (@cj _ _ _ _ _ _ _ _ _ fD fG (@aK _ _ _ (@jo _ _ _ _ (@aF _ _ _ _ _ (@aR _ _ _ (pv 6)) aX (by rfl)))) (@aK _ _ _ (jU (T:=.one) (NT:=za6) (NF:=(["_law_name"]:List Str)) (js:=[6]) (iu.ok (N0:=zaw) (gw:=bY Ba) (by decide +kernel) rfl rfl) (⟨_,⟨_,rfl⟩,rfl⟩) rfl (mH (@aU _ _ _ (pv 2))) (λb=>⟨jx,(@cj _ _ _ _ _ _ _ _ _ fD fG (@aK _ _ _ (@Cw _ _ _ _ _ _ _ _ _ (@aU _ _ _ (pv 1)) Cu (@Cv _ _ _ (@aK _ _ _ (aN bf))))) (@aU _ _ _ (pv 0)))⟩)))))) (λb=>⟨(@Bo _ _ _ (@jN _ _ _ _ _ _ _ _ _ (YK hr.iQ) Zx (@aU _ _ _ (pv 0)) (@aU _ _ _ (pv 1)) (by with_unfolding_all rfl))),(@aR _ _ _ (pv 0))⟩))) (@aK _ _ _ (aN bf)) (λ_ _=>rfl))))))) (by intro _;rfl)) (@b8 _ _ _ (@J0 _ _ _ _ (pv 3))))))
theorem ajk{P:bB}{w:bA}{K:aJ}{mg:Str->Option Value}{base:bh}{cB cD cF cC cG cH cI cJ:Tok}{f:az}{fd:dH}(n:Nat)(F:fU K "_law_same" "_law_same" FJ f fd)(T:Txt K mg cB cD cF cC cG cH cI cJ)(qC:dh P w K mg base "_law_same" n zax (spT K (mQ n))):dG P w K mg base eY (n+1) f fd zax (spT K (mQ (n+1))):=
 jf (body:=Bq (mQ n)) F aji λcdv A outer s H E hr=>(@bM _ _ _ _ _ (@gm _ _ _ _ _ _ _ _ (@jN _ _ _ _ _ _ _ _ _ aa3 abo (@aU _ _ _ (pv 1)) (@aK _ _ _ (aN aaY)) (gH _)) (@b8 _ _ _ (@cW _ _ _ _ (@lA _ _ _ _ _ _ _ _ _ aa3 abo (@aU _ _ _ (pv 0)) (@aK _ _ _ (aN aaY)) (gH _)))) gk) (@bM _ _ _ _ _ (@gm _ _ _ _ _ _ _ _ (@gZ _ _ _ (@aK _ _ _ (nP (by decide) (@aU _ _ _ (pv 1)) (lV (v:=.ty "bool") rfl T.BZ (by decide +kernel) rfl) rfl T.lE (by decide +kernel))) (by intro _;rfl)) (@b8 _ _ _ (@cW _ _ _ _ (@lF _ _ _ _ _ _ _ (nP (by decide) (@aU _ _ _ (pv 0)) (lV (v:=.ty "bool") rfl T.BZ (by decide +kernel) rfl) rfl T.lE (by decide +kernel)) (@lY _ _ _ _ _ (@lA _ _ _ _ _ _ _ _ _ (nO hr.units) nR (@aU _ _ _ (pv 0)) (@aU _ _ _ (pv 1)) (gH _)))))) gk) (@bM _ _ _ _ _ (@gm _ _ _ _ _ _ _ _ (@gZ _ _ _ (@aK _ _ _ (akf (by decide) (by decide) (@aU _ _ _ (pv 1)) (lV (v:=.ty "list") rfl T.Gg (by decide +kernel) rfl) (lV (v:=.ty "tuple") rfl T.rG (by decide +kernel) rfl) rfl T.lE (by decide +kernel))) (by intro _;rfl)) (@bM _ _ _ _ _ (@gm _ _ _ _ _ _ _ _ (PW.pt (@rP _ _ _ _ _ _ _ (@jN _ _ _ _ _ _ _ _ _ (Gd hr.units) Gj (@aK _ _ _ (nP (by decide) (@aU _ _ _ (pv 0)) (lV (v:=.ty "list") rfl T.Gg (by decide +kernel) rfl) rfl T.lE (by decide +kernel))) (@aK _ _ _ (nP (by decide) (@aU _ _ _ (pv 1)) (lV (v:=.ty "list") rfl T.Gg (by decide +kernel) rfl) rfl T.lE (by decide +kernel))) (gH _)) (@vg _ _ _ _ (@jN _ _ _ _ _ _ _ _ _ (Gd hr.units) Gj (@aK _ _ _ (nP (by decide) (@aU _ _ _ (pv 0)) (lV (v:=.ty "tuple") rfl T.rG (by decide +kernel) rfl) rfl T.lE (by decide +kernel))) (@aK _ _ _ (nP (by decide) (@aU _ _ _ (pv 1)) (lV (v:=.ty "tuple") rfl T.rG (by decide +kernel) rfl) rfl T.lE (by decide +kernel))) (gH _))))) (@b8 _ _ _ (@cW _ _ _ _ (aN jd))) gk) (@b8 _ _ _ (@cW _ _ _ _ (@lF _ _ _ _ _ _ _ (@lA _ _ _ _ _ _ _ _ _ (nO hr.units) nR (@aK _ _ _ (jm yx yM rfl T.rW (by decide +kernel) (@fB _ _ _ _ _ (@aU _ _ _ (pv 0)) fX (by rfl)))) (@aK _ _ _ (jm yx yM rfl T.rW (by decide +kernel) (@fB _ _ _ _ _ (@aU _ _ _ (pv 1)) fX (by rfl)))) (gH _)) (@lY _ _ _ _ _ (jm (qu rfl) qG rfl T.oV (by decide +kernel) (@fB _ _ _ _ _ (@aK _ _ _ (jU (T:=(.many 2)) (NT:=(["_law_one","_law_other"]:List Str)) (NF:=([]:List Str)) (js:=[]) (iu.ok (N0:=zax) (gw:=bY FJ) (by decide +kernel) rfl rfl) (⟨_,_,_,rfl,(.cons ⟨_,rfl⟩ (.cons ⟨_,rfl⟩ .nil)),rfl⟩) rfl (aaR rfl T.KH (@fB _ _ _ _ _ (@aU _ _ _ (pv 0)) (@fB _ _ _ _ _ (@aU _ _ _ (pv 1)) fX (by rfl)) (by rfl))) (λb=>⟨jx,(b7 qC hr rfl (@aF _ _ _ _ _ (@aR _ _ _ (pv 0)) (@aF _ _ _ _ _ (@aR _ _ _ (pv 1)) aX (by rfl)) (by rfl)))⟩))) fX (by rfl)))))))) gk) (@bM _ _ _ _ _ (@gm _ _ _ _ _ _ _ _ (@gZ _ _ _ (@aK _ _ _ (nP (by decide) (@aU _ _ _ (pv 1)) (lV (v:=.ty "str") rfl T.Gu (by decide +kernel) rfl) rfl T.lE (by decide +kernel))) (by intro _;rfl)) (@b8 _ _ _ (@cW _ _ _ _ (@lF _ _ _ _ _ _ _ (nP (by decide) (@aU _ _ _ (pv 0)) (lV (v:=.ty "str") rfl T.Gu (by decide +kernel) rfl) rfl T.lE (by decide +kernel)) (@lY _ _ _ _ _ (@lA _ _ _ _ _ _ _ _ _ (nO hr.units) nR (@aU _ _ _ (pv 0)) (@aU _ _ _ (pv 1)) (gH _)))))) gk) (@b8 _ _ _ (@cW _ _ _ _ (@lF _ _ _ _ _ _ _ (nP (by decide) (@aU _ _ _ (pv 0)) (lV (v:=.ty "int") rfl T.xj (by decide +kernel) rfl) rfl T.lE (by decide +kernel)) (@lF _ _ _ _ _ _ _ (@abr _ _ _ _ (nP (by decide) (@aU _ _ _ (pv 0)) (lV (v:=.ty "bool") rfl T.BZ (by decide +kernel) rfl) rfl T.lE (by decide +kernel))) (@lY _ _ _ _ _ (@lA _ _ _ _ _ _ _ _ _ (nO hr.units) nR (@aU _ _ _ (pv 0)) (@aU _ _ _ (pv 1)) (gH _)))))))))))
theorem Y6{P:bB}{w:bA}{K:aJ}{mg:Str->Option Value}{base:bh}{cB cD cF cC cG cH cI cJ:Tok}{f:az}{fd:dH}(hm:mg "_law_same"=aj (.ref f))(hk:wu K (.ref f)=au)(hb:Binds K fd zax [])(F:fU K "_law_same" "_law_same" FJ f fd)(T:Txt K mg cB cD cF cC cG cH cI cJ):
  ∀n,dh P w K mg base "_law_same" n zax (spT K (mQ n))
 |0=>⟨f,fd,hm,hk,hb,aki⟩
 |n+1=>⟨f,fd,hm,hk,hb,ajk n F T (Y6 hm hk hb F T n)⟩
theorem afd{P:bB}{w:bA}{K:aJ}{mg:Str->Option Value}{base:bh}{cB cD cF cC cG cH cI cJ:Tok}{f:az}{fd:dH}(F:fU K "_law_seats_right" "_law_seats_right" yg f fd)(T:Txt K mg cB cD cF cC cG cH cI cJ)(An:dh P w K mg base "seats_of" 3 zad (spT K pJ))(qC:dh P w K mg base "_law_same" 4 zax (spT K (mQ 4))):dG P w K mg base eY 5 f fd zaz (spT K Ea):=
 jf (body:=Ny) F HF λcdv A outer s H E hr=>(@bM _ _ _ _ _ (Az (i:=5) (T:=.one) (NT:=za7) (NF:=(["_law_house","_law_whole"]:List Str)) (js:=[0,1]) (iu.ok (N0:=zay) (gw:=bY yg) (by decide +kernel) rfl rfl) (⟨_,⟨_,rfl⟩,rfl⟩) rfl (mH (@aK _ _ _ (@cN _ _ _ _ _ (@aF _ _ _ _ _ (aN bf) (@aF _ _ _ _ _ (@cj _ _ _ _ _ _ _ _ _ akY alm (@aU _ _ _ (pv 4)) (@aK _ _ _ (aN bf))) (@aF _ _ _ _ _ (@aR _ _ _ (pv 4)) (@aF _ _ _ _ _ (@cj _ _ _ _ _ _ _ _ _ fD fG (@aU _ _ _ (pv 4)) (@aK _ _ _ (aN bf))) (@aF _ _ _ _ _ (@cj _ _ _ _ _ _ _ _ _ fD fG (@aU _ _ _ (pv 4)) (@aK _ _ _ (aN bf))) (@aF _ _ _ _ _ (@cj _ _ _ _ _ _ _ _ _ Bv BJ (@aK _ _ _ (aN bf)) (@aK _ _ _ (aN bf))) aX (by rfl)) (by rfl)) (by rfl)) (by rfl)) (by rfl)) (by rfl))))) (λb=>⟨jx,(b7 An (hr.mono (by decide)) rfl (@aF _ _ _ _ _ (@aR _ _ _ (pv 1)) (@aF _ _ _ _ _ (@aR _ _ _ (pv 2)) (@aF _ _ _ _ _ (@aR _ _ _ (pv 0)) aX (by rfl)) (by rfl)) (by rfl)))⟩) (by rfl) HF.nd rfl rfl) (@bM _ _ _ _ _ (@gm _ _ _ _ _ _ _ _ (@iR _ _ _ _ (@gZ _ _ _ (@aK _ _ _ (b7 qC (hr.mono (by decide)) rfl (@aF _ _ _ _ _ (@aR _ _ _ (pv 5)) (@aF _ _ _ _ _ (@cj _ _ _ _ _ _ _ _ _ fD fG (@aK _ _ _ (@cj _ _ _ _ _ _ _ _ _ fD fG (@aK _ _ _ (@jo _ _ _ _ (@aF _ _ _ _ _ (@cN _ _ _ _ _ aX) (@aF _ _ _ _ _ (@cN _ _ _ _ _ aX) aX (by rfl)) (by rfl)))) (@aK _ _ _ (@cj _ _ _ _ _ _ _ _ _ Ft Fv (@aK _ _ _ (@jo _ _ _ _ (@aF _ _ _ _ _ (@cN _ _ _ _ _ (@aF _ _ _ _ _ (@cN _ _ _ _ _ (@aF _ _ _ _ _ (aN bf) (@aF _ _ _ _ _ (@aR _ _ _ (pv 1)) aX (by rfl)) (by rfl))) (@aF _ _ _ _ _ (@cN _ _ _ _ _ (@aF _ _ _ _ _ (aN bf) (@aF _ _ _ _ _ (@aR _ _ _ (pv 1)) aX (by rfl)) (by rfl))) aX (by rfl)) (by rfl))) aX (by rfl)))) (@aK _ _ _ (aN bf)))))) (@aK _ _ _ (@cj _ _ _ _ _ _ _ _ _ Ft Fv (@aK _ _ _ (@jo _ _ _ _ (@aF _ _ _ _ _ (@cN _ _ _ _ _ (@aF _ _ _ _ _ (@cN _ _ _ _ _ (@aF _ _ _ _ _ (aN bf) (@aF _ _ _ _ _ (@aR _ _ _ (pv 1)) aX (by rfl)) (by rfl))) (@aF _ _ _ _ _ (@cN _ _ _ _ _ (@aF _ _ _ _ _ (aN bf) (@aF _ _ _ _ _ (@aR _ _ _ (pv 3)) aX (by rfl)) (by rfl))) aX (by rfl)) (by rfl))) aX (by rfl)))) (@aK _ _ _ (aN bf))))) aX (by rfl)) (by rfl)))) (by intro _;rfl))) (@b8 _ _ _ (@cW _ _ _ _ (aN jd))) gk) (@bM _ _ _ _ _ (Az (i:=5) (T:=.one) (NT:=za7) (NF:=(["_law_house","_law_part"]:List Str)) (js:=[0,2]) (iu.ok (N0:=zay) (gw:=bY yg) (by decide +kernel) rfl rfl) (⟨_,⟨_,rfl⟩,rfl⟩) rfl (mH (@aK _ _ _ (@cN _ _ _ _ _ (@aF _ _ _ _ _ (aN bf) (@aF _ _ _ _ _ (@cj _ _ _ _ _ _ _ _ _ fD fG (@aU _ _ _ (pv 4)) (@aK _ _ _ (aN bf))) (@aF _ _ _ _ _ (@cj _ _ _ _ _ _ _ _ _ fD fG (@aU _ _ _ (pv 4)) (@aK _ _ _ (aN bf))) (@aF _ _ _ _ _ (@cj _ _ _ _ _ _ _ _ _ fD fG (@aU _ _ _ (pv 4)) (@aK _ _ _ (aN bf))) (@aF _ _ _ _ _ (@cj _ _ _ _ _ _ _ _ _ Bv BJ (@aK _ _ _ (aN bf)) (@aK _ _ _ (aN bf))) aX (by rfl)) (by rfl)) (by rfl)) (by rfl)) (by rfl))))) (λb=>⟨jx,(b7 An (hr.mono (by decide)) rfl (@aF _ _ _ _ _ (@aR _ _ _ (pv 1)) (@aF _ _ _ _ _ (@aR _ _ _ (pv 2)) (@aF _ _ _ _ _ (@aR _ _ _ (pv 0)) aX (by rfl)) (by rfl)) (by rfl)))⟩) (by rfl) HF.nd rfl rfl) (@bM _ _ _ _ _ (@gm _ _ _ _ _ _ _ _ (@iR _ _ _ _ (@gZ _ _ _ (@aK _ _ _ (b7 qC (hr.mono (by decide)) rfl (@aF _ _ _ _ _ (@aR _ _ _ (pv 5)) (@aF _ _ _ _ _ (@cj _ _ _ _ _ _ _ _ _ fD fG (@aK _ _ _ (@jo _ _ _ _ (@aF _ _ _ _ _ (@cN _ _ _ _ _ aX) (@aF _ _ _ _ _ (@cN _ _ _ _ _ aX) aX (by rfl)) (by rfl)))) (@aK _ _ _ (@cj _ _ _ _ _ _ _ _ _ Ft Fv (@aK _ _ _ (@jo _ _ _ _ (@aF _ _ _ _ _ (@cN _ _ _ _ _ (@aF _ _ _ _ _ (@cN _ _ _ _ _ (@aF _ _ _ _ _ (aN bf) (@aF _ _ _ _ _ (@aR _ _ _ (pv 2)) aX (by rfl)) (by rfl))) (@aF _ _ _ _ _ (@cN _ _ _ _ _ (@aF _ _ _ _ _ (aN bf) (@aF _ _ _ _ _ (@aR _ _ _ (pv 1)) aX (by rfl)) (by rfl))) (@aF _ _ _ _ _ (@cN _ _ _ _ _ (@aF _ _ _ _ _ (aN bf) (@aF _ _ _ _ _ (@aR _ _ _ (pv 2)) aX (by rfl)) (by rfl))) aX (by rfl)) (by rfl)) (by rfl))) aX (by rfl)))) (@aK _ _ _ (aN bf))))) aX (by rfl)) (by rfl)))) (by intro _;rfl))) (@b8 _ _ _ (@cW _ _ _ _ (aN jd))) gk) (@bM _ _ _ _ _ (iT (i:=6) HF.nd rfl (cR rfl) (@cj _ _ _ _ _ _ _ _ _ fD fG (@aK _ _ _ (@Cw _ _ _ _ _ _ _ _ _ (@aU _ _ _ (pv 0)) Cu (@Cv _ _ _ (@aK _ _ _ (aN bf))))) (@aK _ _ _ (@cN _ _ _ _ _ (@aF _ _ _ _ _ (wG HX JB rfl T.rG (by decide +kernel) (@fB _ _ _ _ _ (@aK _ _ _ (jU (T:=.one) (NT:=(["_law_row"]:List Str)) (NF:=(["_law_part"]:List Str)) (js:=[2]) (iu.ok (N0:=zay) (gw:=bY yg) (by decide +kernel) rfl rfl) (⟨_,⟨_,rfl⟩,rfl⟩) rfl (mH (@aK _ _ _ (@mW _ _ _ _ _ _ _ _ (mU hr.iQ) mX (@aU _ _ _ (pv 0)) (@aK _ _ _ (aN bf)) (λ_ _=>rfl)))) (λb=>⟨(@Bo _ _ _ (@jN _ _ _ _ _ _ _ _ _ (Gd hr.units) Gj (@aK _ _ _ (@mW _ _ _ _ _ _ _ _ (mU hr.iQ) mX (@aU _ _ _ (pv 0)) (@aK _ _ _ (aN bf)) (λ_ _=>rfl))) (@aU _ _ _ (pv 1)) (gH _))),(@aR _ _ _ (pv 0))⟩))) fX (by rfl))) aX (by rfl)))))) (@bM _ _ _ _ _ (@gm _ _ _ _ _ _ _ _ (@iR _ _ _ _ (@gZ _ _ _ (@aK _ _ _ (b7 qC (hr.mono (by decide)) rfl (@aF _ _ _ _ _ (b7 An (hr.mono (by decide)) rfl (@aF _ _ _ _ _ (@aR _ _ _ (pv 6)) (@aF _ _ _ _ _ (@aR _ _ _ (pv 2)) (@aF _ _ _ _ _ (@aR _ _ _ (pv 4)) aX (by rfl)) (by rfl)) (by rfl))) (@aF _ _ _ _ _ (@cN _ _ _ _ _ (@aF _ _ _ _ _ (@cN _ _ _ _ _ (@aF _ _ _ _ _ (aN bf) (@aF _ _ _ _ _ (@aR _ _ _ (pv 2)) aX (by rfl)) (by rfl))) (@aF _ _ _ _ _ (@cN _ _ _ _ _ (@aF _ _ _ _ _ (aN bf) (@aF _ _ _ _ _ (@aR _ _ _ (pv 2)) aX (by rfl)) (by rfl))) aX (by rfl)) (by rfl))) aX (by rfl)) (by rfl)))) (by intro _;rfl))) (@b8 _ _ _ (@cW _ _ _ _ (aN jd))) gk) (@b8 _ _ _ (@cW _ _ _ _ (jm (qu rfl) qG rfl T.oV (by decide +kernel) (@fB _ _ _ _ _ (@aK _ _ _ (jU (T:=.one) (NT:=za6) (NF:=(["_law_beside"]:List Str)) (js:=[3]) (iu.ok (N0:=zay) (gw:=bY yg) (by decide +kernel) rfl rfl) (⟨_,⟨_,rfl⟩,rfl⟩) rfl (mH (@aK _ _ _ (@cN _ _ _ _ _ (@aF _ _ _ _ _ (@aR _ _ _ (pv 0)) (@aF _ _ _ _ _ (@aR _ _ _ (pv 6)) aX (by rfl)) (by rfl))))) (λb=>⟨jx,(b7 qC (hr.mono (by decide)) rfl (@aF _ _ _ _ _ (b7 An (hr.mono (by decide)) rfl (@aF _ _ _ _ _ (@aR _ _ _ (pv 0)) (@aF _ _ _ _ _ (@aR _ _ _ (pv 1)) (@aF _ _ _ _ _ (@cj _ _ _ _ _ _ _ _ _ Bv BJ (@aK _ _ _ (aN bf)) (@aK _ _ _ (aN bf))) aX (by rfl)) (by rfl)) (by rfl))) (@aF _ _ _ _ _ (@cN _ _ _ _ _ aX) aX (by rfl)) (by rfl)))⟩))) fX (by rfl)))))))))))
theorem alL{P:bB}{w:bA}{K:aJ}{mg:Str->Option Value}{base:bh}{cB cD cF cC cG cH cI cJ:Tok}{f:az}{fd:dH}(F:fU K "law" "law" Ti f fd)(T:Txt K mg cB cD cF cC cG cH cI cJ)(uR:dh P w K mg base "parts_over" 1 zab (spT K uP))(Pz:dh P w K mg base "is_house" 6 zaf (spT K Et))(uY:dh P w K mg base "rank_of" 2 zar (spT K pK))(Eh:dh P w K mg base "holders_of" 3 zat (spT K uQ))(SJ:dh P w K mg base "_law_box" 1 zau (spT K Ko))(qz:dh P w K mg base "_law_take" 1 zav (spT K mO))(Ra:dh P w K mg base "_law_names" 2 zav (spT K JL))(qC:dh P w K mg base "_law_same" 4 zax (spT K (mQ 4)))(NB:dh P w K mg base "_law_seats_right" 5 zaz (spT K Ea)):dG P w K mg base eY 7 f fd za0 (spT K Cz):=
 jf (body:=Tn) F jy λcdv A outer s H E hr=>(@bM _ _ _ _ _ (@Ge _ _ _ _ _ _ _ _ _ DX rfl (Jy rfl T.Bp (@aK _ _ _ (@cj _ _ _ _ _ _ _ _ _ fD fG (@aK _ _ _ (aN bf)) (@aK _ _ _ (jm (ahx rfl) ake rfl T.Tj (by decide +kernel) (@fB _ _ _ _ _ (@aK _ _ _ (aN bf)) (@fB _ _ _ _ _ (@aK _ _ _ (aaJ (pv 0) rfl T.rW (by decide +kernel))) fX (by rfl)) (by rfl))))))) (gF (i:=1) jy.nd rfl (cR rfl)) gG (@bM _ _ _ _ _ (alv (i:=2) jy.nd rfl (cR rfl) (b7 SJ (hr.mono (by decide)) rfl (@aF _ _ _ _ _ (@aR _ _ _ (pv 0)) (@aF _ _ _ _ _ (@aR _ _ _ (pv 1)) aX (by rfl)) (by rfl)))) (@bM _ _ _ _ _ (iT (i:=3) jy.nd rfl (cR rfl) (b7 Ra (hr.mono (by decide)) rfl (@aF _ _ _ _ _ (@aR _ _ _ (pv 2)) (@aF _ _ _ _ _ (aN bf) aX (by rfl)) (by rfl)))) (@bM _ _ _ _ _ (@yL _ _ _ _ _ _ _ (@Cw _ _ _ _ _ _ _ _ _ (@aU _ _ _ (pv 3)) Cu (@Cv _ _ _ (@aK _ _ _ (aN bf)))) (abJ rfl (iy (gF (i:=4) jy.nd rfl (cR rfl)) (iy (gF (i:=5) jy.nd rfl (cR rfl)) (iy (gF (i:=6) jy.nd rfl (cR rfl)) wJ)))) (@abK _ _ _ _ (@iz _ _ _ _ _ gG (@iz _ _ _ _ _ gG (@iz _ _ _ _ _ gG wO)))) (by rfl) (by rfl) (by rfl)) (@bM _ _ _ _ _ (@yL _ _ _ _ _ _ _ (@Cw _ _ _ _ _ _ _ _ _ (@aU _ _ _ (pv 3)) (@Cv _ _ _ (@aK _ _ _ (aN bf))) Cu) (abJ rfl (iy (gF (i:=7) jy.nd rfl (cR rfl)) (iy (gF (i:=8) jy.nd rfl (cR rfl)) (iy (gF (i:=9) jy.nd rfl (cR rfl)) wJ)))) (@abK _ _ _ _ (@iz _ _ _ _ _ gG (@iz _ _ _ _ _ gG (@iz _ _ _ _ _ gG wO)))) (by rfl) (by rfl) (by rfl)) (@bM _ _ _ _ _ (@gm _ _ _ _ _ _ _ _ (@jN _ _ _ _ _ _ _ _ _ (nO hr.units) nR (@aK _ _ _ (b7 qz (hr.mono (by decide)) rfl (@aF _ _ _ _ _ (@aR _ _ _ (pv 2)) (@aF _ _ _ _ _ (aN bf) aX (by rfl)) (by rfl)))) (@aK _ _ _ (aN bf)) (gH _)) (@b8 _ _ _ (aks (i:=7) (j:=8) (k:=9) rfl jy.nd rfl rfl rfl (by decide) (by decide) (by decide) rfl rfl rfl (@Fq _ _ _ _ _ (@aR _ _ _ (pv 5)) (@Fq _ _ _ _ _ (@aR _ _ _ (pv 4)) (@Fq _ _ _ _ _ (@aR _ _ _ (pv 6)) abu (by rfl)) (by rfl)) (by rfl)) rfl)) gk) (@bM _ _ _ _ _ (als (i:=10) (j:=11) rfl jy.nd rfl rfl (by decide) rfl rfl (@Fq _ _ _ _ _ (@cj _ _ _ _ _ _ _ _ _ fD fG (@aK _ _ _ (aN bf)) (@aK _ _ _ (b7 qz (hr.mono (by decide)) rfl (@aF _ _ _ _ _ (@aR _ _ _ (pv 2)) (@aF _ _ _ _ _ (aN bf) aX (by rfl)) (by rfl))))) (@Fq _ _ _ _ _ (@cj _ _ _ _ _ _ _ _ _ fD fG (@aK _ _ _ (aN bf)) (@aK _ _ _ (b7 qz (hr.mono (by decide)) rfl (@aF _ _ _ _ _ (@aR _ _ _ (pv 2)) (@aF _ _ _ _ _ (@cj _ _ _ _ _ _ _ _ _ Bv BJ (@aK _ _ _ (aN bf)) (@aK _ _ _ (aN bf))) aX (by rfl)) (by rfl))))) abu (by rfl)) (by rfl)) rfl) (@bM _ _ _ _ _ (iT (i:=12) jy.nd rfl (cR rfl) (@cN _ _ _ _ _ (@aF _ _ _ _ _ (@cN _ _ _ _ _ (@aF _ _ _ _ _ (aN bf) (@aF _ _ _ _ _ (@aR _ _ _ (pv 7)) (@aF _ _ _ _ _ (aN bf) (@aF _ _ _ _ _ (@aR _ _ _ (pv 4)) (@aF _ _ _ _ _ (@aR _ _ _ (pv 10)) (@aF _ _ _ _ _ (@cj _ _ _ _ _ _ _ _ _ fD fG (@aU _ _ _ (pv 10)) (@aK _ _ _ (aN bf))) aX (by rfl)) (by rfl)) (by rfl)) (by rfl)) (by rfl)) (by rfl))) (@aF _ _ _ _ _ (@cN _ _ _ _ _ (@aF _ _ _ _ _ (aN bf) (@aF _ _ _ _ _ (@aR _ _ _ (pv 8)) (@aF _ _ _ _ _ (aN bf) (@aF _ _ _ _ _ (@aR _ _ _ (pv 5)) (@aF _ _ _ _ _ (@aR _ _ _ (pv 10)) (@aF _ _ _ _ _ (@cj _ _ _ _ _ _ _ _ _ fD fG (@aU _ _ _ (pv 10)) (@aK _ _ _ (aN bf))) aX (by rfl)) (by rfl)) (by rfl)) (by rfl)) (by rfl)) (by rfl))) aX (by rfl)) (by rfl)))) (@bM _ _ _ _ _ (iT (i:=12) jy.nd rfl (cR rfl) (@cj _ _ _ _ _ _ _ _ _ fD fG (@aU _ _ _ (pv 12)) (@aK _ _ _ (@cN _ _ _ _ _ (@aF _ _ _ _ _ (@cN _ _ _ _ _ (@aF _ _ _ _ _ (aN bf) (@aF _ _ _ _ _ (@aR _ _ _ (pv 8)) (@aF _ _ _ _ _ (aN bf) (@aF _ _ _ _ _ (@aR _ _ _ (pv 5)) (@aF _ _ _ _ _ (@cj _ _ _ _ _ _ _ _ _ fD fG (@aU _ _ _ (pv 10)) (@aK _ _ _ (aN bf))) (@aF _ _ _ _ _ (@cj _ _ _ _ _ _ _ _ _ fD fG (@aU _ _ _ (pv 10)) (@aK _ _ _ (aN bf))) aX (by rfl)) (by rfl)) (by rfl)) (by rfl)) (by rfl)) (by rfl))) aX (by rfl)))))) (@bM _ _ _ _ _ (iT (i:=12) jy.nd rfl (cR rfl) (@cj _ _ _ _ _ _ _ _ _ fD fG (@aU _ _ _ (pv 12)) (@aK _ _ _ (@cN _ _ _ _ _ (@aF _ _ _ _ _ (@cN _ _ _ _ _ (@aF _ _ _ _ _ (aN bf) (@aF _ _ _ _ _ (@aR _ _ _ (pv 9)) (@aF _ _ _ _ _ (aN bf) (@aF _ _ _ _ _ (@aR _ _ _ (pv 6)) (@aF _ _ _ _ _ (aN bf) (@aF _ _ _ _ _ (aN bf) aX (by rfl)) (by rfl)) (by rfl)) (by rfl)) (by rfl)) (by rfl))) aX (by rfl)))))) (@bM _ _ _ _ _ (iT (i:=13) jy.nd rfl (cR rfl) (@jo _ _ _ _ (@aF _ _ _ _ _ (@cN _ _ _ _ _ (@aF _ _ _ _ _ (@aR _ _ _ (pv 4)) (@aF _ _ _ _ _ (@aR _ _ _ (pv 11)) (@aF _ _ _ _ _ (@cN _ _ _ _ _ (@aF _ _ _ _ _ (@cN _ _ _ _ _ (@aF _ _ _ _ _ (aN bf) (@aF _ _ _ _ _ (aN pM) aX (by rfl)) (by rfl))) (@aF _ _ _ _ _ (@cN _ _ _ _ _ (@aF _ _ _ _ _ (aN bf) (@aF _ _ _ _ _ (aN pM) aX (by rfl)) (by rfl))) aX (by rfl)) (by rfl))) aX (by rfl)) (by rfl)) (by rfl))) (@aF _ _ _ _ _ (@cN _ _ _ _ _ (@aF _ _ _ _ _ (@aR _ _ _ (pv 4)) (@aF _ _ _ _ _ (@cj _ _ _ _ _ _ _ _ _ fD fG (@aU _ _ _ (pv 11)) (@aK _ _ _ (aN bf))) (@aF _ _ _ _ _ (@cN _ _ _ _ _ (@aF _ _ _ _ _ (@cN _ _ _ _ _ (@aF _ _ _ _ _ (aN bf) (@aF _ _ _ _ _ (@aR _ _ _ (pv 4)) aX (by rfl)) (by rfl))) (@aF _ _ _ _ _ (@cN _ _ _ _ _ (@aF _ _ _ _ _ (aN bf) (@aF _ _ _ _ _ (@aR _ _ _ (pv 6)) aX (by rfl)) (by rfl))) aX (by rfl)) (by rfl))) aX (by rfl)) (by rfl)) (by rfl))) aX (by rfl)) (by rfl)))) (@bM _ _ _ _ _ (iT (i:=13) jy.nd rfl (cR rfl) (@cj _ _ _ _ _ _ _ _ _ fD fG (@aU _ _ _ (pv 13)) (@aK _ _ _ (@jo _ _ _ _ (@aF _ _ _ _ _ (@cN _ _ _ _ _ (@aF _ _ _ _ _ (@aR _ _ _ (pv 5)) (@aF _ _ _ _ _ (@cj _ _ _ _ _ _ _ _ _ fD fG (@aU _ _ _ (pv 11)) (@aK _ _ _ (aN bf))) (@aF _ _ _ _ _ (@cN _ _ _ _ _ (@aF _ _ _ _ _ (@cN _ _ _ _ _ (@aF _ _ _ _ _ (aN bf) (@aF _ _ _ _ _ (aN pM) aX (by rfl)) (by rfl))) (@aF _ _ _ _ _ (@cN _ _ _ _ _ (@aF _ _ _ _ _ (aN bf) (@aF _ _ _ _ _ (@aR _ _ _ (pv 4)) aX (by rfl)) (by rfl))) (@aF _ _ _ _ _ (@cN _ _ _ _ _ (@aF _ _ _ _ _ (aN bf) (@aF _ _ _ _ _ (@aR _ _ _ (pv 5)) aX (by rfl)) (by rfl))) aX (by rfl)) (by rfl)) (by rfl))) aX (by rfl)) (by rfl)) (by rfl))) aX (by rfl)))))) (@bM _ _ _ _ _ (iT (i:=14) jy.nd rfl (cR rfl) (wG HX JB rfl T.rG (by decide +kernel) (@fB _ _ _ _ _ (@aK _ _ _ (jm (Yd rfl) ZM rfl T.Bb (by decide +kernel) (@fB _ _ _ _ _ (@aK _ _ _ (@jo _ _ _ _ (@aF _ _ _ _ _ (@cN _ _ _ _ _ (@aF _ _ _ _ _ (@aR _ _ _ (pv 4)) (@aF _ _ _ _ _ (aN pM) aX (by rfl)) (by rfl))) (@aF _ _ _ _ _ (@cN _ _ _ _ _ (@aF _ _ _ _ _ (@aR _ _ _ (pv 5)) (@aF _ _ _ _ _ (@aR _ _ _ (pv 4)) aX (by rfl)) (by rfl))) (@aF _ _ _ _ _ (@cN _ _ _ _ _ (@aF _ _ _ _ _ (@aR _ _ _ (pv 6)) (@aF _ _ _ _ _ (aN pM) aX (by rfl)) (by rfl))) aX (by rfl)) (by rfl)) (by rfl)))) fX (by rfl)))) fX (by rfl)))) (@bM _ _ _ _ _ (iT (i:=15) jy.nd rfl (cR rfl) (@cN _ _ _ _ _ (@aF _ _ _ _ _ (@aR _ _ _ (pv 14)) (@aF _ _ _ _ _ (@aR _ _ _ (pv 12)) (@aF _ _ _ _ _ (@cN _ _ _ _ _ aX) (@aF _ _ _ _ _ (wG HX JB rfl T.rG (by decide +kernel) (@fB _ _ _ _ _ (@aK _ _ _ (jm aeJ ajh rfl T.Bb (by decide +kernel) (@fB _ _ _ _ _ (@aU _ _ _ (pv 13)) fX (by rfl)))) fX (by rfl))) aX (by rfl)) (by rfl)) (by rfl)) (by rfl)))) (@bM _ _ _ _ _ (@gm _ _ _ _ _ _ _ _ (PW.pt (@rP _ _ _ _ _ _ _ (@jN _ _ _ _ _ _ _ _ _ afy akt (@aK _ _ _ (b7 Pz (hr.mono (by decide)) rfl (@aF _ _ _ _ _ (@aR _ _ _ (pv 15)) aX (by rfl)))) (@aK _ _ _ (aN jd)) (gH _)) (@vg _ _ _ _ (@jN _ _ _ _ _ _ _ _ _ (Gd hr.units) Gj (@aK _ _ _ (b7 uR (hr.mono (by decide)) rfl (@aF _ _ _ _ _ (@aR _ _ _ (pv 15)) (@aF _ _ _ _ _ (@aR _ _ _ (pv 5)) aX (by rfl)) (by rfl)))) (@aK _ _ _ (@jo _ _ _ _ (@aF _ _ _ _ _ (@aR _ _ _ (pv 5)) (@aF _ _ _ _ _ (@aR _ _ _ (pv 4)) aX (by rfl)) (by rfl)))) (gH _))))) (@b8 _ _ _ (@cW _ _ _ _ (aN jd))) gk) (@bM _ _ _ _ _ (@Ge _ _ _ _ _ _ _ _ _ DX rfl (@amj _ _ _ _ (@cN _ _ _ _ _ (@aF _ _ _ _ _ (@cN _ _ _ _ _ (@aF _ _ _ _ _ (aN bf) (@aF _ _ _ _ _ (aN bf) aX (by rfl)) (by rfl))) (@aF _ _ _ _ _ (@cN _ _ _ _ _ (@aF _ _ _ _ _ (aN bf) (@aF _ _ _ _ _ (aN bf) aX (by rfl)) (by rfl))) (@aF _ _ _ _ _ (@cN _ _ _ _ _ (@aF _ _ _ _ _ (aN bf) (@aF _ _ _ _ _ (aN bf) aX (by rfl)) (by rfl))) (@aF _ _ _ _ _ (@cN _ _ _ _ _ (@aF _ _ _ _ _ (aN bf) (@aF _ _ _ _ _ (aN bf) aX (by rfl)) (by rfl))) (@aF _ _ _ _ _ (@cN _ _ _ _ _ (@aF _ _ _ _ _ (aN bf) (@aF _ _ _ _ _ (aN bf) aX (by rfl)) (by rfl))) (@aF _ _ _ _ _ (@cN _ _ _ _ _ (@aF _ _ _ _ _ (aN bf) (@aF _ _ _ _ _ (aN bf) aX (by rfl)) (by rfl))) (@aF _ _ _ _ _ (@cN _ _ _ _ _ (@aF _ _ _ _ _ (aN bf) (@aF _ _ _ _ _ (aN bf) aX (by rfl)) (by rfl))) (@aF _ _ _ _ _ (@cN _ _ _ _ _ (@aF _ _ _ _ _ (@alr _ _ _ _ (@aK _ _ _ (aN bf))) (@aF _ _ _ _ _ (aN bf) aX (by rfl)) (by rfl))) aX (by rfl)) (by rfl)) (by rfl)) (by rfl)) (by rfl)) (by rfl)) (by rfl)) (by rfl)))) (Bs rfl (iy (gF (i:=16) jy.nd rfl (cR rfl)) (iy (gF (i:=17) jy.nd rfl (cR rfl)) wJ))) (@BL _ _ _ _ (@iz _ _ _ _ _ gG (@iz _ _ _ _ _ gG wO))) (@bM _ _ _ _ _ (iT (i:=18) jy.nd rfl (cR rfl) (@jo _ _ _ _ (@aF _ _ _ _ _ (b7 uY (hr.mono (by decide)) rfl (@aF _ _ _ _ _ (@aR _ _ _ (pv 15)) (@aF _ _ _ _ _ (@aR _ _ _ (pv 8)) (@aF _ _ _ _ _ (@aR _ _ _ (pv 5)) (@aF _ _ _ _ _ (@cj _ _ _ _ _ _ _ _ _ fD fG (@aU _ _ _ (pv 10)) (@aU _ _ _ (pv 16))) aX (by rfl)) (by rfl)) (by rfl)) (by rfl))) (@aF _ _ _ _ _ (b7 uY (hr.mono (by decide)) rfl (@aF _ _ _ _ _ (@aR _ _ _ (pv 15)) (@aF _ _ _ _ _ (@aR _ _ _ (pv 8)) (@aF _ _ _ _ _ (@aR _ _ _ (pv 4)) (@aF _ _ _ _ _ (@cj _ _ _ _ _ _ _ _ _ fD fG (@aU _ _ _ (pv 10)) (@aU _ _ _ (pv 16))) aX (by rfl)) (by rfl)) (by rfl)) (by rfl))) aX (by rfl)) (by rfl)))) (@bM _ _ _ _ _ (iT (i:=18) jy.nd rfl (cR rfl) (@cj _ _ _ _ _ _ _ _ _ fD fG (@aU _ _ _ (pv 18)) (@aK _ _ _ (@jo _ _ _ _ (@aF _ _ _ _ _ (b7 uY (hr.mono (by decide)) rfl (@aF _ _ _ _ _ (@aR _ _ _ (pv 15)) (@aF _ _ _ _ _ (@aR _ _ _ (pv 7)) (@aF _ _ _ _ _ (@aR _ _ _ (pv 5)) (@aF _ _ _ _ _ (@cj _ _ _ _ _ _ _ _ _ fD fG (@aU _ _ _ (pv 10)) (@aU _ _ _ (pv 16))) aX (by rfl)) (by rfl)) (by rfl)) (by rfl))) (@aF _ _ _ _ _ (b7 uY (hr.mono (by decide)) rfl (@aF _ _ _ _ _ (@aR _ _ _ (pv 15)) (@aF _ _ _ _ _ (@aR _ _ _ (pv 7)) (@aF _ _ _ _ _ (@aR _ _ _ (pv 6)) (@aF _ _ _ _ _ (@cj _ _ _ _ _ _ _ _ _ fD fG (@aU _ _ _ (pv 10)) (@aU _ _ _ (pv 16))) aX (by rfl)) (by rfl)) (by rfl)) (by rfl))) aX (by rfl)) (by rfl)))))) (@bM _ _ _ _ _ (@gm _ _ _ _ _ _ _ _ (@iR _ _ _ _ (@gZ _ _ _ (@aK _ _ _ (b7 qC (hr.mono (by decide)) rfl (@aF _ _ _ _ _ (@aR _ _ _ (pv 18)) (@aF _ _ _ _ _ (@jo _ _ _ _ (@aF _ _ _ _ _ (@aR _ _ _ (pv 17)) (@aF _ _ _ _ _ (aN bf) (@aF _ _ _ _ _ (@cj _ _ _ _ _ _ _ _ _ yH yK (@aK _ _ _ (aN bf)) (@aK _ _ _ (wG Jg Ke rfl T.xj (by decide +kernel) (@fB _ _ _ _ _ (@aK _ _ _ (@lA _ _ _ _ _ _ _ _ _ Gh Gk (@aU _ _ _ (pv 16)) (@aK _ _ _ (aN bf)) (gH _))) fX (by rfl))))) (@aF _ _ _ _ _ (aN bf) aX (by rfl)) (by rfl)) (by rfl)) (by rfl))) aX (by rfl)) (by rfl)))) (by intro _;rfl))) (@b8 _ _ _ (@cW _ _ _ _ (aN jd))) gk) (@bM _ _ _ _ _ (iT (i:=19) jy.nd rfl (cR rfl) (jm (Yd rfl) ZM rfl T.Bb (by decide +kernel) (@fB _ _ _ _ _ (@aK _ _ _ (@cj _ _ _ _ _ _ _ _ _ fD fG (@aK _ _ _ (@cj _ _ _ _ _ _ _ _ _ Ft Fv (@aK _ _ _ (@jo _ _ _ _ (@aF _ _ _ _ _ (@aR _ _ _ (pv 7)) aX (by rfl)))) (@aK _ _ _ (wG Jg Ke rfl T.xj (by decide +kernel) (@fB _ _ _ _ _ (@aK _ _ _ (@lA _ _ _ _ _ _ _ _ _ Gh Gk (@aU _ _ _ (pv 16)) (@aK _ _ _ (aN bf)) (gH _))) fX (by rfl)))))) (@aK _ _ _ (@cj _ _ _ _ _ _ _ _ _ Ft Fv (@aK _ _ _ (@jo _ _ _ _ (@aF _ _ _ _ _ (@aR _ _ _ (pv 8)) aX (by rfl)))) (@aK _ _ _ (wG Jg Ke rfl T.xj (by decide +kernel) (@fB _ _ _ _ _ (@aK _ _ _ (@lA _ _ _ _ _ _ _ _ _ (nO hr.units) nR (@aU _ _ _ (pv 17)) (@aK _ _ _ (aN bf)) (gH _))) fX (by rfl)))))))) fX (by rfl)))) (@bM _ _ _ _ _ (iT (i:=18) jy.nd rfl (cR rfl) (@jo _ _ _ _ (@aF _ _ _ _ _ (b7 Eh (hr.mono (by decide)) rfl (@aF _ _ _ _ _ (@aR _ _ _ (pv 15)) (@aF _ _ _ _ _ (aN bf) (@aF _ _ _ _ _ (@aR _ _ _ (pv 5)) (@aF _ _ _ _ _ (@cj _ _ _ _ _ _ _ _ _ fD fG (@aU _ _ _ (pv 10)) (@aU _ _ _ (pv 16))) aX (by rfl)) (by rfl)) (by rfl)) (by rfl))) (@aF _ _ _ _ _ (b7 Eh (hr.mono (by decide)) rfl (@aF _ _ _ _ _ (@aR _ _ _ (pv 15)) (@aF _ _ _ _ _ (aN bf) (@aF _ _ _ _ _ (@aR _ _ _ (pv 6)) (@aF _ _ _ _ _ (@cj _ _ _ _ _ _ _ _ _ fD fG (@aU _ _ _ (pv 10)) (@aU _ _ _ (pv 16))) aX (by rfl)) (by rfl)) (by rfl)) (by rfl))) aX (by rfl)) (by rfl)))) (@b8 _ _ _ (@gm _ _ _ _ _ _ _ _ (@iR _ _ _ _ (@gZ _ _ _ (@aK _ _ _ (b7 qC (hr.mono (by decide)) rfl (@aF _ _ _ _ _ (@cj _ _ _ _ _ _ _ _ _ fD fG (@aU _ _ _ (pv 18)) (@aK _ _ _ (@jo _ _ _ _ (@aF _ _ _ _ _ (b7 Eh (hr.mono (by decide)) rfl (@aF _ _ _ _ _ (@aR _ _ _ (pv 15)) (@aF _ _ _ _ _ (aN bf) (@aF _ _ _ _ _ (@aR _ _ _ (pv 5)) (@aF _ _ _ _ _ (@cj _ _ _ _ _ _ _ _ _ fD fG (@aU _ _ _ (pv 10)) (@aU _ _ _ (pv 16))) aX (by rfl)) (by rfl)) (by rfl)) (by rfl))) aX (by rfl))))) (@aF _ _ _ _ _ (@jo _ _ _ _ (@aF _ _ _ _ _ (@aR _ _ _ (pv 19)) (@aF _ _ _ _ _ (@jo _ _ _ _ (@aF _ _ _ _ _ (@aR _ _ _ (pv 9)) aX (by rfl))) (@aF _ _ _ _ _ (@jo _ _ _ _ aX) aX (by rfl)) (by rfl)) (by rfl))) aX (by rfl)) (by rfl)))) (by intro _;rfl))) (@b8 _ _ _ (@cW _ _ _ _ (aN jd))) gk))))))) (by intro _;rfl)) (@b8 _ _ _ (@gm _ _ _ _ _ _ _ _ (@iR _ _ _ _ (@gZ _ _ _ (@aK _ _ _ (b7 NB (hr.mono (by decide)) rfl (@aF _ _ _ _ _ (@aR _ _ _ (pv 15)) (@aF _ _ _ _ _ (@aR _ _ _ (pv 4)) (@aF _ _ _ _ _ (@aR _ _ _ (pv 5)) (@aF _ _ _ _ _ (@aR _ _ _ (pv 6)) (@aF _ _ _ _ _ (@aR _ _ _ (pv 11)) aX (by rfl)) (by rfl)) (by rfl)) (by rfl)) (by rfl)))) (by intro _;rfl))) (@b8 _ _ _ (@cW _ _ _ _ (aN jd))) gk))))))))))))))))) (by intro _;rfl)) (@b8 _ _ _ (@cW _ _ _ _ (aN jd))))
local macro_rules|`(tactic|simp_arith[$ts,*])=>`(tactic|simp only[amL,amM,amN,amm,amn,anC,amo,anD,amq,anE,amr,aQ,gQ,gq,Gy,aM,dat,still,bO,eV,aC,aV,dO,eU,wZ,dJ,bI,cQ,yW,fK,KY,iG,cu,Cp,iB,iV,oY,Lj,U7,TX,gW,frB,zj,setM,uw,qb,eG,nU,dz,gU,add_int,sub_int,le_int,lt_int,ge_int,gt_int,eq_int,rF,aaP,RN,anH,anI,anu,anv,anw,anx,anz,anA,anB,ai9,anF,alE,ams,amu,anG,Option.bind_some,Option.map_some,List.getElem?_cons_zero,List.getElem?_cons_succ,List.set_cons_zero,List.set_cons_succ,List.map_cons,List.map_nil,List.length_cons,List.length_nil,Bool.not_true,Bool.not_false,if_true,if_false,ite_self,Bool.false_eq_true,Option.join,id_eq,Nat.reduceAdd,Nat.reduceLeDiff,Nat.reduceLT,and_true,true_and,and_self,String.reduceBEq,Bool.or_false,Bool.or_true,Bool.false_or,Bool.true_or,Bool.and_true,Bool.and_false,Bool.true_and,Bool.false_and,decide_true,decide_false,reduceCtorEq,eq_bool,ne_bool,ne_int,amv,amw,beq_self_eq_true,List.length_map,amx,amy,amz,amA,amB,amC,amD,amE,amF,amG,Ql,YZ,sI,CV,intD,KR,cond_true,cond_false,$ts,*])
theorem wQ{C:Ce}{b L k:Nat}{m:Int}(h:Bf L C b (k+1))(h0:0<m)(h1:m<1073741824):
  ∃t C',mO [.ce b,.im (.int m)] C=aj (.im (.int t),C')/\0<=t/\t<m/\Bf L C' b k:=by
 obtain⟨hL,x,y,z,hc,hx,hy,hy2,hz,hz2⟩:=h
 refine hide λGG gg=>?_
 have i0:n6 3 0=aj 0:=rfl;have i2:n6 3 2=aj 2:=rfl;by_cases hp:0<x
 .refine gg ⟨x%m,C.set b [x / m,y,z],jj [aj (.ce b),aj (.im (.int m)),ao,ao] rfl rfl ?_ rfl (by simp),Nm _ (by lia),Mr _ h0,⟨by simpa using hL,x / m,y,z,Kh hc,Int.ediv_nonneg hx (by lia),hy,hy2,hz,by lia⟩⟩;simp_arith[J4,su,hc,hp,mod_eq h0,fdiv_eq h0 h1,GF,Cq,Kh hc,i0,i2]
 .have o0:0<=(y+39373*(z+1))^5%2147483647:=Nm _ (by lia);have o1:(y+39373*(z+1))^5%2147483647<2147483647:=Mr _ (by lia);have pw:oR (.int (y+39373*(z+1))) (.int 5)=aj (.im (.int ((y+39373*(z+1))^5))):=pow_eq (by lia) (by lia) (by lia)
  obtain⟨q,qe⟩:∃q,(y+39373*(z+1))^5=q:=⟨_,rfl⟩
  rw[qe] at o0 o1 pw
  obtain⟨once,ho⟩:∃o,q%2147483647=o:=⟨_,rfl⟩
  rw[ho] at o0 o1;have c1:∀i,rO (.int i) (.int 2147483629)=aj (.im (.int (i%2147483629))):=λi=>mod_eq (by lia)
  refine gg ⟨(once*(once%40009+7)+(z+1)*7919)%2147483629 / 64%m,C.set b [x,y,z+1],jj [aj (.ce b),aj (.im (.int m)),ao,ao] rfl rfl ?_ rfl (by simp),Nm _ (by lia),Mr _ h0,⟨by simpa using hL,x,y,z+1,Kh hc,hx,hy,hy2,by lia,by lia⟩⟩;simp_arith[J4,su,hc,hp,GF,Cq,Kh hc,mul_eq (i:=39373) (j:=z+1) (.inl (by lia)),pw,mod_eq (i:=q) (j:=2147483647) (by lia),ho,mod_eq (i:=once) (j:=40009) (by lia),mul_eq (i:=once) (j:=once%40009+7) (.inl (by lia)),mul_eq (i:=z+1) (j:=7919) (.inr (by lia)),c1,i0,i2,fdiv_eq (j:=64) (by lia) (by lia),mod_eq h0]
theorem akB{C:Ce}{b L j:Nat}{size:Int}(h:Bf L C b (j+8))(h0:0<=size)(h1:size<=8):
  ∃(cs:List Nat)(C':Ce),dU .one cM O6 [aj (.im (.str abc)),aj (.ce b)] (pW 0 size.toNat) C=aj ((cs.map λc=>.str ⟨#[c]⟩),C')/\cs.length=size.toNat/\(∀c∈cs,97<=c/\c<=122)/\Bf L C' b j:=by
 obtain⟨ys,C',e,hB,hl,hr⟩:=YS (T:=.one) (fe:=O6) (fs:=[aj (.im (.str abc)),aj (.ce b)]) (λi C1=>Bf L C1 b (j+(8-i))) (λ_ y=>∃c:Nat,y=.str ⟨#[c]⟩/\97<=c/\c<=122) (its:=pW 0 size.toNat) (C:=C) (k:=0) h (λi d C1 hd hB=>by
  obtain⟨rfl,hi⟩:=RC hd
  rw[Oh] at hB⊢;rw[alG (j) (by lia:i<8)] at hB
  obtain⟨k1,C2,e1,a1,b1,Hl⟩:=wQ (m:=26) hB (by decide) (by decide)
  refine⟨_,.im (.str ⟨#[97+k1.toNat]⟩),[aj (.im (.int (0+i))),aj (.im (.str abc)),aj (.ce b)],C2,.str ⟨#[97+k1.toNat]⟩,rfl,?_,rfl,⟨_,rfl,by lia,by lia⟩,Hl⟩
  simp_arith[cO,jt,iJ,e1,dW,letters k1 a1 b1])
 rw[Q0] at hB hl
 obtain⟨cs,rfl,hcs⟩:∃cs:List Nat,ys=cs.map (λc=>.str ⟨#[c]⟩)/\∀c∈cs,97<=c/\c<=122:=by
  clear e hl hB;induction ys with
  |nil=>exact⟨[],rfl,λ_ m=>(nomatch m)⟩
  |cons y ys ih=>
   obtain⟨c,rfl,c1,c2⟩:=hr 0 y rfl
   obtain⟨cs,rfl,h2⟩:=ih λi z hz=>hr (i+1) z (by simpa using hz)
   exact⟨c::cs,rfl,λx hx=>by
    rcases bJ.mp hx with rfl|hx
    .exact⟨c1,c2⟩
    .exact h2 x hx⟩
 exact⟨cs,C',e,by simpa using hl,hcs,hB.mono (M5 _ _)⟩
theorem akC{C:Ce}{z:Str}(hz:z.length<=8):dU .one cM XD [aj (.im (.str z))] (chars abc) C=aj (((gC 26).map (lH z)).map .str,C):=by
 rw[Ye (λ_=>au) (λd=>match d with|.str c=>.str (Txt.slice z ao (aj 7)++c)|_=>.none) λd hd=>?_]
 .rw[YX,vW.mpr λ_ _=>rfl,iK,iK];rfl
 .rw[YX] at hd
  obtain⟨i,hi,rfl⟩:=ji.mp hd
  refine⟨_,rfl,rfl,λ_=>⟨.im (.str (Txt.slice z ao (aj 7)++⟨#[97+i]⟩)),[aj (.im (.str ⟨#[97+i]⟩)),aj (.im (.str z))],?_,rfl⟩⟩
  have h1:(z.length<=1000000)=True:=eq_true (by lia);have h2:((Txt.slice z ao (aj 7)).length+Str.length ⟨#[97+i]⟩<=1000000)=True:=eq_true (by
   have:=Q3 z;show _+1<=_;lia)
  simp_arith[cO,jt,iJ,oF,oX,oE,xR,cL,h1,h2]
theorem akD{C:Ce}{cs zs:List Str}:dU .one XF XH [aj (.im (.list (zs.map .str)))] (cs.map .str) C=aj ((cs.filter λo=>decide (o∉zs)).map .str,C):=by
 refine nD gM (λo=>decide (o∉zs)) gM λo _=>⟨[.str o],rfl,?_,λ_=>⟨.im (.str o),_,rfl,rfl⟩⟩
 have hi:wN (.str o) (.list (zs.map .str))=aj (.im (.bool (decide (o∉zs)))):=by
  have:inB (.str o) (.list (zs.map .str))=aj (inD (.str o) (zs.map .str)):=aZ (by rw[Qm];rfl);unfold wN;rw[this,ZS,lR,decide_not]
 simp_arith[cO,jt,iJ,hi]
theorem akE{cs:List Nat}(h:cs.length<=100):Kg (.str (bZ "")) (.list (cs.map λc=>.str ⟨#[c]⟩))=aj (.im (.str (Txt.join (bZ "") (cs.map λc=>⟨#[c]⟩)))):=by
 simp only[Kg,Xo];refine aZ ?_;rw[iK,aaL,ah5,Nat.mul_zero];unfold gU;lia
theorem akF{C:Ce}{b L j:Nat}{v1 v4 v5 v6:Option Vl}{zs:List Str}(h:Bf L C b (j+12))(hzs:∀z∈zs,nameB z=au)(hl:zs.length<26):
  ∃z C' w5 w6,I9 [aj (.ce b),v1,aj (.im (.str abc)),aj (.ow (.list (zs.map .str))),v4,v5,v6] C=aj (.nx,[aj (.ce b),v1,aj (.im (.str abc)),aj (.ow (.list ((zs++[z]).map .str))),v4,w5,w6],C')/\nameB z=au/\z∉zs/\Bf L C' b j:=by
 refine hide λGG gg=>?_
 obtain⟨k1,C1,e1,a1,b1,Hl⟩:=wQ (m:=3) h (by decide) (by decide)
 obtain⟨size,s0,s1,es⟩:∃size:Int,1<=size/\size<=8/\ie [uV 1,.int 8,.int 2] k1=aj (.int size):=by
  have hk:k1=0\/k1=1\/k1=2:=by lia
  rcases hk with rfl|rfl|rfl
  .exact⟨1,by lia,by lia,rfl⟩
  .exact⟨8,by lia,by lia,rfl⟩
  .exact⟨2,by lia,by lia,rfl⟩
 obtain⟨cs,C2,e2,cl,hc,hB2⟩:=akB (j:=j+3) Hl (by lia:0<=size) s1
 have hj:=akE (cs:=cs) (by lia);have hz0:=ah0 (l:=cs) (by lia) (by lia) hc
 obtain⟨z0,anL⟩:∃z,z=Txt.join (bZ "") (cs.map λc=>⟨#[c]⟩):=⟨_,rfl⟩
 rw[<-anL] at hj hz0
 obtain⟨k3,C3,e3,a3,b3,hB3⟩:=wQ (m:=3) hB2 (by decide) (by decide)
 obtain⟨z1,C4,t4,hz1,hB4⟩:∃z1 C4,eX (vm (gQ (bu jW (aH (bO mO (aC (aQ 0) (aC (aM (.int 3)) aV)))) (aH (aM (.int 0))))) (gQ (bu m9 (aO 3) (aH (iG aV))))) (dJ 6 (bu cL (aH (oF (aH (bu dW (aO 3) (aH (bO mO (aC (aQ 0) (aC (eV mq (dO (aO 3) eU)) aV)))))) oX (oE (aH (aM (.int 7)))))) (aH (bu dW (aO 2) (aH (bO mO (aC (aQ 0) (aC (aM (.int 26)) aV)))))))) fK [aj (.ce b),v1,aj (.im (.str abc)),aj (.ow (.list (zs.map .str))),v4,aj (.im (.int size)),aj (.im (.str z0))] C2
   =aj (.nx,[aj (.ce b),v1,aj (.im (.str abc)),aj (.ow (.list (zs.map .str))),v4,aj (.im (.int size)),aj (.im (.str z1))],C4)/\nameB z1=au/\Bf L C4 b j:=by
  have ne:=ne_nil zs hzs;by_cases hk:k3=0
  .subst hk;cases zs with
   |nil=>
    rw[pI] at ne
    exact⟨z0,C3,by simp_arith[e3,ne,MT],hz0,hB3.mono (M5 _ 2)⟩
   |cons y ys=>
    rw[dD] at hl
    obtain⟨k5,C5,e5,a5,b5,hB5⟩:=wQ (m:=(ys.length:Int)+1) hB3 (by lia) (by lia)
    obtain⟨k6,C6,e6,a6,b6,hB6⟩:=wQ (m:=26) hB5 (by decide) (by decide)
    obtain⟨x,mx,_,ix⟩:=akl (zs:=y::ys) a5 (by rw[dD];lia)
    have nx:=hzs x mx;have n8:=(Q4 nx).2.1;have c7:=Q3 x;have h1:(x.length<=1000000)=True:=eq_true (by lia);have h2:cL (.str (Txt.slice x ao (aj 7))) (.str ⟨#[97+k6.toNat]⟩)=aj (.im (.str (lH x k6.toNat))):=aZ (by show _+1<=1000000;lia)
    refine⟨lH x k6.toNat,C6,?_,YT nx (by lia),hB6⟩
    rw[cV] at ne ix⊢;have ix2:=ix;unfold dW at ix2;have e5':mO [.ce b,.im (.int ((ys.length+1:Nat):Int))] C3=aj (.im (.int k5),C5):=e5;simp_arith[e3,ne,V9,e5',ix2,dW,letters k6 a6 b6,e6,oF,oX,oE,xR,h1,h2]
  .have hk':(k3==0)=aD:=beq_eq_false_iff_ne.mpr hk
   exact⟨z0,C3,by simp_arith[e3,hk'],hz0,hB3.mono (M5 _ 2)⟩
 obtain⟨k,hk,hnew⟩:=ai4 z1 hl
 have n8:=(Q4 hz1).2.1;generalize hcs:z1::(gC 26).map (lH z1)=ca;have hlc:ca.length=27:=by rw[<-hcs];simp
 have mem:lH z1 k∈ca.filter λo=>decide (o∉zs):=xX.mpr ⟨by rw[<-hcs];exact dB _ (ji.mpr ⟨k,ql.mpr hk,rfl⟩),dZ hnew⟩
 cases hf:ca.filter λo=>decide (o∉zs) with
 |nil=>rw[hf] at mem;cases mem
 |cons z' r=>
  have mz:z'∈ca.filter λo=>decide (o∉zs):=by rw[hf];exact dj
  obtain⟨m1,m2⟩:=xX.mp mz
  refine gg ⟨z',C4,aj (.im (.int size)),aj (.im (.str z1)),?_,?_,of_decide_eq_true m2,hB4⟩
  .have f1:=akC (C:=C4) n8;have f2:=akD (C:=C4) (cs:=ca) (zs:=zs);rw[hf] at f2;have f3:cL (.list [.str z1]) (.list (((gC 26).map (lH z1)).map .str))=aj (.ow (.list (ca.map .str))):=by
    rw[<-hcs];exact add_l (xs:=[.str z1]) (by simp)
   have lf:(z'::r).length<=27:=by rw[<-hf,<-hlc];exact zP _ _
   rw[dD] at lf;have g1:((gC 26).length<=1000000)=True:=eq_true (by simp);have g2:(r.length+1<=1000000)=True:=eq_true (by lia);have g3:(zs.length<1000000)=True:=eq_true (by lia);have g4:=Ql (z'::r);have g5:(size.toNat<=1000000)=True:=eq_true (by lia);rw[cV] at f2 g4;simp_arith[I9,e1,es,Kw,uC,Ua (m:=size) (by lia) (by lia),cl,Yl,e2,g5,hj,↓t4,f1,f2,f3,g1,g2,g3,g4,CT,Gn,yc]
  .rw[<-hcs] at m1;rcases bJ.mp m1 with rfl|m1
   .exact hz1
   .obtain⟨i,hi,rfl⟩:=ji.mp m1
    exact YT hz1 (ql.mp hi)
theorem ajl{C:Ce}{b L j:Nat}{m:Int}(h:Bf L C b (j+240))(h0:0<=m)(h1:m<=20):
  ∃(zs:List Str)(C':Ce),JL [.ce b,.im (.int m)] C=aj (.ow (.list (zs.map .str)),C')/\Names zs/\zs.length=m.toNat/\Bf L C' b j:=by
 refine hide λGG gg=>?_
 obtain⟨env',C',e,zs,v4,v5,v6,he,hl,hN,hB⟩:=YQ (g:=dz 4) (body:=I9) (its:=pW 0 m.toNat) (env:=[aj (.ce b),aj (.im (.int m)),aj (.im (.str abc)),aj (.ow (.list [])),ao,ao,ao]) (C:=C)
  (λi env C1=>∃(zs:List Str)(v4 v5 v6:Option Vl),env=[aj (.ce b),aj (.im (.int m)),aj (.im (.str abc)),aj (.ow (.list (zs.map .str))),v4,v5,v6]/\zs.length=i/\Names zs/\Bf L C1 b (j+12*(20-i)))
  ⟨[],ao,ao,ao,rfl,rfl,⟨oK,λ_ m=>(nomatch m)⟩,h⟩ (λi d env C1 hd hI=>by
   obtain⟨zs,v4,v5,v6,rfl,hl,hN,hB⟩:=hI
   obtain⟨rfl,hi⟩:=RC hd
   refine hide λGG gg=>?_
   rw[amH (j) 12 (by lia:i<20)] at hB
   obtain⟨z,C2,w5,w6,e,nz,nm,hB2⟩:=akF (v1:=aj (.im (.int m))) (v4:=aj (.im (.int (0+i)))) (v5:=v5) (v6:=v6) hB hN.2 (by lia)
   refine gg ⟨_,.nx,_,C2,rfl,e,.inl rfl,zs++[z],_,w5,w6,rfl,by simp[hl],⟨?_,λy hy=>?_⟩,hB2⟩
   .rw[lD]
    refine⟨hN.1,by simp,λx hx y hy e=>?_⟩
    rw[jB.mp hy] at e;exact nm (e▸hx)
   .rcases dF.mp hy with hy|hy
    .exact hN.2 y hy
    .rw[jB.mp hy];exact nz)
 rw[Q0] at hl hB;subst he;refine gg ⟨zs,C',jj [aj (.ce b),aj (.im (.int m)),ao,ao,ao,ao,ao] rfl rfl ?_ rfl (h.eq hB),hN,hl,hB.mono (M5 _ _)⟩;simp_arith[Q9,nY,uC,Ua (m:=m) (by lia) (by lia),e]
theorem Rb{C:Ce}:∀(l q:List (Str×Str)),((q++l).map (·.1)).Nodup->(q++l).length<=8->vz (.many 2) cM Nh Ni [] (l.map eN) (eE (fL q)) C=aj (eE (fL (q++l)),C)
 |[],q,_,_=>by rw[lq];rfl
 |x::l,q,nd,h8=>by
  have ih:=Rb (C:=C) l (q++[x]) (by rw[qg];exact nd) (by rw[qg];exact h8);have hx:x.1∉(fL q).map (·.1):=by
   unfold fL;rw[iK];show x.1∉q.map (·.1);rw[yc,lD] at nd;exact λhm=>nd.2.2 _ hm _ dj rfl
  have hl:(eE (fL q)).length<gU:=by
   unfold eE fL;rw[lO] at h8;rw[bC,bC];show _<1000000;lia
  rw[cV];unfold vz;rw[show sO (.many 2) (eN x)=aj [.str x.1,.str x.2] from rfl]
  show(if(eE (fL q)).length<gU then vz (.many 2) cM Nh Ni [] (l.map eN) (qO gK (.inr x.1) (.str x.1) (.str x.2) (eE (fL q))) C else ao)=_
  rw[aZ hl,ai5 hx];have e:fL q++[(x.1,.str x.2)]=fL (q++[x]):=by unfold fL;rw[yc];rfl
  rw[e,ih,qg];rfl
theorem akG{C:Ce}{hs:Option Vl}{q ps:List (Str×Str)}(hl:∀z,fY q z=fY ps z):∀{z:Str}{os:List Str},Over (fY ps) z os->∀(n:Nat)(acc:List Str),os.length<n->acc.length+os.length<1000->
  ∃z',uf Wo Wq n [hs,aj (.im (.str z)),aj (.ow (.dict (eE (fL q)))),aj (.ow (.list (acc.map .str)))] C=aj (.nx,[hs,aj (.im (.str z')),aj (.ow (.dict (eE (fL q)))),aj (.ow (.list ((acc++os).map .str)))],C):=by
 have hin:∀z,pU (.str z) (.dict (eE (fL q)))=aj (.im (.bool (fY ps z).isSome)):=λz=>by
  show((wY (eE (fL q)) (.str z)).map (·.isSome)).map (λb=>Vl.im (.bool b))=_
  rw[Q7,hl];cases fY ps z<;>rfl
 intro z os ho;induction ho with
 |@stop z h=>
  intro n acc hn ha;cases n with
  |zero=>exact absurd hn (M9 _)
  |succ n=>
   refine⟨z,?_⟩
   unfold uf;simp_arith[hin,h,aeq,lq]
 |@step z y r h _ ih=>
  intro n acc hn ha;cases n with
  |zero=>exact absurd hn (M9 _)
  |succ n=>
   rw[dD] at hn ha
   obtain⟨z',e⟩:=ih n (acc++[z]) (by lia) (by rw[lO];show acc.length+1+_<_;lia)
   refine⟨z',?_⟩
   have g:(acc.length<1000000)=True:=eq_true (by lia);have i:dW (.dict (eE (fL q))) (.str z)=aj (.im (.str y)):=by
    unfold dW vP;simp only[Q7,hl,h,lR]
   simp only[yc,cV,pI,qg,jt,iJ] at e⊢;unfold uf;simp_arith[hin,h,aem,g,CT,Gn,i,e]
theorem Oe{C:Ce}{zs:List Str}{ps:List (Str×Str)}{ht:jF}(hN:Names zs)(hP:lX zs ps)(hG:u9 zs ps ht)(z:Str):
  uP [.im (di ht),.im (.str z)] C=aj (.ow (.list ((up ps z).map .str)),C):=by
 have nd:=Ek hN hP;have Ho:(ht.ps.map (·.1)).Nodup:=(hG.parts.map (·.1)).nodup_iff.mpr nd;have hL:ht.ps.length<=8:=by rw[hG.parts.length_eq];exact hG.p8
 have t:=Rb (C:=C) ht.ps [] Ho hL;rw[show eE (fL [])=[] from rfl,iJ] at t;have hul:=alB ps z;have h8:=hG.p8
 obtain⟨z',e⟩:=akG (C:=C) (hs:=aj (.im (di ht))) (Yh hG.parts nd) (RJ hN hP z) ab9 [] (by show _<100000;lia) (by show 0+_<1000;lia)
 rw[pI,iJ] at e;refine jj [aj (.im (di ht)),aj (.im (.str z)),ao,ao] rfl rfl ?_ rfl rfl;simp_arith[Om,xT,t,Q6,U6,e]
theorem Eu{C:Ce}{zs:List Str}{ps:List (Str×Str)}{ht:jF}(hN:Names zs)(hP:lX zs ps)(hG:u9 zs ps ht)(who z:Str)(day:Int):
  pK [.im (di ht),.im (.str who),.im (.str z),.im (.int day)] C=aj (.im (.int (nJ ht.ranks who (up ps z) day)),C):=by
 have p:=Oe (C:=C) hN hP hG z
 obtain⟨hl,hE⟩:∃l,l=ht.ranks.filter (eO who (up ps z) day):=⟨_,rfl⟩
 have t1:dU (.many 6) Ot Ou [aj (.im (.str who)),aj (.im (.list ((up ps z).map .str))),aj (.im (.int day))] (ht.ranks.map dI) C=aj ((hl.map (·.2.2.1)).map .int,C):=by
  have:=nD (T:=.many 6) (ft:=Ot) (fe:=Ou) (fs:=[aj (.im (.str who)),aj (.im (.list ((up ps z).map .str))),aj (.im (.int day))]) (C:=C) dI (eO who (up ps z) day) (λr=>.int r.2.2.1) (l:=ht.ranks) λr _=>by
   refine⟨[.int r.1,.str r.2.1,.int r.2.2.1,.str r.2.2.2.1,.int r.2.2.2.2.1,.int r.2.2.2.2.2],rfl,?_,λ_=>⟨.im (.int r.2.2.1),_,rfl,rfl⟩⟩
   have c:=Ky j7 j7 (aO 4) (aO 8) (aO 5) (env:=[aj (.im (.int r.1)),aj (.im (.str r.2.1)),aj (.im (.int r.2.2.1)),aj (.im (.str r.2.2.2.1)),aj (.im (.int r.2.2.2.2.1)),aj (.im (.int r.2.2.2.2.2)),aj (.im (.str who)),aj (.im (.list ((up ps z).map .str))),aj (.im (.int day))]) (C:=C) (a:=decide (r.2.2.2.2.1<=day)) (b:=decide (day<=r.2.2.2.2.2)) rfl rfl rfl rfl rfl;simp_arith[cO,jt,iJ,c];unfold eO;cases decide (r.2.1=who)<;>cases decide (r.2.2.2.1∈up ps z)<;>rfl
  rw[<-hE] at this;rw[iK];exact this
 have hlen:hl.length<=20:=by rw[hE];exact ju (zP _ _) hG.r20
 have hpos:∀x∈hl.map (·.2.2.1),0<=x:=λx hx=>by
  obtain⟨r,hr,rfl⟩:=ji.mp hx
  rw[hE] at hr;have:=(hG.ranks r (xX.mp hr).1).rank;lia
 have g:(hl.length<=1000000)=True:=eq_true (by lia);refine jj [aj (.im (di ht)),aj (.im (.str who)),aj (.im (.str z)),aj (.im (.int day)),ao,ao] rfl rfl ?_ rfl rfl;simp_arith[Qs,p,t1,g,Kv,Yk,ah2 hpos];rw[hE];rfl
theorem alM{C:Ce}{ns:List Int}{k:Int}(k0:0<=k)(k9:k<=9):∃x y:Int,Ko [.sc ns,.im (.int k)] C=aj (.ow (.list [.int x,.int y,.int 0]),C)/\0<=x/\0<=y/\y<=3000000000:=by
 obtain⟨c,hc⟩:∃c:Int,(bI (dJ 2 (aM (.int 0))) (eX (gQ (bu vK (aO 1) (aH (xg 0)))) (dJ 2 (GJ 0 (aO 1))) fK)) [aj (.sc ns),aj (.im (.int k)),ao] C=aj (.nx,[aj (.sc ns),aj (.im (.int k)),aj (.im (.int c))],C):=by
  by_cases h:k<ns.length
  .obtain⟨c,hc,_⟩:=abG (xs:=ns) k0 h
   exact⟨c,by simp_arith[xg,GJ,h,hc]⟩
  .exact⟨0,by simp_arith[xg,h]⟩
 simp only[bI,dJ,aM,List.set_cons_zero,List.set_cons_succ] at hc;have a0:0<=(if c<0 then -c else c):=by split<;>lia
 obtain⟨a,hA⟩:∃a,(if c<0 then -c else c)=a:=⟨_,rfl⟩
 rw[hA] at a0
 obtain⟨j,hj,j01⟩:∃j:Int,(if decide (1000000000000000000<=a)=au then(1:Int) else 0)=j/\(j=1\/j=0):=⟨_,rfl,by split;exact .inl rfl;exact .inr rfl⟩
 have pw:oR (.int 10) (.int 18)=aj (.im (.int 1000000000000000000)):=rfl;have m0:0<=c%2147483629:=Nm _ (by lia);have m1:c%2147483629<2147483629:=Mr _ (by lia)
 refine⟨a*j,c%2147483629+7919*k+11,jj [aj (.sc ns),aj (.im (.int k)),ao] rfl rfl ?_ rfl rfl,Int.mul_nonneg a0 (by lia),by lia,by lia⟩
 simp_arith[Sy,↓hc,Gr,hA,pw,vp,hj,mul_eq (i:=a) (j:=j) (.inr (by lia)),mod_eq (i:=c) (j:=2147483629) (by lia),mul_eq (i:=7919) (j:=k) (.inl (by lia))]
theorem tR{α:Type}{T:gR}{fe:FE}{fs:En}{C:Ce}(D:α->aA){l:List α}(h:∀a∈l,∃ts e,sO T (D a)=aj ts/\fe (cO ts++fs) C=aj (.im (.bool au),e,C)):dU T cM fe fs (l.map D) C=aj (cA l.length (.bool au),C):=by
 have:=nD (T:=T) (ft:=cM) (fe:=fe) (fs:=fs) (C:=C) D (λ_=>au) (λ_=>.bool au) (l:=l) λa m=>by
  obtain⟨ts,e,h1,h2⟩:=h a m
  exact⟨ts,h1,rfl,λ_=>⟨_,e,h2,rfl⟩⟩
 rw[vW.mpr λ_ _=>rfl,List.map_const'] at this;exact this
theorem abN{C:Ce}(i:Int):Ai [.im (.int i)] C=aj (.im (.bool au),C):=by
 refine jj [aj (.im (.int i))] rfl rfl ?_ rfl rfl;simp_arith[O1,gf,yV,jz,pX]
theorem Av{C:Ce}{i:Int}(h:0<=i):qi [.im (.int i)] C=aj (.im (.bool au),C):=by
 have n:=abN (C:=C) i;have d:decide (i>=0)=au:=dZ h;refine jj [aj (.im (.int i))] rfl rfl ?_ rfl rfl;simp_arith[M4,gf,n,d]
theorem Y7{C:Ce}{i:Int}(h:1<=i/\i<=9):Aq [.im (.int i)] C=aj (.im (.bool au),C):=by
 have n:=abN (C:=C) i;have c:=Ky j7 j7 (aH (aM (.int 1))) (aO 0) (aH (aM (.int 9))) (env:=[aj (.im (.int i))]) (C:=C) rfl rfl rfl rfl rfl;rw[dZ h.1,dZ h.2] at c;refine jj [aj (.im (.int i))] rfl rfl ?_ rfl rfl;simp_arith[Qq,gf,n,c]
theorem aaV{C:Ce}{i j:Int}(h:0<=i)(hj:i<=j):Al [.im (.int i),.im (.int j)] C=aj (.im (.bool au),C):=by
 have n:=Av (C:=C) h;have m:=Av (C:=C) (i:=j) (by lia);have d:decide (i<=j)=au:=dZ hj;refine jj [aj (.im (.int i)),aj (.im (.int j))] rfl rfl ?_ rfl rfl;simp_arith[Px,gf,n,m,d]
theorem Z3{C:Ce}(ds:List aA)(h:ds.length<=1000):ym [.im (.tuple ds),.im (.int ds.length)] C=aj (.im (.bool au),C):=by
 have g:(ds.length<=1000000)=True:=eq_true (by lia);refine jj [aj (.im (.tuple ds)),aj (.im (.int ds.length))] rfl rfl ?_ rfl rfl;simp_arith[N7,gf,jz,pX,g]
theorem Ez{α:Type}{C:Ce}{n most:Int}(D:α->aA)(l:List α)(hl:(l.length:Int)<=most)(hm:most<=1000)(h:∀a∈l,∃ds,D a=.tuple ds/\(ds.length:Int)=n/\ds.length<=1000):
  qj [.im (.tuple (l.map D)),.im (.int n),.im (.int most)] C=aj (.im (.bool au),C):=by
 have t:=tR (T:=.one) (fe:=VJ) (fs:=[aj (.im (.int n))]) (C:=C) D (l:=l) λa m=>by
  obtain⟨ds,e,e2,h3⟩:=h a m
  have:=Z3 (C:=C) ds h3;rw[e2] at this;rw[e]
  exact⟨[.tuple ds],_,rfl,by simp_arith[cO,jt,iJ,this];rfl⟩
 have b:=uW l.length;have g:(l.length<=1000000)=True:=eq_true (by lia);have d:decide ((l.length:Int)>most)=aD:=iU (by lia);refine jj [aj (.im (.tuple (l.map D))),aj (.im (.int n)),aj (.im (.int most))] rfl rfl ?_ rfl rfl;simp_arith[Nj,jz,pX,g,d,t,b.1,b.2,qX]
theorem aia(z:Str):(chars z).length=z.length:=by
 unfold chars;rw[bC,kZ];rfl
theorem Jm{C:Ce}{z:Str}(h:nameB z=au):uX [.im (.str z)] C=aj (.im (.bool au),C):=by
 unfold nameB at h;simp only[jl,decide_eq_true_eq] at h
 obtain⟨⟨h1,h8⟩,ha⟩:=h
 have hlen:mq [.str z]=aj (.im (.int z.length)):=by
  have e:CZ (.str z)=aj z.length:=aZ (by show z.length<=1000000;lia);simp only[mq,e];rfl
 have c0:=Ky j7 j7 (aH (aM (.int 1))) (aH (eV mq (dO (aO 0) eU))) (aH (aM (.int 8))) (env:=[aj (.im (.str z))]) (C:=C) (y:=.int z.length) (a:=au) (b:=au) rfl (by simp_arith[hlen];rfl) (by show aj (Vl.im (.bool (decide ((1:Int)<=z.length))))=_;rw[dZ (by lia)]) rfl (by show aj (Vl.im (.bool (decide ((z.length:Int)<=8))))=_;rw[dZ (by lia)]);have t:dU .one cM Oo [] (chars z) C=aj (cA z.length (.bool au),C):=by
  have:=tR (T:=.one) (fe:=Oo) (fs:=[]) (C:=C) (λc:Nat=>gM ⟨#[c]⟩) (l:=z.cps.toList) λc m=>by
   have hc:=jK.mp ha c m;simp only[jl,decide_eq_true_eq] at hc;have q1:strLt ⟨#[c]⟩ (bZ "a")=aD:=by
    unfold strLt;refine iU ?_;rw[show(bZ "a").cps.toList=[97] by decide +kernel];intro h;rcases ad3.mp (show[c]<[97] from h) with h|⟨_,h⟩
    .lia
    .exact absurd h (W3 _)
   have q2:strLt (bZ "z") ⟨#[c]⟩=aD:=by
    unfold strLt;refine iU ?_;rw[show(bZ "z").cps.toList=[122] by decide +kernel];intro h;rcases ad3.mp (show[122]<[c] from h) with h|⟨_,h⟩
    .lia
    .exact absurd h (W3 _)
   refine⟨[.str ⟨#[c]⟩],[aj (.im (.str ⟨#[c]⟩))],rfl,?_⟩
   exact Ky j7 j7 (aH (aM (.str (bZ "a")))) (aO 0) (aH (aM (.str (bZ "z")))) (a:=au) (b:=au) rfl rfl (by show aj (Vl.im (.bool (!strLt ⟨#[c]⟩ (bZ "a"))))=_;rw[q1];rfl) rfl (by show aj (Vl.im (.bool (!strLt (bZ "z") ⟨#[c]⟩)))=_;rw[q2];rfl)
  rw[show z.length=z.cps.toList.length by rw[kZ];rfl];exact this
 have b:=uW z.length;have g:(z.length<=1000000)=True:=eq_true (by lia);refine jj [aj (.im (.str z))] rfl rfl ?_ rfl rfl;simp_arith[Qp,jz,pX,↓c0,t,b.1,b.2,g,qX,aia]
theorem anM(ds:List aA):Dc ds (aj 1) ao=ds.drop 1:=by
 unfold Dc;rw[show HT.cg ds.length 0 (aj 1)=min 1 ds.length from HT.ajD _ _ 1,show HT.cg ds.length ds.length ao=ds.length from rfl,Vt (by rw[Wc];exact bT _)];cases ds with
 |nil=>rfl
 |cons y ys=>rw[Nat.min_eq_left (by rw[dD];lia)]
theorem Z4{C:Ce}:∀(ds:List aA),ds.Pairwise (λa b=>vK a b=aj (.im (.bool au)))->dU (.many 2) cM HQ [] (jX ds (ds.drop 1)) C=aj (cA (ds.length-1) (.bool au),C)
 |[],_=>rfl
 |[_],_=>rfl
 |a::b::r,h=>by
  have ih:=Z4 (C:=C) (b::r) (qY.mp h).2;have hab:=(qY.mp h).1 b dj;show dU (.many 2) cM HQ [] (jX (a::b::r) (b::r)) C=_;rw[jX];have ih:dU (.many 2) cM HQ [] (jX (b::r) r) C=aj (cA r.length (.bool au),C):=ih;unfold dU;show _=aj (cA (r.length+1) (PyData.bool au),C);rw[sX];simp_arith[sO,cM,cO,lq,hab,ih]
theorem Jo{C:Ce}(ds:List aA)(hl:ds.length<=1000)(h:ds.Pairwise (λa b=>vK a b=aj (.im (.bool au)))):tM [.im (.list ds)] C=aj (.im (.bool au),C):=by
 have t:=Z4 (C:=C) ds h;have b:=uW (ds.length-1);have g:(ds.length-1<=1000000)=True:=eq_true (by lia);refine jj [aj (.im (.list ds))] rfl rfl ?_ rfl rfl;simp_arith[O2,Dd,oF,oE,oX,xR,anM,aaQ,t,b.1,b.2,g,qX]
inductive Ends(f:Str->Option Str):Str->Nat->Prop
 |last {z:Str}:f z=aj (bZ "")->Ends f z 1
 |step {z y:Str} {n:Nat}:f z=aj y->y≠bZ ""->Ends f y n->Ends f z (n+1)
theorem aib{C:Ce}{q:List (Str×Str)}{z:Str}{n:Nat}(h:Ends (fY q) z n):∀(its:List aA)(v:Option Vl),n<=its.length->∃env',lG (dz 2) VB its [aj (.im (.dict (eE (fL q)))),aj (.im (.str z)),v] C=aj (.rt (.im (.bool au)),env',C):=by
 have ix:∀{z y:Str},fY q z=aj y->dW (.dict (eE (fL q))) (.str z)=aj (.im (.str y)):=λ{z y} h=>by
  unfold dW vP;simp only[Q7,h,lR]
 induction h with
 |last h=>
  intro its v hl;cases its with
  |nil=>exact absurd hl (by simp)
  |cons d r=>
   have i:=ix h
   refine⟨[aj (.im (.dict (eE (fL q)))),aj (.im (.str (bZ ""))),aj (.im d)],?_⟩
   unfold lG;simp_arith[i,rF,decide_true]
 |step h ne _ ih=>
  intro its v hl;cases its with
  |nil=>exact absurd hl (by simp)
  |cons d r=>
   have i:=ix h
   obtain⟨env',e⟩:=ih r (aj (.im d)) (by rw[dD] at hl;lia)
   refine⟨env',?_⟩
   have d1:=iU ne;unfold lG;simp_arith[i,rF,d1,e]
theorem akH{C:Ce}{q:List (Str×Str)}{z:Str}{n:Nat}(h:Ends (fY q) z n)(hn:n<=q.length)(h8:q.length<=8):HB [.im (.dict (eE (fL q))),.im (.str z)] C=aj (.im (.bool au),C):=by
 have ln:(eE (fL q)).length=q.length:=by unfold eE fL;rw[bC,bC]
 have hlen:mq [.dict (eE (fL q))]=aj (.im (.int q.length)):=by
  have e:CZ (.dict (eE (fL q)))=aj q.length:=by
   show(if(dR gK (eE (fL q))).isSome=au then aj (eE (fL q)).length else ao)=_
   rw[aZ (by rw[Q5];rfl),ln]
  simp only[mq,e];rfl
 obtain⟨env',e⟩:=aib (C:=C) h (pW 0 q.length) ao (by rw[Q0];exact hn)
 have g:(-(2^62)<=(q.length:Int)/\(q.length:Int)<2^62)=True:=eq_true ⟨by lia,by lia⟩;refine jj [aj (.im (.dict (eE (fL q)))),aj (.im (.str z)),ao] rfl rfl ?_ rfl rfl;simp_arith[Mx,nY,uC,hlen,g,zR,e]
structure Z5(l:List (Str×Str)):Prop where
 few:l.length<=8
 name:∀x∈l,nameB x.1=au
 up:(l.map (·.1)).Pairwise λa b=>strLt a b=au
 within:∀x∈l,x.2=bZ ""\/x.2∈l.map (·.1)
 ends:∀x∈l,∃n,n<=l.length/\Ends (fY l) x.1 n
theorem ajm{a b:Str}(h:strLt a b=au):a≠b:=λe=>by
 subst e;exact absurd (of_decide_eq_true h) (W3 _)
theorem XJ{C:Ce}(l:List (Str×Str)):dU (.many 2) cM Nv [] (l.map eN) C=aj ((l.map (·.1)).map .str,C):=by
 have:=nD (T:=.many 2) (ft:=cM) (fe:=Nv) (fs:=[]) (C:=C) eN (λ_=>au) (λx=>.str x.1) (l:=l) λx _=>⟨[.str x.1,.str x.2],rfl,rfl,λ_=>⟨.im (.str x.1),_,rfl,rfl⟩⟩
 rw[vW.mpr λ_ _=>rfl] at this;rw[iK];exact this
theorem agJ{C:Ce}{l:List (Str×Str)}(h:Z5 l):IK [.im (.tuple (l.map eN))] C=aj (.im (.bool au),C):=by
 have h8:=h.few;have a1:=Ez (C:=C) (n:=2) (most:=8) eN l (by lia) (by lia) λx _=>⟨[.str x.1,.str x.2],rfl,rfl,by show 2<=1000;decide⟩
 have t1:=XJ (C:=C) l;have t2:dU .one cM Nu [] ((l.map (·.1)).map .str) C=aj (cA l.length (.bool au),C):=by
  have:=tR (T:=.one) (fe:=Nu) (fs:=[]) (C:=C) gM (l:=l.map (·.1)) λz m=>by
   obtain⟨x,hx,rfl⟩:=ji.mp m
   have:=Jm (C:=C) (h.name x hx)
   exact⟨[.str x.1],_,rfl,by simp_arith[cO,lq,this];rfl⟩
  rw[bC] at this;exact this
 have t3:=Jo (C:=C) ((l.map (·.1)).map .str) (by rw[bC,bC];lia) (by
  rw[xW];exact h.up.imp λ{a b} hab=>by show aj (Vl.im (.bool (strLt a b)))=_;rw[hab])
 have t4:dU (.many 2) cM WW [aj (.im (.list ((l.map (·.1)).map .str)))] (l.map eN) C=aj (cA l.length (.bool au),C):=
  tR eN λx hx=>by
   refine⟨[.str x.1,.str x.2],[aj (.im (.str x.1)),aj (.im (.str x.2)),aj (.im (.list ((l.map (·.1)).map .str)))],rfl,?_⟩
   have i:=RN x.2 (l.map (·.1));by_cases e:x.2=bZ ""
   .have d1:=dZ e;simp_arith[cO,jt,iJ,xx,rF,d1]
   .have d1:=iU e;have d2:=dZ ((h.within x hx).resolve_left e);rw[d2] at i;simp_arith[cO,jt,iJ,xx,rF,d1,↓i]
 have nd:(l.map (·.1)).Nodup:=h.up.imp λhab=>ajm hab
 have t5:vz (.many 2) cM WR WT [] (l.map eN) [] C=aj (eE (fL l),C):=by
  have:=Rb (C:=C) l [] nd h8;rw[show eE (fL [])=[] from rfl,iJ] at this;exact this
 have t6:dU .one cM Nt [aj (.im (.dict (eE (fL l))))] ((l.map (·.1)).map .str) C=aj (cA l.length (.bool au),C):=by
  have:=tR (T:=.one) (fe:=Nt) (fs:=[aj (.im (.dict (eE (fL l))))]) (C:=C) gM (l:=l.map (·.1)) λz m=>by
   obtain⟨x,hx,rfl⟩:=ji.mp m
   obtain⟨n,hn,he⟩:=h.ends x hx
   have:=akH (C:=C) he hn h8
   exact⟨[.str x.1],_,rfl,by simp_arith[cO,jt,iJ,this];rfl⟩
  rw[bC] at this;exact this
 have b:=uW l.length;have g:(l.length<=1000000)=True:=eq_true (by lia);refine jj [aj (.im (.tuple (l.map eN))),ao,ao] rfl rfl ?_ rfl rfl;simp_arith[O3,a1,t1,t2,t3,t4,t5,t6,b.1,b.2,g,qX,xT,Q6]
theorem wV{α:Type}{D:α->aA}(h:∀a,jP (D a)=au):∀l:List α,iW (l.map D)=au
 |[]=>rfl
 |a::l=>by
  show(jP (D a)&&iW (l.map D))=au
  rw[h a,wV h l];rfl
theorem J5{z:Str}{own:List Str}(h:z∈own):pU (.str z) (.list (own.map .str))=aj (.im (.bool au)):=by
 rw[RN,dZ h]
theorem agK{z:Str}{own:List Str}(h:z∈own):wN (.str z) (.list (own.map .str))=aj (.im (.bool aD)):=by
 have i:=J5 h;unfold pU at i;unfold wN;cases hb:inB (.str z) (.list (own.map .str)) with
 |none=>rw[hb] at i;cases i
 |some b=>
  rw[hb] at i;cases b with
  |true=>rfl
  |false=>cases i
theorem agL{C:Ce}{zs own:List Str}{r:kJ}(hz:∀z∈zs,nameB z=au)(h:BV zs own r):Ie [.im (dI r),.im (.list (own.map .str))] C=aj (.im (.bool au),C):=by
 have a:=Av (C:=C) h.num.1;have b:=Jm (C:=C) (hz _ h.who);have c:=Y7 (C:=C) h.rank;have d:=J5 h.part;have e:=aaV (C:=C) h.days.1 h.days.2.1;refine jj [aj (.im (dI r)),aj (.im (.list (own.map .str))),ao,ao,ao,ao,ao,ao] rfl rfl ?_ rfl rfl;simp_arith[N8,dI,a,b,c,↓d,e,gf]
theorem agl{C:Ce}{zs own:List Str}{r:yO}(hz:∀z∈zs,nameB z=au)(h:RG zs own r):HR [.im (jO r),.im (.list (own.map .str))] C=aj (.im (.bool au),C):=by
 have a:=Av (C:=C) h.num.1;have a2:=Av (C:=C) h.most.1;have b:=Jm (C:=C) (hz _ h.giver);have b2:=Jm (C:=C) (hz _ h.taker);have c:=rF r.2.1 r.2.2.1;rw[iU h.ne] at c;have d:=J5 h.part;have e:=aaV (C:=C) h.days.1 h.days.2.1;refine jj [aj (.im (jO r)),aj (.im (.list (own.map .str))),ao,ao,ao,ao,ao,ao,ao] rfl rfl ?_ rfl rfl;simp_arith[Nx,jO,a,a2,b,b2,↓c,↓d,e,gf]
theorem agM{C:Ce}{own:List Str}{r:dY}(h:BW own r):Ig [.im (cP r),.im (.list (own.map .str))] C=aj (.im (.bool au),C):=by
 have hm:=h.many;have a:=agK h.part;have b:=Av (C:=C) h.sum.1;have c:=Ez (C:=C) (n:=2) (most:=6) j5 r.2.2 (by lia) (by lia) λs _=>⟨[.int s.1,.str s.2],rfl,rfl,by show 2<=1000;decide⟩
 have t:dU (.many 2) cM We [aj (.im (.list (own.map .str)))] (r.2.2.map j5) C=aj (cA r.2.2.length (.bool au),C):=
  tR j5 λs hs=>by
   obtain⟨s1,s9,hw⟩:=h.seats s hs
   have k:=Y7 (C:=C) ⟨s1,s9⟩
   refine⟨[.int s.1,.str s.2],[aj (.im (.int s.1)),aj (.im (.str s.2)),aj (.im (.list (own.map .str)))],rfl,?_⟩
   by_cases e:s.2=bZ ""
   .have d1:=dZ e;simp_arith[cO,jt,iJ,gf,xx,k,rF,d1]
   .have d1:=iU e;have i:=J5 (hw.resolve_left e);simp_arith[cO,jt,iJ,gf,xx,k,rF,d1,↓i]
 have bt:=uW r.2.2.length;have g:(r.2.2.length<=1000000)=True:=eq_true (by lia);refine jj [aj (.im (cP r)),aj (.im (.list (own.map .str))),ao,ao,ao] rfl rfl ?_ rfl rfl;simp_arith[Oa,cP,bQ,↓a,b,c,t,bt.1,bt.2,g,qX]
def gr(r:dY):List Key:=[.inr r.1,.inl r.2.1]
structure Z6(zs:List Str)(ht:jF):Prop where
 names:∀z∈zs,nameB z=au
 parts:Z5 ht.ps
 r20:ht.ranks.length<=20
 ranks:∀r∈ht.ranks,BV zs (ht.ps.map (·.1)) r
 Ve:(ht.ranks.map (·.1)).Pairwise (·<·)
 Vd:ht.leaves.length<=16
 leaves:∀r∈ht.leaves,RG zs (ht.ps.map (·.1)) r
 lup:(ht.leaves.map (·.1)).Pairwise (·<·)
 xU:ht.rules.length<=10
 rules:∀r∈ht.rules,BW (ht.ps.map (·.1)) r
 uup:(ht.rules.map gr).Pairwise λa b=>dg a b=au
theorem aaW{ns:List Int}(h:ns.Pairwise (·<·)):(ns.map uV).Pairwise (λa b=>vK a b=aj (.im (.bool au))):=by
 rw[xW];exact h.imp λ{a b} hab=>by show aj (Vl.im (.bool (decide (a<b))))=_;rw[dZ hab]
section
variable{C:Ce}{zs:List Str}{ht:jF}(h:Z6 zs ht)
include h
theorem agN:IV [.im (.tuple (ht.ranks.map dI)),.im (.list ((ht.ps.map (·.1)).map .str))] C=aj (.im (.bool au),C):=by
 have hl:=h.r20;have a:=Ez (C:=C) (n:=6) (most:=20) dI ht.ranks (by lia) (by lia) λr _=>⟨[.int r.1,.str r.2.1,.int r.2.2.1,.str r.2.2.2.1,.int r.2.2.2.2.1,.int r.2.2.2.2.2],rfl,rfl,by show 6<=1000;decide⟩
 have t:dU .one cM WY [aj (.im (.list ((ht.ps.map (·.1)).map .str)))] (ht.ranks.map dI) C=aj (cA ht.ranks.length (.bool au),C):=
  tR dI λr hr=>by
   have k:=agL (C:=C) h.names (h.ranks r hr)
   exact⟨[dI r],[aj (.im (dI r)),aj (.im (.list ((ht.ps.map (·.1)).map .str)))],rfl,by simp_arith[cO,jt,iJ,k]⟩
 have u:=nD (T:=.one) (ft:=cM) (fe:=WX) (fs:=[]) (C:=C) dI (λ_=>au) (λr=>.int r.1) (l:=ht.ranks) λr _=>⟨[dI r],rfl,rfl,λ_=>⟨.im (.int r.1),[aj (.im (dI r))],by simp_arith[cO,lq,dI],rfl⟩⟩
 rw[vW.mpr λ_ _=>rfl] at u;have ri:=Jo (C:=C) (ht.ranks.map λr=>.int r.1) (by rw[bC];lia) (by have:=aaW h.Ve;rw[iK] at this;exact this);have b:=uW ht.ranks.length;have g:(ht.ranks.length<=1000000)=True:=eq_true (by lia);have n:=wV (D:=λr:kJ=>uV r.1) (λ_=>rfl) ht.ranks;refine jj [aj (.im (.tuple (ht.ranks.map dI))),aj (.im (.list ((ht.ps.map (·.1)).map .str)))] rfl rfl ?_ rfl rfl;simp_arith[O4,a,t,u,ri,b.1,b.2,g,n,qX,gf]
theorem agm:Ik [.im (.tuple (ht.leaves.map jO)),.im (.list ((ht.ps.map (·.1)).map .str))] C=aj (.im (.bool au),C):=by
 have hl:=h.Vd;have a:=Ez (C:=C) (n:=7) (most:=16) jO ht.leaves (by lia) (by lia) λr _=>⟨[.int r.1,.str r.2.1,.str r.2.2.1,.str r.2.2.2.1,.int r.2.2.2.2.1,.int r.2.2.2.2.2.1,.int r.2.2.2.2.2.2],rfl,rfl,by show 7<=1000;decide⟩
 have t:dU .one cM Ws [aj (.im (.list ((ht.ps.map (·.1)).map .str)))] (ht.leaves.map jO) C=aj (cA ht.leaves.length (.bool au),C):=
  tR jO λr hr=>by
   have k:=agl (C:=C) h.names (h.leaves r hr)
   exact⟨[jO r],[aj (.im (jO r)),aj (.im (.list ((ht.ps.map (·.1)).map .str)))],rfl,by simp_arith[cO,jt,iJ,k]⟩
 have u:=nD (T:=.one) (ft:=cM) (fe:=Wr) (fs:=[]) (C:=C) jO (λ_=>au) (λr=>.int r.1) (l:=ht.leaves) λr _=>⟨[jO r],rfl,rfl,λ_=>⟨.im (.int r.1),[aj (.im (jO r))],by simp_arith[cO,lq,jO],rfl⟩⟩
 rw[vW.mpr λ_ _=>rfl] at u;have ri:=Jo (C:=C) (ht.leaves.map λr=>.int r.1) (by rw[bC];lia) (by have:=aaW h.lup;rw[iK] at this;exact this);have b:=uW ht.leaves.length;have g:(ht.leaves.length<=1000000)=True:=eq_true (by lia);have n:=wV (D:=λr:yO=>uV r.1) (λ_=>rfl) ht.leaves;refine jj [aj (.im (.tuple (ht.leaves.map jO))),aj (.im (.list ((ht.ps.map (·.1)).map .str)))] rfl rfl ?_ rfl rfl;simp_arith[Oq,a,t,u,ri,b.1,b.2,g,n,qX,gf]
theorem agO:IW [.im (.tuple (ht.rules.map cP)),.im (.list ((ht.ps.map (·.1)).map .str))] C=aj (.im (.bool au),C):=by
 have hl:=h.xU;have a:=Ez (C:=C) (n:=3) (most:=10) cP ht.rules (by lia) (by lia) λr _=>⟨[.str r.1,.int r.2.1,bQ r.2.2],rfl,rfl,by show 3<=1000;decide⟩
 have t:dU .one cM W2 [aj (.im (.list ((ht.ps.map (·.1)).map .str)))] (ht.rules.map cP) C=aj (cA ht.rules.length (.bool au),C):=
  tR cP λr hr=>by
   have k:=agM (C:=C) (h.rules r hr)
   exact⟨[cP r],[aj (.im (cP r)),aj (.im (.list ((ht.ps.map (·.1)).map .str)))],rfl,by simp_arith[cO,jt,iJ,k]⟩
 have u:=nD (T:=.many 3) (ft:=cM) (fe:=W0) (fs:=[]) (C:=C) cP (λ_=>au) (λr=>.tuple [.str r.1,.int r.2.1]) (l:=ht.rules) λr _=>⟨[.str r.1,.int r.2.1,bQ r.2.2],rfl,rfl,λ_=>⟨.im (.tuple [.str r.1,.int r.2.1]),[aj (.im (.str r.1)),aj (.im (.int r.2.1)),aj (.im (bQ r.2.2))],by simp_arith[cO,lq],rfl⟩⟩
 rw[vW.mpr λ_ _=>rfl] at u;have ri:=Jo (C:=C) (ht.rules.map λr=>.tuple [.str r.1,.int r.2.1]) (by rw[bC];lia) (by
  rw[xW];have:=h.uup;rw[xW] at this;exact this.imp λ{p q} hpq=>by
   show(if([tV p.1,.inl p.2.1]:List Key).map bH=[tV q.1,.inl q.2.1].map bH then aj (dg [.inr p.1,.inl p.2.1] [.inr q.1,.inl q.2.1]) else ao).map (λb=>Vl.im (.bool b))=_
   rw[aZ (show([tV p.1,.inl p.2.1]:List Key).map bH=[tV q.1,.inl q.2.1].map bH from rfl)];unfold gr at hpq;rw[hpq];rfl)
 have b:=uW ht.rules.length;have g:(ht.rules.length<=1000000)=True:=eq_true (by lia);have n:=wV (D:=λr:dY=>Ed [.str r.1,.int r.2.1]) (λ_=>rfl) ht.rules;refine jj [aj (.im (.tuple (ht.rules.map cP))),aj (.im (.list ((ht.ps.map (·.1)).map .str)))] rfl rfl ?_ rfl rfl;simp_arith[O5,a,t,u,ri,b.1,b.2,g,n,qX]
theorem ahp:Et [.im (di ht)] C=aj (.im (.bool au),C):=by
 have a:ym [.im (di ht),.im (.int 4)] C=aj (.im (.bool au),C):=Z3 (C:=C) [.tuple (ht.ps.map eN),.tuple (ht.ranks.map dI),.tuple (ht.leaves.map jO),.tuple (ht.rules.map cP)] (by show 4<=1000;decide);have p:=agJ (C:=C) h.parts;have t:dU (.many 2) cM Xe [] (ht.ps.map eN) C=aj ((ht.ps.map (·.1)).map .str,C):=XJ ht.ps;have r:=agN (C:=C) h;have l:=agm (C:=C) h;have u:=agO (C:=C) h;unfold di at a⊢;refine jj [aj (.im (.tuple [.tuple (ht.ps.map eN),.tuple (ht.ranks.map dI),.tuple (ht.leaves.map jO),.tuple (ht.rules.map cP)])),ao,ao,ao,ao,ao] rfl rfl ?_ rfl rfl;have g8:=h.parts.few;have g:(ht.ps.length<=1000000)=True:=eq_true (by lia);simp_arith[Py,a,p,t,r,l,u,g,gf]
end
def gO(ru:List dY):List Str->List dY
 |[]=>[]
 |z::os=>if ru.filter (λr=>decide (r.1=z))=[] then gO ru os else ru.filter λr=>decide (r.1=z)
def j8:List dY->Option dY
 |[]=>ao
 |r::l=>match j8 l with
  |none=>aj r
  |some y=>if r.2.1<y.2.1 then aj y else aj r
def mV(ru:List dY)(os:List Str)(z:Str)(eZ:Int):List rT:=match j8 ((gO ru os).filter λr=>decide (r.2.1<=eZ)) with
 |none=>[]
 |some r=>r.2.2.map λs=>(s.1,if s.2=bZ "" then z else s.2)
def jY(r:dY):aA:=.tuple [.int r.2.1,bQ r.2.2]
theorem Jp(ru:List dY):∀os,∃z,gO ru os=[]\/gO ru os=ru.filter λr=>decide (r.1=z)
 |[]=>⟨bZ "",.inl rfl⟩
 |z::os=>by
  rw[gO];split
  .exact Jp ru os
  .exact⟨z,.inr rfl⟩
theorem aic(ru:List dY)(os:List Str):(gO ru os).length<=ru.length:=by
 obtain⟨z,h|h⟩:=Jp ru os
 .rw[h];exact lz _
 .rw[h];exact zP _ _
theorem Xp{ru:List dY}(h:(ru.map λr=>(r.1,r.2.1)).Nodup)(os:List Str):((gO ru os).map (·.2.1)).Nodup:=by
 obtain⟨z,e|e⟩:=Jp ru os
 .rw[e];exact oK
 .rw[e];have h2:((ru.filter λr=>decide (r.1=z)).map λr=>(r.1,r.2.1)).Nodup:=h.sublist (List.filter_sublist.map _);have e2:(ru.filter λr=>decide (r.1=z)).map (λr=>(r.1,r.2.1))=((ru.filter λr=>decide (r.1=z)).map (·.2.1)).map λb=>(z,b):=by
   rw[iK];refine uK λr hr=>?_
   have:=of_decide_eq_true (xX.mp hr).2
   show(r.1,r.2.1)=(z,r.2.1)
   rw[this]
  rw[e2] at h2;exact apt (λb=>(z,b)) (λa b hne e=>hne (by rw[e])) h2
theorem ajn{C:Ce}(ru:List dY)(z:Str):dU (.many 3) WM WN [aj (.im (.str z))] (ru.map cP) C=aj ((ru.filter λr=>decide (r.1=z)).map jY,C):=
 nD cP (λr=>decide (r.1=z)) jY λr _=>⟨[.str r.1,.int r.2.1,bQ r.2.2],rfl,by simp_arith[cO,jt,iJ,rF],λ_=>⟨.im (jY r),[aj (.im (.str r.1)),aj (.im (.int r.2.1)),aj (.im (bQ r.2.2)),aj (.im (.str z))],by simp_arith[cO,jt,iJ,jY],rfl⟩⟩
theorem abO(r:dY):jP (jY r)=au:=by
 show(au&&(iW (r.2.2.map j5)&&au))=au
 rw[Ao];rfl
theorem Yo{C:Ce}{ht:jF}(h10:ht.rules.length<=10)(v1:Option Vl):∀(os:List Str)(v2 v3:Option Vl),∃fl env',lG (dz 2) WQ (os.map .str) [aj (.im (di ht)),v1,v2,v3] C=aj (fl,env',C)/\
  ((gO ht.rules os=[]/\fl=.nx)\/(gO ht.rules os≠[]/\fl=.rt (.ow (.list ((gO ht.rules os).map jY)))))
 |[],v2,v3=>⟨_,_,rfl,.inl ⟨rfl,rfl⟩⟩
 |z::os,v2,v3=>by
  have t:=ajn (C:=C) ht.rules z;have fl:(ht.rules.filter λr=>decide (r.1=z)).length<=10:=ju (zP _ _) h10;have n:=wV (D:=jY) abO (ht.rules.filter λr=>decide (r.1=z));rw[gO,cV];generalize ht.rules.filter (λr=>decide (r.1=z))=f at t fl n;cases f with
  |nil=>
   rw[aZ rfl]
   obtain⟨fl,env',e,hh⟩:=Yo (C:=C) h10 v1 os (aj (.im (.str z))) (aj (.ow (.list [])))
   refine⟨fl,env',?_,hh⟩
   rw[pI] at t;unfold lG;simp_arith[t,iW,MT,e]
  |cons a r=>
   rw[aY (by simp)];have g:(r.length+1<=1000000)=True:=eq_true (by rw[dD] at fl;lia)
   refine⟨_,[aj (.im (di ht)),v1,aj (.im (.str z)),aj (.ow (.list ((a::r).map jY)))],?_,.inr ⟨by simp,rfl⟩⟩
   rw[cV] at t n⊢;unfold lG;simp_arith[t,n,V9,g]
theorem agP{C:Ce}{zs:List Str}{ps:List (Str×Str)}{ht:jF}(hN:Names zs)(hP:lX zs ps)(hG:u9 zs ps ht)(z:Str):
  Iz [.im (di ht),.im (.str z)] C=aj (.ow (.list ((gO ht.rules (up ps z)).map jY)),C):=by
 have p:=Oe (C:=C) hN hP hG z
 obtain⟨fl,env',e,hh⟩:=Yo (C:=C) hG.xU (aj (.im (.str z))) (up ps z) ao ao
 refine jj [aj (.im (di ht)),aj (.im (.str z)),ao,ao] rfl rfl ?_ rfl rfl;rcases hh with⟨h1,rfl⟩|⟨h1,rfl⟩
 .rw[h1,pI];simp_arith[Iw,nY,p,e]
 .simp_arith[Iw,nY,p,e]
theorem Z7:∀l:List dY,BX (l.map jY)=aj (l.map λr=>(r.2.1,[bQ r.2.2]))
 |[]=>rfl
 |r::l=>by
  show((L2.pairD (jY r)).bind λx=>(BX (l.map jY)).map λt=>x::t)=_
  rw[Z7 l];rfl
theorem abP:∀l:List dY,vA (l.map λr=>(r.2.1,[bQ r.2.2]))=(j8 l).map λr=>(r.2.1,[bQ r.2.2])
 |[]=>rfl
 |r::l=>by
  rw[cV,vA,abP l,j8];cases j8 l with
  |none=>rfl
  |some y=>
   simp only[lR];split<;>rfl
theorem Fg:∀(r:dY)(l:List dY),∃y,j8 (r::l)=aj y/\y∈r::l
 |r,[]=>⟨r,rfl,dj⟩
 |r,a::l=>by
  obtain⟨y,e,hy⟩:=Fg a l
  rw[j8,e];simp only;split
  .exact⟨y,rfl,dB _ hy⟩
  .exact⟨r,rfl,dj⟩
theorem ajo{C:Ce}{zs:List Str}{ps:List (Str×Str)}{ht:jF}(hN:Names zs)(hP:lX zs ps)(hG:u9 zs ps ht)(z:Str)(eZ:Int):
  pJ [.im (di ht),.im (.str z),.im (.int eZ)] C=aj (.im (bQ (mV ht.rules (up ps z) z eZ)),C):=by
 have p:=agP (C:=C) hN hP hG z;have t:dU (.many 2) Xc Xd [aj (.im (.int eZ))] ((gO ht.rules (up ps z)).map jY) C=aj (((gO ht.rules (up ps z)).filter λr=>decide (r.2.1<=eZ)).map jY,C):=
  nD jY (λr=>decide (r.2.1<=eZ)) jY λr _=>⟨[.int r.2.1,bQ r.2.2],rfl,by simp_arith[cO,jt,iJ],λ_=>⟨.im (jY r),[aj (.im (.int r.2.1)),aj (.im (bQ r.2.2)),aj (.im (.int eZ))],by simp_arith[cO,jt,iJ,jY],rfl⟩⟩
 have nd:(((gO ht.rules (up ps z)).filter λr=>decide (r.2.1<=eZ)).map (·.2.1)).Nodup:=(Xp hG.unlike (up ps z)).sublist (List.filter_sublist.map _);have hl:((gO ht.rules (up ps z)).filter λr=>decide (r.2.1<=eZ)).length<=10:=ju (zP _ _) (ju (aic _ _) hG.xU);have n:=wV (D:=jY) abO ((gO ht.rules (up ps z)).filter λr=>decide (r.2.1<=eZ));have hm:∀r∈(gO ht.rules (up ps z)).filter (λr=>decide (r.2.1<=eZ)),r.2.2.length<=6:=λr hr=>by
  have hr:=(xX.mp hr).1
  obtain⟨y,e|e⟩:=Jp ht.rules (up ps z)
  .rw[e] at hr;exact nomatch hr
  .rw[e] at hr;exact(hG.rules r (xX.mp hr).1).many
 unfold mV
 generalize(gO ht.rules (up ps z)).filter (λr=>decide (r.2.1<=eZ))=f at t nd hl n hm
 refine jj [aj (.im (di ht)),aj (.im (.str z)),aj (.im (.int eZ)),ao,ao,ao] rfl rfl ?_ rfl rfl;cases f with
 |nil=>
  rw[pI] at t;simp_arith[Je,p,t,iW,MT];rfl
 |cons a r=>
  obtain⟨y,e,hy⟩:=Fg a r
  have y6:=hm y hy;have mx:Km [.list (jY a::r.map jY)]=aj (.im (.tuple [.int y.2.1,bQ y.2.2])):=by
   show((BX ((a::r).map jY)).bind λl=>if(l.map (·.1)).Nodup then(vA l).map (λx=>Vl.im (.tuple (.int x.1::x.2))) else ao)=_
   rw[Z7]
   show(if(((a::r).map λr=>(r.2.1,[bQ r.2.2])).map (·.1)).Nodup then _ else ao)=_
   rw[aZ (by rw[iK];exact nd),abP,e];rfl
  have g:(r.length+1<=1000000)=True:=eq_true (by rw[dD] at hl;lia);have t2:dU (.many 2) cM N6 [aj (.im (.str z))] (y.2.2.map j5) C=aj ((y.2.2.map λs=>(s.1,if s.2=bZ "" then z else s.2)).map j5,C):=by
   have:=nD (T:=.many 2) (ft:=cM) (fe:=N6) (fs:=[aj (.im (.str z))]) (C:=C) j5 (λ_=>au) (λs=>j5 (s.1,if s.2=bZ "" then z else s.2)) (l:=y.2.2) λs _=>by
    refine⟨[.int s.1,.str s.2],rfl,rfl,λ_=>⟨.im (j5 (s.1,if s.2=bZ "" then z else s.2)),[aj (.im (.int s.1)),aj (.im (.str s.2)),aj (.im (.str z))],?_,rfl⟩⟩
    by_cases e:s.2=bZ ""
    .have d1:=dZ e;rw[aZ e];simp_arith[cO,jt,iJ,rF,d1,j5]
    .have d1:=iU e;rw[aY e];simp_arith[cO,jt,iJ,rF,d1,j5]
   rw[vW.mpr λ_ _=>rfl] at this;rw[iK];exact this
  have g2:(y.2.2.length<=1000000)=True:=eq_true (by lia);have n2:=wV (D:=j5) (λ_=>rfl) (y.2.2.map λs=>(s.1,if s.2=bZ "" then z else s.2));rw[e];rw[cV] at t n;have tp:tY [.list ((y.2.2.map λs=>(s.1,if s.2=bZ "" then z else s.2)).map j5)]=aj (.im (.tuple ((y.2.2.map λs=>(s.1,if s.2=bZ "" then z else s.2)).map j5))):=rfl;have rs:∀e f:En,rst (.im (.tuple [.int y.2.1,bQ y.2.2])) e f=e:=λe f=>by
   show(if(au&&(iW (y.2.2.map j5)&&au))=au then e else _)=e
   rw[Ao];rfl
  simp_arith[Je,p,t,n,V9,g,↓mx,rs,bQ,t2,g2,n2,tp]
def sy:Nat->aA->Bool
 |0,_=>aD
 |_+1,.int _=>au
 |_+1,.str _=>au
 |n+1,.list ds=>decide (ds.length<=1000)&&ds.all (sy n)
 |n+1,.tuple ds=>decide (ds.length<=1000)&&ds.all (sy n)
 |_+1,_=>aD
theorem Y8{C:Ce}{f:FN}:∀(ds:List aA),(∀d∈ds,f [.im d,.im d] C=aj (.im (.bool au),C))->dU (.many 2) cM (Yn f) [] (jX ds ds) C=aj (cA ds.length (.bool au),C)
 |[],_=>rfl
 |x::xs,h=>by
  have ih:=Y8 xs λd m=>h d (dB _ m)
  have h1:=h x dj;rw[jX];unfold dU;rw[dD,sX];simp_arith[sO,cM,cO,lq,h1,ih]
theorem yD{C:Ce}:∀(n:Nat)(d:aA),sy n d=au->mQ n [.im d,.im d] C=aj (.im (.bool au),C)
 |0,_,h=>by cases h
 |n+1,d,h=>by
  cases d<;>first|cases h|skip
  .rename_i i;have e:decide (i=i)=au:=dZ rfl;refine Kz (k:=2) (n:=2) (en:=[aj (.im (.int i)),aj (.im (.int i))]) (e1:=[aj (.im (.int i)),aj (.im (.int i))]) rfl rfl ?_ rfl rfl;simp_arith[Bq,jz,yX,pX,wX,isNone,gf,yV,e]
  .rename_i z;have e:decide (z=z)=au:=dZ rfl;refine Kz (k:=2) (n:=2) (en:=[aj (.im (.str z)),aj (.im (.str z))]) (e1:=[aj (.im (.str z)),aj (.im (.str z))]) rfl rfl ?_ rfl rfl;simp_arith[Bq,jz,yX,pX,wX,isNone,gf,yV,e]
  all_goals
   rename_i ds;unfold sy at h;rw[jl] at h;have h1:(ds.length<=1000000)=True:=eq_true (by have:=of_decide_eq_true h.1;lia);have t:=Y8 (C:=C) ds λd m=>yD n d (jK.mp h.2 d m)
   have b:=uW ds.length;have e:decide ((ds.length:Int)=ds.length)=au:=dZ rfl
  .refine Kz (k:=2) (n:=2) (en:=[aj (.im (.list ds)),aj (.im (.list ds))]) (e1:=[aj (.im (.list ds)),aj (.im (.list ds))]) rfl rfl ?_ rfl rfl;simp_arith[Bq,jz,yX,pX,wX,isNone,gf,Dd,aaQ,t,b.1,b.2,qX,h1,e]
  .refine Kz (k:=2) (n:=2) (en:=[aj (.im (.tuple ds)),aj (.im (.tuple ds))]) (e1:=[aj (.im (.tuple ds)),aj (.im (.tuple ds))]) rfl rfl ?_ rfl rfl;simp_arith[Bq,jz,yX,pX,wX,isNone,gf,Dd,akp (rfl:ds.length=ds.length),t,b.1,b.2,qX,h1,e]
def CG(rk:List kJ)(os:List Str)(rank day:Int):List Str:=(iD strLt (dedup (rk.map (·.2.1)))).filter λwho=>decide (rank<=nJ rk who os day)
theorem ajp(rk:List kJ)(os:List Str)(rank day:Int):(CG rk os rank day).length<=rk.length:=by
 refine ju (zP _ _) ?_;rw[(Ak _).length_eq];refine ju (Qg _) ?_;rw[bC];exact bT _
theorem Rc{rk:List kJ}{who:Str}{os:List Str}{day:Int}(h:∀r∈rk,eO who os day r=aD):nJ rk who os day=0:=by
 unfold nJ;rw[List.filter_eq_nil_iff.mpr λr hr=>by rw[h r hr];decide];rfl
section
variable{C:Ce}{zs:List Str}{ps:List (Str×Str)}{ht:jF}(hN:Names zs)(hP:lX zs ps)(hG:u9 zs ps ht)
include hN hP hG
theorem PB(rank:Int)(z:Str)(day:Int):uQ [.im (di ht),.im (.int rank),.im (.str z),.im (.int day)] C=aj (.ow (.list ((CG ht.ranks (up ps z) rank day).map .str)),C):=by
 have h20:=hG.r20;have t1:dU .one cM Nk [] (ht.ranks.map dI) C=aj ((ht.ranks.map (·.2.1)).map .str,C):=by
  have:=nD (T:=.one) (ft:=cM) (fe:=Nk) (fs:=[]) (C:=C) dI (λ_=>au) (λr=>.str r.2.1) (l:=ht.ranks) λr _=>⟨[dI r],rfl,rfl,λ_=>⟨.im (.str r.2.1),_,by simp_arith[cO,lq];rfl,rfl⟩⟩
  rw[vW.mpr λ_ _=>rfl] at this;rw[iK];exact this
 have t2:JF ((ht.ranks.map (·.2.1)).map .str)=aj ((iD strLt (dedup (ht.ranks.map (·.2.1)))).map .str):=by
  unfold JF;rw[aZ (by rw[bC,bC];lia),Pn]
 have t3:dU .one Wt Wu [aj (.im (di ht)),aj (.im (.str z)),aj (.im (.int day)),aj (.im (.int rank))] ((iD strLt (dedup (ht.ranks.map (·.2.1)))).map .str) C=aj ((CG ht.ranks (up ps z) rank day).map .str,C):=by
  refine nD gM (λwho=>decide (rank<=nJ ht.ranks who (up ps z) day)) gM λwho _=>⟨[.str who],rfl,?_,λ_=>⟨.im (.str who),_,rfl,rfl⟩⟩
  simp_arith[cO,jt,iJ,Eu hN hP hG who z day]
 have hl:=ajp ht.ranks (up ps z) rank day;have h2:((CG ht.ranks (up ps z) rank day).length<=1000000)=True:=eq_true (by lia);refine jj [aj (.im (di ht)),aj (.im (.int rank)),aj (.im (.str z)),aj (.im (.int day)),ao] rfl rfl ?_ rfl rfl;simp_arith[Ov,Hi,t1,t2,t3,h2]
end
theorem amO{a b:Str}(hne:a≠b)(h:strLt b a=aD):strLt a b=au:=by
 cases e:strLt a b with
 |true=>rfl
 |false=>
  have:=J8 (a:=.inr a) (b:=.inr b) rfl e h;exact absurd (Il this) hne
theorem afL(ps:List (Str×Str))(h8:ps.length<=8)(nd:(ps.map (·.1)).Nodup):∃ps':List (Str×Str),ps'.Perm ps/\(ps'.map (·.1)).Pairwise (λa b=>strLt a b=au)/\qy [.list (ps.map eN)]=aj (.ow (.list (ps'.map eN))):=by
 cases ps with
 |nil=>exact⟨[],uM _,zT,rfl⟩
 |cons r rs=>
  have hall:(((r::rs).map eN).all λp=>decide (sr p=aj [aD,aD]))=au:=by
   rw[jK];intro p hp
   obtain⟨q,_,rfl⟩:=ji.mp hp
   exact dZ rfl
  have hs:yZ ((r::rs).map eN)=aj (qQ ((r::rs).map eN)):=by
   unfold yZ;rw[aZ (by rw[bC];lia),show intsOf ((r::rs).map eN)=ao from rfl,show strsOf ((r::rs).map eN)=ao from rfl]
   show(if(((r::rs).map eN).all λp=>decide (sr p=aj [aD,aD]))=au then aj (qQ ((r::rs).map eN)) else ao)=_
   exact aZ hall
  obtain⟨ps',p1,p2⟩:=af3 (ahY (ds:=(r::rs).map eN) λd hd=>by obtain⟨p,_,rfl⟩:=ji.mp hd;rfl)
  have Ho:(ps'.map (·.1)).Nodup:=(p1.map (·.1)).nodup_iff.mpr nd;have ek:ps'.map (λx=>([.inr x.1,.inr x.2]:List Key))=mF (((r::rs).map eN).map vq):=by
   have e1:(ps'.map eN).map vq=ps'.map (λx=>([.inr x.1,.inr x.2]:List Key)):=by
    rw[iK];exact uK λx _=>rfl
   have e2:(qQ ((r::rs).map eN)).map vq=mF (((r::rs).map eN).map vq):=by
    unfold qQ;rw[iK]
    refine(uK λk _=>?_).trans (Ip _)
    show(keysOf (k.map lN)).getD []=k
    rw[JD];rfl
   rw[<-e1,<-p2,e2]
  have up:=aaU (ks:=((r::rs).map eN).map vq) (sh:=[aD,aD]) λk hk=>by
   obtain⟨d,hd,rfl⟩:=ji.mp hk
   obtain⟨x,_,rfl⟩:=ji.mp hd
   rfl
  rw[<-ek,xW] at up
  refine⟨ps',p1,?_,?_⟩
  .rw[xW];have Di:ps'.Pairwise λa b=>a.1≠b.1:=xW.mp Ho
   refine(up.and Di).imp λ{x y} hxy=>amO hxy.2 ?_
   have:=hxy.1;unfold dg at this;rw[aY (λz=>hxy.2 (Il z).symm)] at this;exact this
  .unfold qy Fe;simp only[hs,p2,lR]
theorem Yp:∀ru:List dY,zp (ru.map cP)=aj (ru.map gr)
 |[]=>rfl
 |r::ru=>by
  show((Ud (cP r)).bind λk=>(zp (ru.map cP)).map λt=>k::t)=_
  rw[Yp ru];rfl
theorem afM(r:dY)(ru:List dY)(h10:ru.length<10)(nd:((r::ru).map gr).Nodup):∃Vg:List dY,Vg.Perm (r::ru)/\(Vg.map gr).Pairwise (λa b=>dg a b=au)/\Fw [.list ((r::ru).map cP)]=aj (.ow (.list (Vg.map cP))):=by
 have ty:∀k∈(r::ru).map gr,k.map bH=[aD,au]:=λk hk=>by
  obtain⟨x,_,rfl⟩:=ji.mp hk
  rfl
 have hlt:∀i∈j6 ((r::ru).map gr),i<(r::ru).length:=λi hi=>by
  have:=ql.mp ((Jh _).mem_iff.mp hi);rw[bC] at this;exact this
 have pm:((j6 ((r::ru).map gr)).map λi=>(r::ru).getD i r).Perm (r::ru):=by
  have:=(Jh ((r::ru).map gr)).map λi=>(r::ru).getD i r
  refine this.trans (Wj ?_);refine DP (by simp) λi h1 h2=>?_
  rw[DQ,List.getElem_range,vR,iI h2];rfl
 have ek:((j6 ((r::ru).map gr)).map λi=>(r::ru).getD i r).map gr=mF ((r::ru).map gr):=by
  unfold mF;rw[iK];refine uK λi hi=>?_
  have:=hlt i hi;show gr ((r::ru).getD i r)=((r::ru).map gr).getD i _;rw[vR,vR,jr,iI this];rfl
 have ed:K5 ((r::ru).map gr) ((r::ru).map cP)=((j6 ((r::ru).map gr)).map λi=>(r::ru).getD i r).map cP:=by
  unfold K5;rw[iK];refine uK λi hi=>?_
  have:=hlt i hi
  show((r::ru).map cP).getD i .none=cP ((r::ru).getD i r)
  rw[vR,vR,jr,iI this];rfl
 have up:=aaU ty;rw[<-ek] at up
 refine⟨_,pm,?_,?_⟩
 .have Ho:=(pm.map gr).nodup_iff.mpr nd;have Di:(((j6 ((r::ru).map gr)).map λi=>(r::ru).getD i r).map gr).Pairwise λa b=>a≠b:=Ho
  refine(aps.mp (up.and Di)).imp λ{a b} h=>?_
  obtain⟨ha,hb,h1,h2⟩:=h
  have ta:=ty a ((pm.map gr).mem_iff.mp ha);have tb:=ty b ((pm.map gr).mem_iff.mp hb);cases e:dg a b with
  |true=>rfl
  |false=>exact absurd (abk (ta.trans tb.symm) e h1) h2
 .have ha:((ru.map gr).length<63/\((ru.map gr).all λk=>decide (k.map bH=(gr r).map bH))=au)/\(gr r::ru.map gr).Nodup:=by
   refine⟨⟨by rw[bC];lia,?_⟩,nd⟩
   rw[jK];intro k hk;exact dZ ((ty k (dB _ hk)).trans rfl)
  show((zp ((r::ru).map cP)).bind λks=>_)=_
  rw[Yp]
  show(if((ru.map gr).length<63/\((ru.map gr).all λk=>decide (k.map bH=(gr r).map bH))=au)/\(gr r::ru.map gr).Nodup then aj (Vl.ow (.list (K5 ((r::ru).map gr) ((r::ru).map cP)))) else ao)=_
  rw[aZ ha,ed]
theorem abQ:∀{l:List dY}{y:dY},y∈l->(∀x∈l,x.2.1<=y.2.1)->(l.map (·.2.1)).Nodup->j8 l=aj y
 |r::l,y,hy,hm,nd=>by
  rw[cV,kI] at nd;rw[j8];rcases bJ.mp hy with rfl|hy
  .cases e:j8 l with
   |none=>rfl
   |some x=>
    simp only;have:x∈l:=by
     cases l with
     |nil=>cases e
     |cons a t=>
      obtain⟨z,e2,hz⟩:=Fg a t
      rw[e] at e2;cases e2;exact hz
    rw[aY (by have:=hm x (dB _ this);lia)]
  .rw[abQ hy (λx hx=>hm x (dB _ hx)) nd.2];simp only;rw[aZ];have h1:=hm r dj;have h2:r.2.1≠y.2.1:=λe=>nd.1 (ji.mpr ⟨y,hy,e.symm⟩)
   lia
theorem aaX:∀{l:List dY}{y:dY},j8 l=aj y->y∈l/\∀x∈l,x.2.1<=y.2.1
 |[],y,h=>by cases h
 |r::l,y,h=>by
  rw[j8] at h;cases e:j8 l with
  |none=>
   rw[e] at h;cases h;cases l with
   |nil=>exact⟨dj,λx hx=>by rw[jB.mp hx];exact yq _⟩
   |cons a t=>
    obtain⟨z,e2,_⟩:=Fg a t
    rw[e] at e2;cases e2
  |some x=>
   rw[e] at h
   obtain⟨h1,h2⟩:=aaX e
   simp only at h;split at h
   .cases h
    exact⟨dB _ h1,λz hz=>by
     rcases bJ.mp hz with rfl|hz
     .lia
     .exact h2 z hz⟩
   .cases h
    exact⟨dj,λz hz=>by
     rcases bJ.mp hz with rfl|hz
     .exact yq _
     .have:=h2 z hz;lia⟩
theorem ajq{l m:List dY}(p:l.Perm m)(nd:(m.map (·.2.1)).Nodup):j8 l=j8 m:=by
 cases m with
 |nil=>rw[W9.mp p]
 |cons a t=>
  obtain⟨y,e,_⟩:=Fg a t
  obtain⟨h1,h2⟩:=aaX e
  rw[e];exact abQ (p.mem_iff.mpr h1) (λx hx=>h2 x (p.mem_iff.mp hx)) ((p.map _).nodup_iff.mpr nd)
theorem Yq{l m:List dY}(p:l.Perm m):∀os,(gO l os).Perm (gO m os)
 |[]=>uM _
 |z::os=>by
  have pf:=p.filter λr=>decide (r.1=z)
  rw[gO,gO];by_cases h:m.filter (λr=>decide (r.1=z))=[]
  .rw[aZ h,aZ (by rw[h] at pf;exact W9.mp pf)];exact Yq p os
  .rw[aY h,aY (λe=>h (by rw[e] at pf;exact afE.mp pf))];exact pf
theorem ahq{l m:List dY}(p:l.Perm m)(nd:(m.map λr=>(r.1,r.2.1)).Nodup)(os:List Str)(z:Str)(eZ:Int):mV l os z eZ=mV m os z eZ:=by
 unfold mV;rw[ajq ((Yq p os).filter _) ((Xp nd os).sublist (List.filter_sublist.map _))]
abbrev em:Str:=bZ ""
abbrev kh(w p b:Str):List (Str×Str):=[(w,em),(p,w),(b,em)]
abbrev jZ(w p b hd cl ot:Str)(day:Int):List kJ:=[(0,hd,7,w,day,day+50),(1,cl,3,p,day,day+20),(4,cl,5,p,day+10,day+30),(5,ot,9,b,0,99999)]
abbrev r1(w:Str)(low:Int):dY:=(w,low,[(2,em),(2,em)])
abbrev r2(w b:Str)(low:Int):dY:=(w,low+10,[(5,w),(3,b)])
abbrev r3(w p:Str)(low:Int):dY:=(p,low+5,[(4,em),(1,w),(4,p)])
structure Kn(zs:List Str)(w p b hd cl ot:Str):Prop where
 N:Names zs
 z0:zs[0]?=aj w
 z1:zs[1]?=aj p
 z2:zs[2]?=aj b
 wp:w≠p
 wb:w≠b
 pb:p≠b
 mh:hd∈zs
 mc:cl∈zs
 mo:ot∈zs
 hc:hd≠cl
 ho:hd≠ot
 co:cl≠ot
 we:w≠em
 pe:p≠em
 be:b≠em
section
variable{zs:List Str}{w p b hd cl ot:Str}(K:Kn zs w p b hd cl ot){day low:Int}
include K
theorem Bc:lX zs (kh w p b):=by
 intro i x h
 match i,h with
 |0,h=>cases h;exact⟨K.z0,.inl rfl⟩
 |1,h=>cases h;exact⟨K.z1,.inr ⟨0,by lia,K.z0⟩⟩
 |2,h=>cases h;exact⟨K.z2,.inl rfl⟩
 |n+3,h=>cases h
theorem acj:fY (kh w p b) w=aj em:=by rw[tO,aZ rfl]
theorem ack:fY (kh w p b) p=aj w:=by rw[tO,aY K.wp,tO,aZ rfl]
theorem acn:fY (kh w p b) b=aj em:=by rw[tO,aY K.wb,tO,aY K.pb,tO,aZ rfl]
theorem aco:fY (kh w p b) em=ao:=by
 rw[tO,aY K.we,tO,aY K.pe,tO,aY K.be];rfl
theorem Tp:up (kh w p b) w=[w]:=by rw[RK K.N (Bc K) (acj K),aaO (aco K)]
theorem za:up (kh w p b) p=[p,w]:=by rw[RK K.N (Bc K) (ack K),Tp K]
theorem KJ:up (kh w p b) b=[b]:=by rw[RK K.N (Bc K) (acn K),aaO (aco K)]
theorem acp:((kh w p b).map (·.1)).Nodup:=Ek K.N (Bc K)
theorem CJ:([r1 w low,r2 w b low,r3 w p low].map λr=>(r.1,r.2.1)).Nodup:=by
 simp[K.wp];lia
theorem acq:∀r∈jZ w p b hd cl ot day,10<=day->day<=9009->BV zs ((kh w p b).map (·.1)) r:=by
 intro r hr h1 h2;simp only[bJ,iZ,or_false] at hr;rcases hr with rfl|rfl|rfl|rfl
 .exact⟨by simp,K.mh,by simp,by simp,by simp;lia⟩
 .exact⟨by simp,K.mc,by simp,by simp,by simp;lia⟩
 .exact⟨by simp,K.mc,by simp,by simp,by simp;lia⟩
 .exact⟨by simp,K.mo,by simp,by simp,by simp⟩
theorem Z8:∀r∈[r1 w low,r2 w b low,r3 w p low],1<=low->low<=100000000->BW ((kh w p b).map (·.1)) r:=by
 intro r hr h1 h2;have hw:w∈(kh w p b).map (·.1):=by simp
 have hp:p∈(kh w p b).map (·.1):=by simp
 have hb:b∈(kh w p b).map (·.1):=by simp
 simp only[bJ,iZ,or_false] at hr;rcases hr with rfl|rfl|rfl
 .refine⟨hw,⟨by simp only;lia,by simp only;lia⟩,by show 2<=6;decide,λs hs=>?_⟩
  simp only[bJ,iZ,or_false] at hs;rcases hs with rfl|rfl<;>exact⟨by simp,by simp,.inl rfl⟩
 .refine⟨hw,⟨by simp only;lia,by simp only;lia⟩,by show 2<=6;decide,λs hs=>?_⟩
  simp only[bJ,iZ,or_false] at hs;rcases hs with rfl|rfl
  .exact⟨by simp,by simp,.inr hw⟩
  .exact⟨by simp,by simp,.inr hb⟩
 .refine⟨hp,⟨by simp only;lia,by simp only;lia⟩,by show 3<=6;decide,λs hs=>?_⟩
  simp only[bJ,iZ,or_false] at hs;rcases hs with rfl|rfl|rfl
  .exact⟨by simp,by simp,.inl rfl⟩
  .exact⟨by simp,by simp,.inr hw⟩
  .exact⟨by simp,by simp,.inr hp⟩
end
theorem aid{zs own own':List Str}{r:kJ}(h:BV zs own r)(s:∀z∈own,z∈own'):BV zs own' r:=⟨h.num,h.who,h.rank,s _ h.part,h.days⟩
theorem aie{own own':List Str}{r:dY}(h:BW own r)(s:∀z∈own,z∈own'):BW own' r:=⟨s _ h.part,h.sum,h.many,λx hx=>⟨(h.seats x hx).1,(h.seats x hx).2.1,(h.seats x hx).2.2.imp id (s _)⟩⟩
section
variable{zs:List Str}{w p b hd cl ot:Str}(K:Kn zs w p b hd cl ot){day low:Int}{l:List (Str×Str)}{ru:List dY}
include K
theorem abR(d1:10<=day)(d2:day<=9009)(l1:1<=low)(l2:low<=100000000)(pl:l.Perm (kh w p b)){m:List dY}(hm:∀r∈m,r∈[r1 w low,r2 w b low,r3 w p low])(pr:ru.Perm m)(nd:(m.map λr=>(r.1,r.2.1)).Nodup)(m10:m.length<=10):u9 zs (kh w p b) ⟨l,jZ w p b hd cl ot day,[],ru⟩ where
 parts:=pl
 p8:=by show 3<=8;decide
 r20:=by show 4<=20;decide
 Vd:=by show 0<=16;decide
 xU:=by show ru.length<=10;rw[pr.length_eq];exact m10
 ranks:=λr hr=>acq K r hr d1 d2
 Ve:=by show[0,1,4,5].Pairwise (λa b:Int=>a<b);decide
 leaves:=λ_ h=>nomatch h
 lnd:=oK
 rules:=λr hr=>Z8 K r (hm r (pr.mem_iff.mp hr)) l1 l2
 unlike:=(pr.map _).nodup_iff.mpr nd
theorem alN(d1:10<=day)(d2:day<=9009)(l1:1<=low)(l2:low<=100000000)(pl:l.Perm (kh w p b))(ul:(l.map (·.1)).Pairwise λa b=>strLt a b=au)(pr:ru.Perm [r1 w low,r2 w b low,r3 w p low])(ur:(ru.map gr).Pairwise λa b=>dg a b=au):Z6 zs ⟨l,jZ w p b hd cl ot day,[],ru⟩:=by
 have lk:=Yh pl (acp K);have own:∀z∈(kh w p b).map (·.1),z∈l.map (·.1):=λz hz=>(pl.map _).mem_iff.mpr hz
 have ll:l.length=3:=pl.length_eq;have ew:Ends (fY l) w 1:=.last (by rw[lk];exact acj K);have eb:Ends (fY l) b 1:=.last (by rw[lk];exact acn K);have ep:Ends (fY l) p 2:=.step (by rw[lk];exact ack K) K.we ew;have nm:∀i z,zs[i]?=aj z->nameB z=au:=λi z h=>K.N.2 z (pA h)
 refine⟨K.N.2,⟨by show l.length<=8;lia,λx hx=>?_,ul,λx hx=>?_,λx hx=>?_⟩,by show 4<=20;decide,λr hr=>aid (acq K r hr d1 d2) own,by show[0,1,4,5].Pairwise (λa b:Int=>a<b);decide,by show 0<=16;decide,(λ_ h=>nomatch h),zT,by show ru.length<=10;rw[pr.length_eq];show 3<=10;decide,λr hr=>aie (Z8 K r (pr.mem_iff.mp hr) l1 l2) own,ur⟩
 all_goals
  have hx:=pl.mem_iff.mp hx;simp only[bJ,iZ,or_false] at hx
 .rcases hx with rfl|rfl|rfl
  .exact nm 0 _ K.z0
  .exact nm 1 _ K.z1
  .exact nm 2 _ K.z2
 .rcases hx with rfl|rfl|rfl
  .exact .inl rfl
  .exact .inr (own _ (by simp))
  .exact .inl rfl
 .rcases hx with rfl|rfl|rfl
  .exact⟨1,by show 1<=l.length;lia,ew⟩
  .exact⟨2,by show 2<=l.length;lia,ep⟩
  .exact⟨1,by show 1<=l.length;lia,eb⟩
theorem amP(t:Int):nJ (jZ w p b hd cl ot day) cl [p,w] (day+t)=if 10<=t/\t<=30 then 5 else if 0<=t/\t<=20 then 3 else 0:=by
 have h0:eO cl [p,w] (day+t) (0,hd,7,w,day,day+50)=aD:=by simp[eO,K.hc]
 have h1:eO cl [p,w] (day+t) (1,cl,3,p,day,day+20)=decide (0<=t/\t<=20):=by rw[pF];simp[eO];try lia
 have h2:eO cl [p,w] (day+t) (4,cl,5,p,day+10,day+30)=decide (10<=t/\t<=30):=by rw[pF];simp[eO];try lia
 have h3:eO cl [p,w] (day+t) (5,ot,9,b,0,99999)=aD:=by simp[eO,fQ K.co]
 unfold nJ;rw[eF,h0,eF,h1,eF,h2,eF,h3];by_cases a:0<=t/\t<=20<;>by_cases c:10<=t/\t<=30<;>simp only[a,c,decide_true,decide_false,if_true,if_false,and_self,kE,zX,cV,pI,DR,aft]<;>decide
theorem amQ(t:Int):nJ (jZ w p b hd cl ot day) hd [p,w] (day+t)=if 0<=t/\t<=50 then 7 else 0:=by
 have h0:eO hd [p,w] (day+t) (0,hd,7,w,day,day+50)=decide (0<=t/\t<=50):=by rw[pF];simp[eO];try lia
 have h1:eO hd [p,w] (day+t) (1,cl,3,p,day,day+20)=aD:=by simp[eO,fQ K.hc]
 have h2:eO hd [p,w] (day+t) (4,cl,5,p,day+10,day+30)=aD:=by simp[eO,fQ K.hc]
 have h3:eO hd [p,w] (day+t) (5,ot,9,b,0,99999)=aD:=by simp[eO,fQ K.ho]
 unfold nJ;rw[eF,h0,eF,h1,eF,h2,eF,h3];by_cases a:0<=t/\t<=50<;>simp only[a,decide_true,decide_false,if_true,if_false,and_self,kE,zX,cV,pI,DR,aft]<;>decide
theorem acr(d:Int):nJ (jZ w p b hd cl ot day) ot [p,w] d=0:=by
 refine Rc λr hr=>?_
 simp only[bJ,iZ,or_false] at hr;rcases hr with rfl|rfl|rfl|rfl
 .simp[eO,K.ho]
 .simp[eO,K.co]
 .simp[eO,K.co]
 .simp[eO,fQ K.wb,fQ K.pb]
theorem alO(d:Int):nJ (jZ w p b hd cl ot day) cl [w] d=0:=by
 refine Rc λr hr=>?_
 simp only[bJ,iZ,or_false] at hr;rcases hr with rfl|rfl|rfl|rfl
 .simp[eO,K.hc]
 .simp[eO,fQ K.wp]
 .simp[eO,fQ K.wp]
 .simp[eO,fQ K.co]
theorem Ue{who:Str}(h:who≠ot)(d:Int):nJ (jZ w p b hd cl ot day) who [b] d=0:=by
 refine Rc λr hr=>?_
 simp only[bJ,iZ,or_false] at hr;rcases hr with rfl|rfl|rfl|rfl
 .simp[eO,K.wb]
 .simp[eO,K.pb]
 .simp[eO,K.pb]
 .simp[eO,fQ h]
theorem alP{d:Int}(h0:0<=d)(h9:d<=99999):nJ (jZ w p b hd cl ot day) ot [b] d=9:=by
 have g0:eO ot [b] d (0,hd,7,w,day,day+50)=aD:=by simp[eO,K.ho]
 have g1:eO ot [b] d (1,cl,3,p,day,day+20)=aD:=by simp[eO,K.co]
 have g2:eO ot [b] d (4,cl,5,p,day+10,day+30)=aD:=by simp[eO,K.co]
 have g3:eO ot [b] d (5,ot,9,b,0,99999)=au:=by simp[eO,h0,h9]
 unfold nJ;rw[eF,g0,eF,g1,eF,g2,eF,g3];rfl
theorem ppl:(dedup ((jZ w p b hd cl ot day).map (·.2.1))).Perm [hd,cl,ot]:=by
 have e:(jZ w p b hd cl ot day).map (·.2.1)=[hd,cl,cl,ot]:=rfl;rw[e]
 refine(List.perm_ext_iff_of_nodup (agA _) ?_).mpr λz=>?_
 .simp[K.hc,K.ho,K.co]
 .rw[ahM];simp
theorem RV{os:List Str}{rank d:Int}(q:List Str)(h:[hd,cl,ot].filter (λwho=>decide (rank<=nJ (jZ w p b hd cl ot day) who os d))=q):CG (jZ w p b hd cl ot day) os rank d=iD strLt q:=by
 unfold CG;refine Rv K3 (λ_ _=>trivial) ?_ ((QT K3 λ_ _=>trivial).sublist List.filter_sublist);rw[<-h]
 exact((Ak _).trans (ppl K)).filter _
end
section
variable{zs:List Str}{w p b hd cl ot:Str}(K:Kn zs w p b hd cl ot){low:Int}
include K
theorem anN(eZ:Int):mV [r1 w low,r2 w b low,r3 w p low] [w] w eZ=if eZ<low then[] else if eZ<low+10 then[(2,w),(2,w)] else[(5,w),(3,b)]:=by
 have f:gO [r1 w low,r2 w b low,r3 w p low] [w]=[r1 w low,r2 w b low]:=by simp[gO,eF,fQ K.wp]
 unfold mV;rw[f];by_cases a:eZ<low
 .have d1:decide (low<=eZ)=aD:=iU (by lia);have d2:decide (low+10<=eZ)=aD:=iU (by lia);simp[eF,j8,a,d1,d2]
 .by_cases c:eZ<low+10
  .rw[eF,aZ (dZ (by show low<=eZ;lia)),eF,aY (by simp;lia),zX,aY a,aZ c];rfl
  .rw[eF,aZ (dZ (by show low<=eZ;lia)),eF,aZ (dZ (by show low+10<=eZ;lia)),zX,aY a,aY c];have t:j8 [r1 w low,r2 w b low]=aj (r2 w b low):=by
    rw[j8,j8,j8];simp only;rw[aZ (by lia)]
   rw[t];simp[K.we,K.be]
theorem anO(eZ:Int):mV [r1 w low,r2 w b low,r3 w p low] [p,w] p eZ=if eZ<low+5 then[] else[(4,p),(1,w),(4,p)]:=by
 have f:gO [r1 w low,r2 w b low,r3 w p low] [p,w]=[r3 w p low]:=by simp[gO,eF,K.wp]
 unfold mV;rw[f];by_cases a:eZ<low+5
 .rw[eF,aY (by simp;lia),zX,aZ a];rfl
 .rw[eF,aZ (dZ (by show low+5<=eZ;lia)),zX,aY a];simp[j8,K.we,K.pe]
theorem akI:mV [r1 w low,r2 w b low] [p,w] p low=[(2,p),(2,p)]:=by
 have f:gO [r1 w low,r2 w b low] [p,w]=[r1 w low,r2 w b low]:=by simp[gO,eF,K.wp]
 unfold mV;rw[f,eF,aZ (dZ (yq _)),eF,aY (by simp;lia),zX];rfl
theorem anP(eZ:Int):mV [r1 w low,r2 w b low,r3 w p low] [b] b eZ=[]:=by
 have f:gO [r1 w low,r2 w b low,r3 w p low] [b]=[]:=by simp[gO,eF,K.wb,K.pb]
 unfold mV;rw[f];rfl
theorem amR(eZ:Int):mV [r1 w low,r2 w b low] [b] b eZ=[]:=by
 have f:gO [r1 w low,r2 w b low] [b]=[]:=by simp[gO,eF,K.wb]
 unfold mV;rw[f];rfl
end
theorem aif{ss:List rT}(h:ss.length<=6):sy 3 (bQ ss)=au:=by
 unfold bQ sy;rw[jl]
 refine⟨dZ (by rw[bC];lia),?_⟩
 rw[jK];intro d hd
 obtain⟨s,_,rfl⟩:=ji.mp hd
 rfl
theorem Fi{C:Ce}{zs:List Str}{ps:List (Str×Str)}{ht:jF}{m:List dY}{os:List Str}{z:Str}(hN:Names zs)(hP:lX zs ps)(hG:u9 zs ps ht)(pr:ht.rules.Perm m)(nd:(m.map λr=>(r.1,r.2.1)).Nodup)(hu:up ps z=os)(eZ:Int):
  pJ [.im (di ht),.im (.str z),.im (.int eZ)] C=aj (.im (bQ (mV m os z eZ)),C):=by
 rw[ajo hN hP hG z eZ,hu,ahq pr nd]
theorem Yr{C:Ce}{fe:FE}{ht:jF}{z:Str}(g:Int->List rT)(he:∀a:Int,∃e,fe [aj (.im (.int a)),aj (.im (di ht)),aj (.im (.str z))] C=aj (.im (bQ (g a)),e,C))(l:List Int):dU .one cM fe [aj (.im (di ht)),aj (.im (.str z))] (l.map .int) C=aj (l.map λa=>bQ (g a),C):=by
 have:=nD (T:=.one) (ft:=cM) (fe:=fe) (fs:=[aj (.im (di ht)),aj (.im (.str z))]) (C:=C) uV (λ_=>au) (λa=>bQ (g a)) (l:=l) λa _=>by
  obtain⟨e,h⟩:=he a
  exact⟨[.int a],rfl,rfl,λ_=>⟨_,e,h,rfl⟩⟩
 rw[vW.mpr λ_ _=>rfl] at this;exact this
theorem amS(d:aA):rJ (.list [d]) (.int 2)=aj (.ow (.list [d,d])):=rfl
theorem amT(d:aA):rJ (.list [d]) (.int 3)=aj (.ow (.list [d,d,d])):=rfl
theorem ac0:oR (.int 10) (.int 8)=aj (.im (.int 100000000)):=rfl
theorem Ug:oR (.int 10) (.int 9)=aj (.im (.int 1000000000)):=rfl
theorem Y9(ls:List (List rT))(h:ls.length<=1000)(h6:∀s∈ls,s.length<=6):sy 4 (.list (ls.map bQ))=au:=by
 unfold sy;rw[jl]
 refine⟨dZ (by rw[bC];exact h),?_⟩
 rw[jK];intro d hd
 obtain⟨s,hs,rfl⟩:=ji.mp hd
 exact aif (h6 s hs)
def xm(ht:jF)(p:Str):jF:=⟨ht.ps,ht.ranks,ht.leaves,ht.rules.filter λr=>!decide (r.1=p)⟩
theorem aih{C:Ce}(ru:List dY)(p:Str):dU .one V5 V6 [aj (.im (.str p))] (ru.map cP) C=aj ((ru.filter λr=>!decide (r.1=p)).map cP,C):=
 nD cP (λr=>!decide (r.1=p)) cP λr _=>⟨[cP r],rfl,by
  have e:=aaP r.1 p;simp_arith[cO,jt,iJ,cP,e],λ_=>⟨.im (cP r),[aj (.im (cP r)),aj (.im (.str p))],by simp_arith[cO,jt,iJ],rfl⟩⟩
theorem afN{C:Ce}{ht:jF}{w p b:Str}{low:Int}(hw:∀a:Int,pJ [.im (di ht),.im (.str w),.im (.int a)] C=aj (.im (bQ (if a<low then[] else if a<low+10 then[(2,w),(2,w)] else[(5,w),(3,b)])),C))
  (hp:∀a:Int,pJ [.im (di ht),.im (.str p),.im (.int a)] C=aj (.im (bQ (if a<low+5 then[] else[(4,p),(1,w),(4,p)])),C))
  (hb:∀a:Int,pJ [.im (di ht),.im (.str b),.im (.int a)] C=aj (.im (bQ []),C))
  (gp:pJ [.im (di (xm ht p)),.im (.str p),.im (.int low)] C=aj (.im (bQ [(2,p),(2,p)]),C))
  (gb:∀a:Int,pJ [.im (di (xm ht p)),.im (.str b),.im (.int a)] C=aj (.im (bQ []),C))
  (l1:1<=low)(l2:low<=100000000)(xU:ht.rules.length<=10):
  Ea [.im (di ht),.im (.str w),.im (.str p),.im (.str b),.im (.int low)] C=aj (.im (.bool au),C):=by
 have c1:=Yr (C:=C) (fe:=V8) (ht:=ht) (z:=w) (λa=>if a<low then[] else if a<low+10 then[(2,w),(2,w)] else[(5,w),(3,b)]) (λa=>⟨_,by simp_arith[hw a];rfl⟩) [0,low-1,low,low+9,low+10,1000000000];have c2:=Yr (C:=C) (fe:=V7) (ht:=ht) (z:=p) (λa=>if a<low+5 then[] else[(4,p),(1,w),(4,p)]) (λa=>⟨_,by simp_arith[hp a];rfl⟩) [0,low+4,low+5,low+10,1000000000];have e1:([0,low-1,low,low+9,low+10,1000000000].map λa=>bQ (if a<low then[] else if a<low+10 then[(2,w),(2,w)] else[(5,w),(3,b)]))=[bQ [],bQ [],bQ [(2,w),(2,w)],bQ [(2,w),(2,w)],bQ [(5,w),(3,b)],bQ [(5,w),(3,b)]]:=by
  rw[cV,aZ (by lia),cV,aZ (by lia),cV,aY (by lia),aZ (by lia),cV,aY (by lia),aZ (by lia),cV,aY (by lia),aY (by lia),cV,aY (by lia),aY (by lia),pI]
 have e2:([0,low+4,low+5,low+10,1000000000].map λa=>bQ (if a<low+5 then[] else[(4,p),(1,w),(4,p)]))=[bQ [],bQ [],bQ [(4,p),(1,w),(4,p)],bQ [(4,p),(1,w),(4,p)],bQ [(4,p),(1,w),(4,p)]]:=by
  rw[cV,aZ (by lia),cV,aZ (by lia),cV,aY (by lia),cV,aY (by lia),cV,aY (by lia),pI]
 rw[e1] at c1;rw[e2] at c2;have s1:=yD (C:=C) 4 _ (Y9 [[],[],[(2,w),(2,w)],[(2,w),(2,w)],[(5,w),(3,b)],[(5,w),(3,b)]] (by show 6<=1000;decide) (by simp));have s2:=yD (C:=C) 4 _ (Y9 [[],[],[(4,p),(1,w),(4,p)],[(4,p),(1,w),(4,p)],[(4,p),(1,w),(4,p)]] (by show 5<=1000;decide) (by simp));have s3:=yD (C:=C) 4 (bQ [(2,p),(2,p)]) rfl;have s4:=yD (C:=C) 4 (bQ []) rfl;have bc:=aih (C:=C) ht.rules p;have bl:(ht.rules.filter λr=>!decide (r.1=p)).length<=10:=ju (zP _ _) xU;have bg:((ht.rules.filter λr=>!decide (r.1=p)).length<=1000000)=True:=eq_true (by lia);have bn:=wV (D:=cP) (λr=>by show(au&&(au&&(iW (r.2.2.map j5)&&au)))=au;rw[Ao];rfl) (ht.rules.filter λr=>!decide (r.1=p));have sl:xR ao (aj 3) (di ht)=aj (.im (.tuple [.tuple (ht.ps.map eN),.tuple (ht.ranks.map dI),.tuple (ht.leaves.map jO)])):=rfl;have ad:∀x:aA,cL (.tuple [.tuple (ht.ps.map eN),.tuple (ht.ranks.map dI),.tuple (ht.leaves.map jO)]) (.tuple [x])=aj (.im (.tuple [.tuple (ht.ps.map eN),.tuple (ht.ranks.map dI),.tuple (ht.leaves.map jO),x])):=λx=>rfl
 have eb:(.tuple [.tuple (ht.ps.map eN),.tuple (ht.ranks.map dI),.tuple (ht.leaves.map jO),.tuple ((ht.rules.filter λr=>!decide (r.1=p)).map cP)]:aA)=di (xm ht p):=rfl;have tp:tY [.list ((ht.rules.filter λr=>!decide (r.1=p)).map cP)]=aj (.im (.tuple ((ht.rules.filter λr=>!decide (r.1=p)).map cP))):=rfl;have ap:∀a:aA,cL (.list [bQ [],bQ []]) (.list [a,a])=aj (.ow (.list [bQ [],bQ [],a,a])):=λa=>rfl
 have aq:∀a c:aA,cL (.list [bQ [],bQ [],a,a]) (.list [c,c])=aj (.ow (.list [bQ [],bQ [],a,a,c,c])):=λa c=>rfl
 have ar:∀a:aA,cL (.list [bQ [],bQ []]) (.list [a,a,a])=aj (.ow (.list [bQ [],bQ [],a,a,a])):=λa=>rfl
 have se:(.tuple []:aA)=bQ []:=rfl;have sw:(.tuple [.tuple [.int 2,.str w],.tuple [.int 2,.str w]]:aA)=bQ [(2,w),(2,w)]:=rfl;have sv:(.tuple [.tuple [.int 5,.str w],.tuple [.int 3,.str b]]:aA)=bQ [(5,w),(3,b)]:=rfl;have sp:(.tuple [.tuple [.int 4,.str p],.tuple [.int 1,.str w],.tuple [.int 4,.str p]]:aA)=bQ [(4,p),(1,w),(4,p)]:=rfl;have sq:(.tuple [.tuple [.int 2,.str p],.tuple [.int 2,.str p]]:aA)=bQ [(2,p),(2,p)]:=rfl;refine jj [aj (.im (di ht)),aj (.im (.str w)),aj (.im (.str p)),aj (.im (.str b)),aj (.im (.int low)),ao,ao] rfl rfl ?_ rfl rfl;simp only[cV,pI] at c1 c2 s1 s2;have n1:iW [bQ [],bQ [],bQ [(2,w),(2,w)],bQ [(2,w),(2,w)],bQ [(5,w),(3,b)],bQ [(5,w),(3,b)]]=au:=rfl;have n2:iW [bQ [],bQ [],bQ [(4,p),(1,w),(4,p)],bQ [(4,p),(1,w),(4,p)],bQ [(4,p),(1,w),(4,p)]]=au:=rfl;have rs:∀(ss:List rT)(e f:En),rst (.im (bQ ss)) e f=e:=λss e f=>by
  show(if iW (ss.map j5)=au then e else f)=e
  rw[Ao];rfl
 have c5:dU .one cM My [aj (.im (.str b))] [di ht,di (xm ht p)] C=aj ([.bool au,.bool au],C):=
  tR (T:=.one) (fe:=My) (fs:=[aj (.im (.str b))]) (C:=C) di (l:=[ht,xm ht p]) λh hh=>by
   simp only[bJ,iZ,or_false] at hh;rcases hh with rfl|rfl
   .exact⟨[di h],[aj (.im (di h)),aj (.im (.str b))],rfl,by simp_arith[cO,jt,iJ,Ug,hb,se,s4]⟩
   .exact⟨[di (xm ht p)],[aj (.im (di (xm ht p))),aj (.im (.str b))],rfl,by simp_arith[cO,jt,iJ,Ug,gb,se,s4]⟩
 have ns:∀ss:List rT,jP (bQ ss)=au:=λss=>by
  show iW (ss.map j5)=au;exact Ao ss
 have al:mC [.list [.bool au,.bool au]]=aj (.im (.bool au)):=rfl;simp_arith[Ny,Ug,c1,c2,se,sw,sv,sp,sq,amS,amT,ap,aq,ar,s1,s2,rs,oF,oE,oX,sl,bc,bg,bn,tp,ad,eb,gp,s3,c5,al,iW,ns]
theorem aii(l:List Str)(h:l.length<64):qy [.list (l.map .str)]=aj (.ow (.list ((iD strLt l).map .str))):=by
 have hs:yZ (l.map .str)=aj ((iD strLt l).map .str):=by
  unfold yZ;rw[aZ (by rw[bC];exact h)];cases l with
  |nil=>rfl
  |cons x l=>
   rw[show intsOf ((x::l).map gM)=ao from rfl,Pn]
 unfold qy Fe;simp only[hs,lR]
inductive LE(ns:List Int)(ht:jF)(w p b hd cl ot:Str)(day low:Int):En->Prop
 |mk (v1 v2 v3 uD uE uF uG uH uI Dr:Option Vl):LE ns ht w p b hd cl ot day low [aj (.sc ns),v1,v2,v3,aj (.im (.str w)),aj (.im (.str p)),aj (.im (.str b)),aj (.im (.str hd)),aj (.im (.str cl)),aj (.im (.str ot)),aj (.im (.int day)),aj (.im (.int low)),uD,uE,uF,aj (.im (di ht)),uG,uH,uI,Dr]
structure Vh(C:Ce)(ht:jF)(w p b hd cl ot:Str)(d t due:Int)(a c:Bool):Prop where
 ge:vL (.int t) (.int 0)=aj (.im (.bool a))
 eq5:jW (.int due) (.int 5)=aj (.im (.bool c))
 clp:pK [.im (di ht),.im (.str cl),.im (.str p),.im (.int d)] C=aj (.im (.int due),C)
 clw:pK [.im (di ht),.im (.str cl),.im (.str w),.im (.int d)] C=aj (.im (.int 0),C)
 hdp:pK [.im (di ht),.im (.str hd),.im (.str p),.im (.int d)] C=aj (.im (.int (if a then 7 else 0)),C)
 hdb:pK [.im (di ht),.im (.str hd),.im (.str b),.im (.int d)] C=aj (.im (.int 0),C)
 h4:uQ [.im (di ht),.im (.int 4),.im (.str p),.im (.int d)] C=aj (.ow (.list ((iD strLt ((if a then[hd] else[])++(if c then[cl] else[]))).map .str)),C)
 h9:uQ [.im (di ht),.im (.int 9),.im (.str b),.im (.int d)] C=aj (.ow (.list [.str ot]),C)
 h8:uQ [.im (di ht),.im (.int 8),.im (.str p),.im (.int d)] C=aj (.ow (.list []),C)
theorem ajr(l:List Str)(h:l.length<=1000):sy 3 (.list (l.map .str))=au:=by
 unfold sy;rw[jl]
 refine⟨dZ (by rw[bC];exact h),?_⟩
 rw[jK];intro d hd
 obtain⟨s,_,rfl⟩:=ji.mp hd
 rfl
theorem akJ{C:Ce}{ns:List Int}{ht:jF}{w p b hd cl ot:Str}{day low t due:Int}{a c:Bool}{env e0:En}(hE:LE ns ht w p b hd cl ot day low env)(T:Vh C ht w p b hd cl ot (day+t) t due a c)(hg:qb 2 (eG (dz 16) (eG (dz 17) nU)) (.tuple [.int t,.int due]) env=aj e0):
  ∃env',wH e0 C=aj (.nx,env',C)/\LE ns ht w p b hd cl ot day low env':=by
 cases hE with
 |mk v1 v2 v3 uD uE uF uG uH uI Dr=>
 cases hg;have T1:=T.ge;have T2:=T.eq5;have T3:=T.clp;have T4:=T.clw;have T5:=T.hdp;have T6:=T.hdb;have T7:=T.h4;have T8:=T.h9;have T9:=T.h8;have rl:∀(q:List Str),(iD strLt q).length=q.length:=λq=>(Ak q).length_eq
 have aa:∀x y:aA,cL (.list [x,y]) (.list [x,y])=aj (.ow (.list [x,y,x,y])):=λx y=>rfl
 have a2:∀x y u v:aA,cL (.list [x,y]) (.list [u,v])=aj (.ow (.list [x,y,u,v])):=λx y u v=>rfl
 have a1:∀x y u:aA,cL (.list [x,y]) (.list [u])=aj (.ow (.list [x,y,u])):=λx y u=>rfl
 have m1:∀x:aA,rJ (.list [x]) (.int 1)=aj (.ow (.list [x])):=λx=>rfl
 have m0:∀x:aA,rJ (.list [x]) (.int 0)=aj (.ow (.list [])):=λx=>rfl
 have it:vp [.bool au]=aj (.im (.int 1)):=rfl;have if':vp [.bool aD]=aj (.im (.int 0)):=rfl
 have p1:pP (.int 7) (.int 1)=aj (.im (.int 7)):=rfl;have p0:pP (.int 7) (.int 0)=aj (.im (.int 0)):=rfl;have b2:∀x y:Str,cL (.list [.str x]) (.list [.str y])=aj (.ow (.list [.str x,.str y])):=λx y=>rfl
 have b1:∀x:Str,cL (.list [.str x]) (.list [])=aj (.ow (.list [.str x])):=λx=>rfl
 have b3:∀x:Str,cL (.list []) (.list [.str x])=aj (.ow (.list [.str x])):=λx=>rfl
 have b0:cL (.list []) (.list [])=aj (.ow (.list [])):=rfl;have sf:∀x y z u:Int,mQ 4 [.im (.list [.int x,.int y,.int z,.int u]),.im (.list [.int x,.int y,.int z,.int u])] C=aj (.im (.bool au),C):=λx y z u=>yD 4 _ rfl
 have sl:∀q:List Str,q.length<=2->mQ 4 [.im (.list [.list ((iD strLt q).map .str),.list [.str ot],.list []]),.im (.list [.list ((iD strLt q).map .str),.list [.str ot],.list []])] C=aj (.im (.bool au),C):=λq hq=>yD 4 _ (by
  have:=ajr (iD strLt q) (by rw[rl];lia);unfold sy;simp only[HS,this];rfl)
 have st:=aii
 refine⟨_,?_,LE.mk v1 v2 v3 uD uE uF (aj (.im (.int t))) (aj (.im (.int due))) (aj (.ow (.list [.list ((iD strLt ((if a then[hd] else[])++(if c then[cl] else[]))).map .str),.list [.str ot]]))) (aj (.ow (.list ((iD strLt ((if a then[hd] else[])++(if c then[cl] else[]))).map .str))))⟩
 cases a<;>cases c<;>simp only[if_true,if_false,kE,iJ,lq,jt] at T5 T7⊢
 .have sq:qy [.list []]=aj (.ow (.list ((iD strLt []).map .str))):=st [] (by show 0<64;decide);have sk:=sl [] (by show 0<=2;decide);generalize iD strLt []=q at T7 sq sk⊢;simp_arith[wH,T1,T2,T3,T4,T5,T6,T7,T8,T9,a1,a2,m1,m0,it,if',p1,p0,b0,b1,b2,b3,sf,↓sq,↓sk]
 .have sq:qy [.list [.str cl]]=aj (.ow (.list ((iD strLt [cl]).map .str))):=st [cl] (by show 1<64;decide);have sk:=sl [cl] (by show 1<=2;decide);generalize iD strLt [cl]=q at T7 sq sk⊢;simp_arith[wH,T1,T2,T3,T4,T5,T6,T7,T8,T9,a1,a2,m1,m0,it,if',p1,p0,b0,b1,b2,b3,sf,↓sq,↓sk]
 .have sq:qy [.list [.str hd]]=aj (.ow (.list ((iD strLt [hd]).map .str))):=st [hd] (by show 1<64;decide);have sk:=sl [hd] (by show 1<=2;decide);generalize iD strLt [hd]=q at T7 sq sk⊢;simp_arith[wH,T1,T2,T3,T4,T5,T6,T7,T8,T9,a1,a2,m1,m0,it,if',p1,p0,b0,b1,b2,b3,sf,↓sq,↓sk]
 .have sq:qy [.list [.str hd,.str cl]]=aj (.ow (.list ((iD strLt [hd,cl]).map .str))):=st [hd,cl] (by show 2<64;decide);have sk:=sl [hd,cl] (by show 2<=2;decide);generalize iD strLt [hd,cl]=q at T7 sq sk⊢;simp_arith[wH,T1,T2,T3,T4,T5,T6,T7,T8,T9,a1,a2,m1,m0,it,if',p1,p0,b0,b1,b2,b3,sf,↓sq,↓sk]
theorem akK{zs:List Str}(hz:∀z∈zs,nameB z=au):m9 (.list (zs.map .str)) (.list (zs.map .str))=aj (.im (.bool aD)):=by
 have s1:lg (.list (zs.map gM))=au:=XC λz m=>Jc (hz z m)
 have n1:oA (.list (zs.map gM))=au:=(JG λz m=>Jc (hz z m)).2.2;have e:Xf (zs.map .str) (zs.map .str)=au:=by
  clear hz s1 n1;induction zs with
  |nil=>rfl
  |cons z zs ih=>
   show(yr (.str z) (.str z)&&Xf (zs.map .str) (zs.map .str))=au
   rw[ih,show yr (.str z) (.str z)=au by simp[yr]];rfl
 have:xP (.list (zs.map .str)) (.list (zs.map .str))=aj au:=by
  show(if oA (.list (zs.map gM))&&oA (.list (zs.map gM))&&(lg (.list (zs.map gM))&&lg (.list (zs.map gM))) then aj (Xf (zs.map .str) (zs.map .str)) else ao)=_
  rw[s1,n1,e];rfl
 unfold m9;rw[this];rfl
theorem Z9{C:Ce}{ns:List Int}{ht:jF}{w p b hd cl ot:Str}{day low:Int}:∀(l:List (Int×Int))(env:En),LE ns ht w p b hd cl ot day low env->(∀x∈l,∃a c,Vh C ht w p b hd cl ot (day+x.1) x.1 x.2 a c)->
  ∃env',lG (qb 2 (eG (dz 16) (eG (dz 17) nU))) wH (l.map λx=>.tuple [.int x.1,.int x.2]) env C=aj (.nx,env',C)/\LE ns ht w p b hd cl ot day low env'
 |[],env,h,_=>⟨env,rfl,h⟩
 |x::l,env,h,hT=>by
  obtain⟨a,c,T⟩:=hT x dj
  have hg:∃e0,qb 2 (eG (dz 16) (eG (dz 17) nU)) (.tuple [.int x.1,.int x.2]) env=aj e0:=by cases h;exact⟨_,rfl⟩
  obtain⟨e0,hg⟩:=hg
  obtain⟨e1,h1,h2⟩:=akJ h T hg
  obtain⟨e2,h3,h4⟩:=Z9 l e1 h2 λy hy=>hT y (dB _ hy)
  refine⟨e2,?_,h4⟩
  rw[cV];unfold lG;simp only[hg,h1,h3]
section
variable{C:Ce}{zs:List Str}{w p b hd cl ot:Str}(K:Kn zs w p b hd cl ot){day low:Int}{l:List (Str×Str)}{ru:List dY}
include K
theorem alQ(hG:u9 zs (kh w p b) ⟨l,jZ w p b hd cl ot day,[],ru⟩)(d1:10<=day)(d2:day<=9009){t due:Int}(t0:-1<=t)(t1:t<=50)(hd':(if 10<=t/\t<=30 then 5 else if 0<=t/\t<=20 then 3 else 0)=due):Vh C ⟨l,jZ w p b hd cl ot day,[],ru⟩ w p b hd cl ot (day+t) t due (decide (0<=t)) (decide (due=5)):=by
 have hP:=Bc K;have r1:=amP K (day:=day) t;rw[hd'] at r1;have r2:=amQ K (day:=day) t;have e7:(if 0<=t/\t<=50 then(7:Int) else 0)=if decide (0<=t)=au then 7 else 0:=by
  by_cases h:0<=t
  .rw[aZ ⟨h,t1⟩,aZ (dZ h)]
  .rw[aY (λz=>h z.1),aY (by simpa using h)]
 rw[e7] at r2;have Uh:due=5\/due=3\/due=0:=by
  rw[<-hd'];split
  .exact .inl rfl
  .split
   .exact .inr (.inl rfl)
   .exact .inr (.inr rfl)
 refine⟨rfl,?_,?_,?_,?_,?_,?_,?_,?_⟩
 .rcases Uh with rfl|rfl|rfl<;>rfl
 .rw[Eu K.N hP hG,za K,r1]
 .rw[Eu K.N hP hG,Tp K,alO K]
 .rw[Eu K.N hP hG,za K,r2]
 .rw[Eu K.N hP hG,KJ K,Ue K K.ho]
 .rw[PB K.N hP hG,za K,RV K ((if decide (0<=t)=au then[hd] else[])++(if decide (due=5)=au then[cl] else[]))];rw[eF,eF,eF,r1,r2,acr K];by_cases h:0<=t<;>rcases Uh with rfl|rfl|rfl<;>simp[h]
 .rw[PB K.N hP hG,KJ K,RV K [ot]]
  .rfl
  .rw[eF,eF,eF,Ue K K.ho,Ue K K.co,alP K (by lia) (by lia)];rfl
 .rw[PB K.N hP hG,za K,RV K []]
  .rfl
  .rw[eF,eF,eF,r1,r2,acr K];by_cases h:0<=t<;>rcases Uh with rfl|rfl|rfl<;>simp[h]
end
inductive RE(ns:List Int):En->Prop
 |mk (v1 v2 v3 v4 v5 v6 v7 v8 v9 v10 v11 uD uE uF Dl uG uH uI Dr:Option Vl):RE ns [aj (.sc ns),v1,v2,v3,v4,v5,v6,v7,v8,v9,v10,v11,uD,uE,uF,Dl,uG,uH,uI,Dr]
theorem LE.re{ns:List Int}{ht:jF}{w p b hd cl ot:Str}{day low:Int}{env:En}(h:LE ns ht w p b hd cl ot day low env):RE ns env:=by
 cases h;exact .mk ..
structure All(C:Ce)(ns:List Int)(w p b hd cl ot:Str)(day low:Int)(l:List (Str×Str))(ru:List dY):Prop where
 sP:qy [.list [.tuple [.str w,.str em],.tuple [.str p,.str w],.tuple [.str b,.str em]]]=aj (.ow (.list (l.map eN)))
 sU:Fw [.list [cP (r1 w low),cP (r2 w b low),cP (r3 w p low)]]=aj (.ow (.list (ru.map cP)))
 Lx:Et [.im (di ⟨l,jZ w p b hd cl ot day,[],ru⟩)] C=aj (.im (.bool au),C)
 ov:uP [.im (di ⟨l,jZ w p b hd cl ot day,[],ru⟩),.im (.str p)] C=aj (.ow (.list [.str p,.str w]),C)
 ne:m9 (.list [.str p,.str w]) (.list [.str p,.str w])=aj (.im (.bool aD))
 tr:∀env,LE ns ⟨l,jZ w p b hd cl ot day,[],ru⟩ w p b hd cl ot day low env->∃env',lG (qb 2 (eG (dz 16) (eG (dz 17) nU))) wH [.tuple [.int 0,.int 3],.tuple [.int 9,.int 3],.tuple [.int 10,.int 5],.tuple [.int 20,.int 5],.tuple [.int 21,.int 5],.tuple [.int 30,.int 5],.tuple [.int 31,.int 0],.tuple [.int (-1),.int 0]] env C=aj (.nx,env',C)/\LE ns ⟨l,jZ w p b hd cl ot day,[],ru⟩ w p b hd cl ot day low env'
 se:Ea [.im (di ⟨l,jZ w p b hd cl ot day,[],ru⟩),.im (.str w),.im (.str p),.im (.str b),.im (.int low)] C=aj (.im (.bool au),C)
theorem alR(C:Ce)(ns:List Int){zs:List Str}{w p b hd cl ot:Str}(K:Kn zs w p b hd cl ot){day low:Int}(d1:10<=day)(d2:day<=9009)(l1:1<=low)(l2:low<=100000000):∃l ru,All C ns w p b hd cl ot day low l ru:=by
 obtain⟨l,pl,ul,sP⟩:=afL (kh w p b) (by show 3<=8;decide) (acp K)
 have ndK:([r1 w low,r2 w b low,r3 w p low].map gr).Nodup:=by
  have:=CJ K (low:=low);have e:[r1 w low,r2 w b low,r3 w p low].map gr=([r1 w low,r2 w b low,r3 w p low].map λr=>(r.1,r.2.1)).map λx=>([.inr x.1,.inl x.2]:List Key):=rfl
  rw[e];refine apx _ (λx y h z=>h ?_) this;injection z with z1 z2
  injection z2 with z2 _
  exact Prod.ext (Il z1) (ags z2)
 obtain⟨ru,pr,ur,sU⟩:=afM (r1 w low) [r2 w b low,r3 w p low] (by show 2<10;decide) ndK
 have hP:=Bc K;have hG:=abR K (hd:=hd) (cl:=cl) (ot:=ot) d1 d2 l1 l2 pl (m:=[r1 w low,r2 w b low,r3 w p low]) (λr h=>h) pr (CJ K) (by show 3<=10;decide);have pb:(ru.filter λr=>!decide (r.1=p)).Perm [r1 w low,r2 w b low]:=by
  have:=pr.filter λr=>!decide (r.1=p)
  have e:([r1 w low,r2 w b low,r3 w p low].filter λr=>!decide (r.1=p))=[r1 w low,r2 w b low]:=by simp[eF,K.wp]
  rw[e] at this;exact this
 have nb:([r1 w low,r2 w b low].map λr=>(r.1,r.2.1)).Nodup:=(CJ K (low:=low)).sublist (by simp);have hB:u9 zs (kh w p b) (xm ⟨l,jZ w p b hd cl ot day,[],ru⟩ p):=abR K d1 d2 l1 l2 pl (m:=[r1 w low,r2 w b low]) (λr h=>by simp only[bJ,iZ,or_false] at h⊢;rcases h with h|h;exact .inl h;exact .inr (.inl h)) pb nb (by show 2<=10;decide);have ov:=Oe (C:=C) K.N hP hG p;rw[za K] at ov
 refine⟨l,ru,sP,sU,ahp (alN K d1 d2 l1 l2 pl ul pr ur),ov,akK (zs:=[p,w]) λz hz=>?_,λenv hE=>?_,?_⟩
 .simp only[bJ,iZ,or_false] at hz;rcases hz with rfl|rfl
  .exact K.N.2 _ (pA K.z1)
  .exact K.N.2 _ (pA K.z0)
 .refine Z9 [(0,3),(9,3),(10,5),(20,5),(21,5),(30,5),(31,0),(-1,0)] env hE λx hx=>?_
  simp only[bJ,iZ,or_false] at hx;rcases hx with rfl|rfl|rfl|rfl|rfl|rfl|rfl|rfl<;>exact⟨_,_,alQ K hG d1 d2 (by decide) (by decide) (by decide)⟩
 .refine afN (λa=>?_) (λa=>?_) (λa=>?_) ?_ (λa=>?_) l1 l2 hG.xU
  .rw[Fi K.N hP hG pr (CJ K) (Tp K),anN K]
  .rw[Fi K.N hP hG pr (CJ K) (za K),anO K]
  .rw[Fi K.N hP hG pr (CJ K) (KJ K),anP K]
  .rw[Fi K.N hP hB pb nb (za K),akI K]
  .rw[Fi K.N hP hB pb nb (KJ K),amR K]
theorem amU:nameB em=aD:=by decide +kernel
theorem ajs{C:Ce}{ns:List Int}{k:Int}{env e0:En}(hE:RE ns env)(k0:0<=k)(k9:k<=9)(hg:dz 1 (.int k) env=aj e0):∃(C':Ce)(env':En),Ff e0 C=aj (.nx,env',C')/\RE ns env':=by
 cases hE with
 |mk v1 v2 v3 v4 v5 v6 v7 v8 v9 v10 v11 uD uE uF Dl uG uH uI Dr=>
 cases hg;refine hide λGG gg=>?_
 obtain⟨x,y,hb,x0,y0,y3⟩:=alM (C:=C) (ns:=ns) k0 k9
 have hB0:=alF C x0 y0 y3
 obtain⟨zs,C1,e2,hN,h6,Hl⟩:=ajl (m:=6) (j:=799760) hB0 (by decide) (by decide)
 have h6:zs.length=6:=by rw[h6];rfl
 obtain⟨w,p,b,x3,x4,x5,rfl⟩:∃w p b x3 x4 x5,zs=[w,p,b,x3,x4,x5]:=by
  match zs,h6 with
  |[w,p,b,x3,x4,x5],_=>exact⟨_,_,_,_,_,_,rfl⟩
 obtain⟨k1,C2,e3,a1,b1,hB2⟩:=wQ (k:=799759) (m:=3) Hl (by decide) (by decide)
 obtain⟨k2,C3,e4,a2,b2,hB3⟩:=wQ (k:=799758) (m:=9000) hB2 (by decide) (by decide)
 obtain⟨k3,C4,e5,a3,b3,hB4⟩:=wQ (k:=799757) (m:=100000000) hB3 (by decide) (by decide)
 obtain⟨hd,cl,ot,hch,K⟩:∃hd cl ot,((k1=0/\hd=p/\cl=w/\ot=b)\/(k1≠0/\hd=x3/\cl=x4/\ot=x5))/\Kn [w,p,b,x3,x4,x5] w p b hd cl ot:=by
  have nd:=hN.1;simp only[kI,bJ,iZ,or_false,not_or] at nd;have Ds:∀z∈[w,p,b,x3,x4,x5],z≠em:=λz hz e=>by
   have:=hN.2 z hz;rw[e,amU] at this;cases this
  by_cases h:k1=0
  .exact⟨p,w,b,.inl ⟨h,rfl,rfl,rfl⟩,⟨hN,rfl,rfl,rfl,nd.1.1,nd.1.2.1,nd.2.1.1,by simp,by simp,by simp,fQ nd.1.1,nd.2.1.1,nd.1.2.1,Ds _ (by simp),Ds _ (by simp),Ds _ (by simp)⟩⟩
  .exact⟨x3,x4,x5,.inr ⟨h,rfl,rfl,rfl⟩,⟨hN,rfl,rfl,rfl,nd.1.1,nd.1.2.1,nd.2.1.1,by simp,by simp,by simp,nd.2.2.2.1.1,nd.2.2.2.1.2,nd.2.2.2.2.1,Ds _ (by simp),Ds _ (by simp),Ds _ (by simp)⟩⟩
 obtain⟨l,ru,A⟩:=alR C4 ns K (day:=10+k2) (low:=1+k3) (by lia) (by lia) (by lia) (by lia)
 obtain⟨apz,t5,hE5⟩:=A.tr _ (.mk (aj (.im (.int k))) (aj (.ce C.length)) (aj (.ow (.list [.str w,.str p,.str b,.str x3,.str x4,.str x5]))) (aj (.im (.tuple [dI (0,hd,7,w,10+k2,10+k2+50),dI (1,cl,3,p,10+k2,10+k2+20),dI (4,cl,5,p,10+k2+10,10+k2+30),dI (5,ot,9,b,0,99999)]))) (aj (.ow (.list [cP (r1 w (1+k3)),cP (r2 w b (1+k3)),cP (r3 w p (1+k3))]))) (aj (.im (.tuple (l.map eN)))) uG uH uI Dr)
 have sP:=A.sP;have sU:=A.sU;have Lx:=A.Lx;have ov:=A.ov;have ne:=A.ne;have se:=A.se;have nB:Kl (.bool au) (.bool au)=aj (.im (.bool aD)):=rfl;have tP:tY [.list (l.map eN)]=aj (.im (.tuple (l.map eN))):=rfl;have tU:tY [.list (ru.map cP)]=aj (.im (.tuple (ru.map cP))):=rfl;have f1:(.tuple [.str w,.int (1+k3),.tuple [.tuple [.int 2,.str (bZ "")],.tuple [.int 2,.str (bZ "")]]]:aA)=cP (r1 w (1+k3)):=rfl;have f2:(.tuple [.str w,.int (1+k3+10),.tuple [.tuple [.int 5,.str w],.tuple [.int 3,.str b]]]:aA)=cP (r2 w b (1+k3)):=rfl;have f3:(.tuple [.str p,.int (1+k3+5),.tuple [.tuple [.int 4,.str (bZ "")],.tuple [.int 1,.str w],.tuple [.int 4,.str p]]]:aA)=cP (r3 w p (1+k3)):=rfl;have al:cL (.list [cP (r1 w (1+k3)),cP (r2 w b (1+k3))]) (.list [cP (r3 w p (1+k3))])=aj (.ow (.list [cP (r1 w (1+k3)),cP (r2 w b (1+k3)),cP (r3 w p (1+k3))])):=rfl;have at1:∀u v z:aA,cL (.tuple [u,v]) (.tuple [z])=aj (.im (.tuple [u,v,z])):=λ_ _ _=>rfl
 have at2:∀u v y z:aA,cL (.tuple [u,v,y]) (.tuple [z])=aj (.im (.tuple [u,v,y,z])):=λ_ _ _ _=>rfl
 have c3:xR ao (aj 3) (.list [.str w,.str p,.str b,.str x3,.str x4,.str x5])=aj (.ow (.list [.str w,.str p,.str b])):=rfl;have c4:xR (aj 3) ao (.list [.str w,.str p,.str b,.str x3,.str x4,.str x5])=aj (.ow (.list [.str x3,.str x4,.str x5])):=rfl;have fh:(.tuple [.tuple (l.map eN),.tuple [dI (0,hd,7,w,10+k2,10+k2+50),dI (1,cl,3,p,10+k2,10+k2+20),dI (4,cl,5,p,10+k2+10,10+k2+30),dI (5,ot,9,b,0,99999)],.tuple [],.tuple (ru.map cP)]:aA)=di ⟨l,jZ w p b hd cl ot (10+k2),[],ru⟩:=rfl;have fk:(.tuple [.tuple [.int 0,.str hd,.int 7,.str w,.int (10+k2),.int (10+k2+50)],.tuple [.int 1,.str cl,.int 3,.str p,.int (10+k2),.int (10+k2+20)],.tuple [.int 4,.str cl,.int 5,.str p,.int (10+k2+10),.int (10+k2+30)],.tuple [.int 5,.str ot,.int 9,.str b,.int 0,.int 99999]]:aA)=.tuple [dI (0,hd,7,w,10+k2,10+k2+50),dI (1,cl,3,p,10+k2,10+k2+20),dI (4,cl,5,p,10+k2+10,10+k2+30),dI (5,ot,9,b,0,99999)]:=rfl;have hR:=hE5.re;cases hE5 with
 |mk u1 u2 u3 u12 u13 u14 u16 u17 u18 u19=>
 refine gg ⟨C4,_,?_,hR⟩;rcases hch with⟨rfl,rfl,rfl,rfl⟩|⟨hk,rfl,rfl,rfl⟩
 .simp_arith[Ff,CW,hb,intsOf,e2,oF,oE,oX,c3,c4,Dq,e3,e4,ac0,e5,f1,f2,f3,al,at1,at2,fk,sP,tP,sU,tU,fh,Lx,nB,ov,ne,nY,t5,se,decide_true]
 .have hk':=beq_eq_false_iff_ne.mpr hk;have hk2:=iU hk;simp_arith[Ff,CW,hb,intsOf,e2,oF,oE,oX,c3,c4,Dq,e3,e4,ac0,e5,f1,f2,f3,al,at1,at2,fk,sP,tP,sU,tU,fh,Lx,nB,ov,ne,nY,t5,se,hk',hk2]
theorem ajt(ns:List Int)(h:ns.length<=63):∃C',Cz [.sc ns] []=aj (.im (.bool au),C'):=by
 obtain⟨m,hm,m1,m2⟩:∃m:Int,(1+if(ns.length:Int)<8 then(ns.length:Int) else 8)=m/\0<=m/\m<=9:=⟨_,rfl,by split<;>lia,by split<;>lia⟩
 obtain⟨env',C',e,he⟩:=YQ (g:=dz 1) (body:=Ff) (its:=pW 0 m.toNat) (env:=[aj (.sc ns),ao,ao,ao,ao,ao,ao,ao,ao,ao,ao,ao,ao,ao,ao,ao,ao,ao,ao,ao]) (C:=[])
  (λi env C1=>RE ns env) (.mk ..) (λi d env C1 hd hI=>by
   obtain⟨rfl,hi⟩:=RC hd
   have hg:∃e0,dz 1 (.int (0+i)) env=aj e0:=by cases hI;exact⟨_,rfl⟩
   obtain⟨e0,hg⟩:=hg
   obtain⟨C2,e1,e,hE⟩:=ajs (C:=C1) hI (by lia) (by lia) hg
   exact⟨e0,.nx,e1,C2,hg,e,.inl rfl,hE⟩)
 refine⟨C'.take 0,?_⟩
 unfold Cz fN;rw[aZ (show[Vl.sc ns].length=1 from rfl),show([Vl.sc ns].map aj++cA (20-[Vl.sc ns].length) ao)=[aj (.sc ns),ao,ao,ao,ao,ao,ao,ao,ao,ao,ao,ao,ao,ao,ao,ao,ao,ao,ao,ao] from rfl];simp_arith[Tn,nY,uC,xg,Kf,hm,Ua (m:=m) (by lia) (by lia),e,Gq]
theorem all_mk{l:Wg}{w:bA}{K:aJ}{h:bh}{mg:Str->Option Value}{fa:az}{cB cD cF cC cG cH cI cJ:Tok}(X:K.In h)(G:h.Ns fW mg)(hfa:mg "law"=aj (.ref fa))
  (d0:gn K "parts_over" Ij)
  (d1:gn K "seats_of" Es)
  (d2:gn K "rules_for" Iu)
  (d3:gn K "is_name" Jk)
  (d4:gn K "is_number" OJ)
  (d5:gn K "is_house" Jd)
  (d6:gn K "are_parts" wB)
  (d7:gn K "comes_to_an_end" Mw)
  (d8:gn K "are_ranks" El)
  (d9:gn K "is_rank_row" NZ)
  (d10:gn K "are_leaves" Ef)
  (d11:gn K "is_leave_row" Nr)
  (d12:gn K "are_rules" Em)
  (d13:gn K "is_rule_row" Ib)
  (d14:gn K "is_tuple_of" N5)
  (d15:gn K "are_tuples_of" HD)
  (d16:gn K "is_rising" Iv)
  (d17:gn K "is_from_nought" M3)
  (d18:gn K "is_rank" Qo)
  (d19:gn K "are_days" Pq)
  (d20:gn K "rank_of" Jl)
  (d21:gn K "holders_of" Eg)
  (d22:gn K "_law_box" Sx)
  (d23:gn K "_law_take" RQ)
  (d24:gn K "_law_names" Ba)
  (d25:gn K "_law_same" FJ)
  (d26:gn K "_law_seats_right" yg)
  (d27:gn K "law" Ti)
  (KC:jQ K fW "abs"=aj ao)
  (oV:jQ K fW "all"=aj ao)
  (BZ:jQ K fW "bool"=aj ao)
  (xj:jQ K fW "int"=aj ao)
  (lE:jQ K fW "isinstance"=aj ao)
  (rW:jQ K fW "len"=aj ao)
  (Gg:jQ K fW "list"=aj ao)
  (KD:jQ K fW "max"=aj ao)
  (Tj:jQ K fW "min"=aj ao)
  (Bp:jQ K fW "range"=aj ao)
  (Bb:jQ K fW "sorted"=aj ao)
  (Gu:jQ K fW "str"=aj ao)
  (rG:jQ K fW "tuple"=aj ao)
  (KH:jQ K fW "zip"=aj ao)
  (afu:jQ K fW "HIGHEST_RANK"=aj (aj (.int 9 cB)))
  (afO:jQ K fW "LOWEST_RANK"=aj (aj (.int 1 cD)))
  (afP:jQ K fW "MOST_LEAVES"=aj (aj (.int 16 cF)))
  (afv:jQ K fW "MOST_LETTERS"=aj (aj (.int 8 cC)))
  (agn:jQ K fW "MOST_PARTS"=aj (aj (.int 8 cG)))
  (ago:jQ K fW "MOST_RANKS"=aj (aj (.int 20 cH)))
  (agp:jQ K fW "MOST_RULES"=aj (aj (.int 10 cI)))
  (agq:jQ K fW "MOST_SEATS"=aj (aj (.int 6 cJ)))
  :∃fd:dH,(∀(s:aG)(v:Value),yE s fd ⟨[v],[]⟩ [("_law_script",v)])/\∀base:bh,K.In base->base.Ns fW mg->dG l.prog w K mg base eY 7 fa fd ["_law_script"] (spT K Cz):=by
 have T:Txt K mg cB cD cF cC cG cH cI cJ:=⟨pC X G KC,pC X G oV,pC X G BZ,pC X G xj,pC X G lE,pC X G rW,pC X G Gg,pC X G KD,pC X G Tj,pC X G Bp,pC X G Bb,pC X G Gu,pC X G rG,pC X G KH,tH X G afu,tH X G afO,tH X G afP,tH X G afv,tH X G agn,tH X G ago,tH X G agp,tH X G agq⟩
 refine d27.law X G hfa (λbase f fd F=>?_) (λ_ _ _ _ _ _=>(cU λ_=>(jh rfl)));have uR:=d0.has X G (λf fd F=>afI (P:=l.prog) (w:=w) (base:=base) F T) (λ_ _ _ _ _ _=>(cU λ_=>(cU λ_=>(jh rfl))));have O7:=d2.has X G (λf fd F=>agf (P:=l.prog) (w:=w) (base:=base) F T uR) (λ_ _ _ _ _ _=>(cU λ_=>(cU λ_=>(jh rfl))));have An:=d1.has X G (λf fd F=>agG (P:=l.prog) (w:=w) (base:=base) F T O7) (λ_ _ _ _ _ _=>(cU λ_=>(cU λ_=>(cU λ_=>(jh rfl)))));have tQ:=d3.has X G (λf fd F=>ahm (P:=l.prog) (w:=w) (base:=base) F T) (λ_ _ _ _ _ _=>(cU λ_=>(jh rfl)));have Aj:=d4.has X G (λf fd F=>agg (P:=l.prog) (w:=w) (base:=base) F T) (λ_ _ _ _ _ _=>(cU λ_=>(jh rfl)));have Ae:=d14.has X G (λf fd F=>afq (P:=l.prog) (w:=w) (base:=base) F T) (λ_ _ _ _ _ _=>(cU λ_=>(cU λ_=>(jh rfl))));have nu:=d15.has X G (λf fd F=>ae5 (P:=l.prog) (w:=w) (base:=base) F T Ae) (λ_ _ _ _ _ _=>(cU λ_=>(cU λ_=>(cU λ_=>(jh rfl)))));have qm:=d16.has X G (λf fd F=>agh (P:=l.prog) (w:=w) (base:=base) F T) (λ_ _ _ _ _ _=>(cU λ_=>(jh rfl)));have oH:=d17.has X G (λf fd F=>aeL (P:=l.prog) (w:=w) (base:=base) F T Aj) (λ_ _ _ _ _ _=>(cU λ_=>(jh rfl)));have Ar:=d18.has X G (λf fd F=>ahn (P:=l.prog) (w:=w) (base:=base) F T Aj) (λ_ _ _ _ _ _=>(cU λ_=>(jh rfl)));have Am:=d19.has X G (λf fd F=>agH (P:=l.prog) (w:=w) (base:=base) F T oH) (λ_ _ _ _ _ _=>(cU λ_=>(cU λ_=>(jh rfl))));have Mz:=d7.has X G (λf fd F=>aer (P:=l.prog) (w:=w) (base:=base) F T) (λ_ _ _ _ _ _=>(cU λ_=>(cU λ_=>(jh rfl))));have O8:=d6.has X G (λf fd F=>agi (P:=l.prog) (w:=w) (base:=base) F T tQ nu qm Mz) (λ_ _ _ _ _ _=>(cU λ_=>(jh rfl)));have Oc:=d9.has X G (λf fd F=>afr (P:=l.prog) (w:=w) (base:=base) F T tQ oH Ar Am) (λ_ _ _ _ _ _=>(cU λ_=>(cU λ_=>(jh rfl))));have O9:=d8.has X G (λf fd F=>agj (P:=l.prog) (w:=w) (base:=base) F T nu qm Oc) (λ_ _ _ _ _ _=>(cU λ_=>(cU λ_=>(jh rfl))));have Nz:=d11.has X G (λf fd F=>afc (P:=l.prog) (w:=w) (base:=base) F T tQ oH Am) (λ_ _ _ _ _ _=>(cU λ_=>(cU λ_=>(jh rfl))));have Ow:=d10.has X G (λf fd F=>afJ (P:=l.prog) (w:=w) (base:=base) F T nu qm Nz) (λ_ _ _ _ _ _=>(cU λ_=>(cU λ_=>(jh rfl))));have Od:=d13.has X G (λf fd F=>afs (P:=l.prog) (w:=w) (base:=base) F T nu oH Ar) (λ_ _ _ _ _ _=>(cU λ_=>(cU λ_=>(jh rfl))));have Pa:=d12.has X G (λf fd F=>agk (P:=l.prog) (w:=w) (base:=base) F T nu qm Od) (λ_ _ _ _ _ _=>(cU λ_=>(cU λ_=>(jh rfl))));have Pz:=d5.has X G (λf fd F=>agI (P:=l.prog) (w:=w) (base:=base) F T Ae O8 O9 Ow Pa) (λ_ _ _ _ _ _=>(cU λ_=>(jh rfl)));have uY:=d20.has X G (λf fd F=>aho (P:=l.prog) (w:=w) (base:=base) F T uR) (λ_ _ _ _ _ _=>(cU λ_=>(cU λ_=>(cU λ_=>(cU λ_=>(jh rfl))))));have Eh:=d21.has X G (λf fd F=>afK (P:=l.prog) (w:=w) (base:=base) F T uY) (λ_ _ _ _ _ _=>(cU λ_=>(cU λ_=>(cU λ_=>(cU λ_=>(jh rfl))))));have SJ:=d22.has X G (λf fd F=>akA (P:=l.prog) (w:=w) (base:=base) F T) (λ_ _ _ _ _ _=>(cU λ_=>(cU λ_=>(jh rfl))));have qz:=d23.has X G (λf fd F=>ajj (P:=l.prog) (w:=w) (base:=base) F T) (λ_ _ _ _ _ _=>(cU λ_=>(cU λ_=>(jh rfl))));have Ra:=d24.has X G (λf fd F=>ah9 (P:=l.prog) (w:=w) (base:=base) F T qz) (λ_ _ _ _ _ _=>(cU λ_=>(cU λ_=>(jh rfl))));have qC:=d25.anJ X G (λf fd hm hk hb F=>Y6 (P:=l.prog) (w:=w) (base:=base) hm hk hb F T 4) (λ_ _ _ _ _ _=>(cU λ_=>(cU λ_=>(jh rfl))));have NB:=d26.has X G (λf fd F=>afd (P:=l.prog) (w:=w) (base:=base) F T An qC) (λ_ _ _ _ _ _=>(cU λ_=>(cU λ_=>(cU λ_=>(cU λ_=>(cU λ_=>(jh rfl)))))));exact alL F T uR Pz uY Eh SJ qz Ra qC NB
theorem walk{l:Wg}{q:bB}{loose:List Str}{XP:(Str->Option Value)->bh->Prop}{YP:bA->bh->Prop}{d:DefRec}{K:Params->aJ}(hn:l.most=aj 63)(hdf:d.params.defaults=[])
  (hY:∀(w:bA)(h:bh),YP w h->(K w.params).In h)
  (F:∀(w:bA)(mg:Str->Option Value)(fa:az)(h:bh),(K w.params).In h->h.Ns fW mg->mg d.name=aj (.ref fa)->
   ∃fd:dH,(∀(s:aG)(u:Value),yE s fd ⟨[u],[]⟩ [("_law_script",u)])/\∀base:bh,(K w.params).In base->base.Ns fW mg->dG l.prog w (K w.params) mg base eY 7 fa fd ["_law_script"] (spT (K w.params) Cz)):
  afx q loose XP YP l.row.toRowW d [] (λf vs=>X4 f vs):=
 L2.ajK (n:=63) (k:=7) (x:="_law_script") (CX:=λ_=>eY) (sp:=λw=>spT (K w.params) Cz) hn (by decide) hdf ⟨rfl,by decide,by decide,rfl⟩ hY F (λ_ _ a ns hl _ hS=>let ⟨_,h⟩:=ajt ns hl;alw hS h) λ_ _ _ _ _ z=>z
end Vf
namespace PySem.W.Fast
def tw10101709936745257336:=0
def tw10685710290400107481:=0
def tw113186291429987618:=0
def tw11657530334812646611:=0
def tw12559090924517854560:=0
def tw12610614037591658069:=0
def tw13087641813231471203:=0
def tw13162939580737649724:=0
def tw13327549019510910981:=0
def tw14287735431057808457:=0
def tw14642691062527193889:=0
def tw14809110902878375153:=0
def tw14895714312330415636:=0
def tw14903677386740729442:=0
def tw149350749581186570:=0
def tw14951607954476317889:=0
def tw15379573227751913288:=0
def tw15765101784701022489:=0
def tw16327690568014573506:=0
def tw1644966856081555089:=0
def tw16564386119418939179:=0
def tw16599322654686765829:=0
def tw16733620286437872600:=0
def tw17311545202791977839:=0
def tw17586695940306122756:=0
def tw17727733234557605920:=0
def tw17903652859700967069:=0
def tw1841517189192128065:=0
def tw192747116234286284:=0
def tw1989739730749103061:=0
def tw22424523121372660:=0
def tw2593204571951341883:=0
def tw3383521607992774519:=0
def tw3387007286265553356:=0
def tw3527504599078020074:=0
def tw3594407756015938679:=0
def tw404863466154651117:=0
def tw4198876349843201873:=0
def tw4290493386656841177:=0
def tw4454633903362443821:=0
def tw4636620277417103790:=0
def tw493161159827417197:=0
def tw5139014633993456095:=0
def tw5193447802753767849:=0
def tw5209065474557638107:=0
def tw5209451253813629672:=0
def tw5479890109107541161:=0
def tw5861997173255348837:=0
def tw5976169811039651458:=0
def tw6185195650565453113:=0
def tw6383265365895496226:=0
def tw6759384610643066923:=0
def tw6921495183807473032:=0
def tw8232077400144381429:=0
def tw8541950990346636701:=0
def tw8731911789127641845:=0
def tw9186218658548266788:=0
def tw9461978973449866323:=0
end PySem.W.Fast
open PySem PySem.W PyProof.Rows
set_option maxRecDepth 100000 in
set_option maxHeartbeats 0 in
theorem PySem.Challenge.cw_rankseals_k12_known_houses_holds : PySem.Challenge.rw_rankseals_k12_known_houses.Holds := by
 w_on;o_law;k_head;(case hw=>w_witness2)
 k_fill
 refine Vf.walk (l:=PySem.Challenge.rw_rankseals_k12_known_houses) rfl rfl (λw h Y=>PySem.W.kIn_of Y) ?F
 case F=>
  intro w mg fa h KX G hmg
  refine' Vf.all_mk KX G hmg ?_ ?_ ?_ ?_ ?_ ?_ ?_ ?_ ?_ ?_ ?_ ?_ ?_ ?_ ?_ ?_ ?_ ?_ ?_ ?_ ?_ ?_ ?_ ?_ ?_ ?_ ?_ ?_ ?_ ?_ ?_ ?_ ?_ ?_ ?_ ?_ ?_ ?_ ?_ ?_ ?_ ?_ ?_ ?_ ?_ ?_ ?_ ?_ ?_ ?_
  all_goals try first|exact .mk (by k_is) (by k_is) (by k_is) (by k_is)|k_is
